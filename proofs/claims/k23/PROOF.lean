import PyProof.Rows.All
import Wide.All
import OpenK.AllK
import Wide.FinOn
import KE.KStateDown
import KE.KExcSuper
import HandS.ExcInit
import HandS.Words
import HandS.FStr
import HandS.Head0
import HandS.Head1
import HandS.Head2
import HandS.HeadHook1
import HandS.HeadHook2
import HandS.ForMost
import HandS.ForExc
import HandS.Star
import HandS.DictComp
import KE.KOpsOwn
import HandS.Wide
import HandS.TupAny
import HandS.IsInst
import HandS.Comp
import HandS.Text
import HandS.Iter
import HandS.Ends
import HandS.EndOwn
import HandS.SlotsOwn
import HandS.ListItems
import HandS.ExcField
import HandS.ClsMeth
import KE.KFmtOwn
import KE.KCallOwn
import HandS.WrittenGet
import HandS.RaiseMore
import KE.KxIndex
import HandS.SetTxt0
import HandS.Set
import HandS.SetFor
import HandS.TupSets
import HandS.Strs
import PyProof.Rows.SortShellAny
import PyProof.ZipIter
import KE.GoesZip
import KE.GoesEnum
import KE.GoesMore
import HandS.Zip
import HandS.Defaults
import HandS.Style
import KE.LtSeq
import PyProof.Rows.IntBool
import KE.KEqDict
import PyProof.DictUpdate
import PyProof.DictDisplay
import KE.DataEq
import HandS.SortKw
import KE.SortKeyHeap
import HandS.More
import HandS.WordsDict
import KE.KDictSum
import KE.KIndexOf
import HandS.NoneIn
import PyProof.SetRoads
import PySem.Challenge.RW_noneorsome_k23_stocks_reckoned
set_option Elab.async false
set_option linter.all false
set_option maxRecDepth 100000
set_option maxHeartbeats 4000000
/-! the small head: what the top has left, read off in one run of the kernel -/
namespace Dl
open PySem PySem.Spec L2
open PyProof.Rows hiding St Binds

/-! ### the part of the heap that is looked at -/
/-- what hangs on an object: a class's names and bases, a function's code, defaults and cells, a static method's function -/
def hangs (o : Obj) : List Addr := match o.data with
  | .cls cd => cd.ns :: (cd.mro.drop 1).flatMap He.refV
  | .seq its _ => its.toList.flatMap He.refV
  | .dict es _ => es.toList.flatMap fun e => He.refV e.val
  | .func fd => He.refV fd.code ++ (He.refV fd.defaults ++ fd.closure.map fun q => q.2)
  | .fields vs => bif decide (o.cls = .type "staticmethod") then vs.toList.flatMap He.refV else []
  | _ => []
/-- some objects and what hangs on them, n steps down -/
def below (g : Addr → Option Obj) : Nat → List Addr → List Addr
  | 0, as => as
  | n + 1, as => as ++ below g n (as.flatMap fun a => match g a with
    | some o => hangs o
    | none => [])
def partOf (g : Addr → Option Obj) : PySem.W.Frag := He.frG g (cStatics :: below g 5 [mainGlobals])

/-! ### functions -/
/-- where a function stands, what it is called, its def in the text; its cells and its defaults -/
structure Fd where
  loc : PySem.W.Frag → Addr
  x : Str
  q : Str
  st : Stmt
  cl : PySem.W.Frag → List (Str × Addr)
  dv : PySem.W.Frag → Value
abbrev FdT : Type := Str × Str × Arguments × FuncBody × Scope
def Fd.text (d : Fd) : FdT := (d.x, d.q, defArgs d.st, .stmts (defBody d.st), defScope d.st)
def fdAt (K : PySem.W.Frag) (a : Addr) : Option FuncData := match K.lookup a with
  | some ⟨_, _, .func fd, _⟩ => some fd
  | _ => none
def fdText (fd : FuncData) : FdT := (fd.name, fd.qualname, fd.params, fd.body, fd.scope)
def Fd.seen (K : PySem.W.Frag) (d : Fd) : Option FdT := (fdAt K (d.loc K)).map fdText
def fdRest (K : PySem.W.Frag) (d : Fd) (fd : FuncData) : Bool :=
  decide (fd.globals = mainGlobals) && (decide (fd.builtins = builtinsNs) && (decide (fd.closure = d.cl K) && (decide (fd.defaults = d.dv K) && PySem.W.codeIn K fd.code d.q)))
def Fd.rest (K : PySem.W.Frag) (d : Fd) : Bool := match fdAt K (d.loc K) with
  | some fd => fdRest K d fd
  | none => false
theorem fdAt_lk {K : PySem.W.Frag} {a : Addr} {fd : FuncData} (h : fdAt K a = some fd) : ∃ oc od sl, K.lookup a = some ⟨oc, od, .func fd, sl⟩ := by
  unfold fdAt at h
  split at h
  · rename_i oc od fd' sl e
    rw [Option.some.inj h] at e
    exact ⟨oc, od, sl, e⟩
  · cases h
theorem Fd.at_ {K : PySem.W.Frag} {d : Fd} (h1 : d.seen K = some d.text) (h2 : d.rest K = true) :
    ∃ fd, fdAt K (d.loc K) = some fd ∧ fdText fd = d.text ∧ fdRest K d fd = true := by
  unfold Fd.rest at h2
  unfold Fd.seen at h1
  cases e : fdAt K (d.loc K) with
  | none => rw [e] at h1; cases h1
  | some fd =>
    rw [e] at h1 h2
    exact ⟨fd, rfl, Option.some.inj h1, h2⟩
/-- a function without cells -/
theorem Fd.plain {K : PySem.W.Frag} {d : Fd} (h1 : d.seen K = some d.text) (h2 : d.rest K = true) (hc : d.cl K = []) :
    ∃ oc od sl kV dc pm an cd ct, K.lookup (d.loc K) = some ⟨oc, od, .func (PySem.W.fnOf d.x d.q (defArgs d.st) (defBody d.st) (defScope d.st) (d.dv K) kV dc pm an cd ct), sl⟩ ∧ PySem.W.codeIn K cd d.q = true := by
  obtain ⟨fd, e, t, r⟩ := Fd.at_ h1 h2
  obtain ⟨oc, od, sl, lk⟩ := fdAt_lk e
  obtain ⟨n1, n2, n3, n4, n5, n6, n7, n8, n9, n10, n11, n12, n13, n14, n15⟩ := fd
  simp only [fdText, Fd.text, Prod.mk.injEq] at t
  simp only [fdRest, Bool.and_eq_true, decide_eq_true_eq, hc] at r
  obtain ⟨rfl, rfl, rfl, rfl, rfl⟩ := t
  obtain ⟨rfl, rfl, rfl, rfl, c⟩ := r
  exact ⟨oc, od, sl, n9, n10, n11, n12, n13, n14, lk, c⟩
/-- a function with the class's cell -/
theorem Fd.celled {K : PySem.W.Frag} {d : Fd} {cc : Addr} (h1 : d.seen K = some d.text) (h2 : d.rest K = true) (hc : d.cl K = [(("__class__" : Str), cc)]) :
    ∃ oc od sl kV dc pm an cd ct, fdAt K (d.loc K) = some (PySem.W.ksFn d.x d.q (defArgs d.st) (defBody d.st) (defScope d.st) (d.dv K) kV dc pm an cd ct cc) ∧ K.lookup (d.loc K) = some ⟨oc, od, .func (PySem.W.ksFn d.x d.q (defArgs d.st) (defBody d.st) (defScope d.st) (d.dv K) kV dc pm an cd ct cc), sl⟩ ∧ PySem.W.codeIn K cd d.q = true := by
  obtain ⟨fd, e, t, r⟩ := Fd.at_ h1 h2
  obtain ⟨oc, od, sl, lk⟩ := fdAt_lk e
  obtain ⟨n1, n2, n3, n4, n5, n6, n7, n8, n9, n10, n11, n12, n13, n14, n15⟩ := fd
  simp only [fdText, Fd.text, Prod.mk.injEq] at t
  simp only [fdRest, Bool.and_eq_true, decide_eq_true_eq, hc] at r
  obtain ⟨rfl, rfl, rfl, rfl, rfl⟩ := t
  obtain ⟨rfl, rfl, rfl, rfl, c⟩ := r
  exact ⟨oc, od, sl, n9, n10, n11, n12, n13, n14, e, lk, c⟩

/-! ### paths -/
/-- the module's name x, if it is an object -/
abbrev gA (x : Str) (K : PySem.W.Frag) : Addr := He.ga K x
/-- the class C's attribute m, if it is an object -/
abbrev mA (C m : Str) (K : PySem.W.Frag) : Addr := He.ma K (He.ga K C) m
/-- a function's code, its defaults' tuple, its first cell -/
def codeAt (f : PySem.W.Frag → Addr) (K : PySem.W.Frag) : Addr := match fdAt K (f K) with
  | some fd => (match fd.code with
    | .ref a => a
    | _ => 0)
  | none => 0
def dflAt (f : PySem.W.Frag → Addr) (K : PySem.W.Frag) : Addr := match fdAt K (f K) with
  | some fd => (match fd.defaults with
    | .ref a => a
    | _ => 0)
  | none => 0
def cellAt (f : PySem.W.Frag → Addr) (K : PySem.W.Frag) : Addr := match fdAt K (f K) with
  | some fd => (match fd.closure with
    | q :: _ => q.2
    | [] => 0)
  | none => 0

/-! ### single facts: each a Bool, and what it says -/
/-- a tuple of these texts, or of what a test admits -/
def tupB (a : Addr) (vs : List V) (K : PySem.W.Frag) : Bool := match K.lookup a with
  | some ⟨c, _, .seq its _, _⟩ => decide (c = .type "tuple") && (decide (its.size ≤ sizeLine) && He.relAll vs its.toList)
  | _ => false
theorem tupB_ok {K : PySem.W.Frag} {a : Addr} {vs : List V} (h : tupB a vs K = true) : ∃ (d : Option Addr) (its : Array Value) (n : Nat) (sl : Array (Option Value)), K.lookup a = some ⟨.type "tuple", d, .seq its n, sl⟩ ∧ its.size ≤ sizeLine ∧ Vals vs its.toList := by
  unfold tupB at h
  split at h
  · rename_i c d its n sl e
    simp only [Bool.and_eq_true, decide_eq_true_eq] at h
    obtain ⟨rfl, h1, h2⟩ := h
    exact ⟨d, its, n, sl, e, h1, He.relAll_ok h2⟩
  · cases h
/-- a tuple of these very values -/
def tupVB (a : Addr) (vs : List Value) (K : PySem.W.Frag) : Bool := match K.lookup a with
  | some ⟨c, _, .seq its _, _⟩ => decide (c = .type "tuple") && decide (its.toList = vs)
  | _ => false
theorem tupVB_ok {K : PySem.W.Frag} {a : Addr} {vs : List Value} (h : tupVB a vs K = true) : ∃ d n sl, K.lookup a = some ⟨.type "tuple", d, .seq vs.toArray n, sl⟩ := by
  unfold tupVB at h
  split at h
  · rename_i c d its n sl e
    simp only [Bool.and_eq_true, decide_eq_true_eq] at h
    obtain ⟨rfl, h2⟩ := h
    subst h2
    exact ⟨d, n, sl, by simpa using e⟩
  · cases h
/-- the module's name is this number -/
def intB (x : Str) (i : Int) (K : PySem.W.Frag) : Bool := match PySem.W.nsIn K mainGlobals x with
  | some (some (.int j _)) => decide (j = i)
  | _ => false
theorem intB_ok {K : PySem.W.Frag} {x : Str} {i : Int} (h : intB x i K = true) : ∃ t, PySem.W.nsIn K mainGlobals x = some (some (.int i t)) := by
  unfold intB at h
  split at h
  · rename_i j t e
    rw [decide_eq_true_eq] at h
    subst h
    exact ⟨t, e⟩
  · cases h
/-- an error's class -/
def excB (C : Addr) (K : PySem.W.Frag) : Bool := match K.lookup C with
  | some ⟨c, _, .cls cd, sl⟩ => (match cd.mro, sl.toList with
    | .ref D :: bm, [_, _, _, _, some (.builtin n), _] => decide (c = .type "type") && (decide (D = C) && (decide (n = "ValueError.__new__") && (!cd.hasDel && (cd.hasDict && PySem.HandSPX.refsVE bm))))
    | _, _ => false)
  | _ => false
theorem excB_ok {C : Addr} {K : PySem.W.Frag} (h : excB C K = true) : ∃ nm q N bs bm sn sub ab col dd k0 k1 k2 k3 k5, K.lookup C = some (excClassObj nm q C N bs bm true sn sub ab col dd k0 k1 k2 k3 k5 "ValueError.__new__") ∧ PySem.HandSPX.refsVE bm = true := by
  unfold excB at h
  split at h
  · rename_i c dd cd sl e
    split at h
    · rename_i D bm k0 k1 k2 k3 n k5 hm hs
      simp only [Bool.and_eq_true, decide_eq_true_eq, Bool.not_eq_true'] at h
      obtain ⟨rfl, rfl, rfl, hdel, hd, hb⟩ := h
      obtain ⟨nm, bs, mro, ns, q, hdct, sn, sub, ab, col, del⟩ := cd
      dsimp only at hm hdel hd
      subst hm hdel hd
      obtain ⟨l⟩ := sl
      have hs : l = _ := hs
      subst hs
      exact ⟨nm, q, ns, bs, bm, sn, sub, ab, col, dd, k0, k1, k2, k3, k5, e, hb⟩
    · cases h
  · cases h
/-- a code object's file -/
def fileB (P : Program) (a : Addr) (K : PySem.W.Frag) : Bool := match K.lookup a with
  | some ⟨_, _, .fields vs, _⟩ => (match (vs[2]? : Option Value) with
    | some (Value.str f _) => (P.main.file : Str) == f
    | _ => false)
  | _ => false
theorem fileB_ok {P : Program} {a : Addr} {K : PySem.W.Frag} (h : fileB P a K = true) : ∃ cl d vs sl f t, K.lookup a = some ⟨cl, d, .fields vs, sl⟩ ∧ vs[2]? = some (.str f t) ∧ ((P.main.file : Str) == f) = true := by
  unfold fileB at h
  split at h
  · rename_i cl d vs sl e
    split at h
    · rename_i f t e2
      exact ⟨cl, d, vs, sl, f, t, e, e2, h⟩
    · cases h
  · cases h
/-- a cell of a class -/
def cellB (a C : Addr) (K : PySem.W.Frag) : Bool := match K.lookup a with
  | some ⟨_, _, .cell v, _⟩ => decide (v = some (.ref C))
  | _ => false
theorem cellB_ok {a C : Addr} {K : PySem.W.Frag} (h : cellB a C K = true) : ∃ cl d sl, K.lookup a = some ⟨cl, d, .cell (some (.ref C)), sl⟩ := by
  unfold cellB at h
  split at h
  · rename_i cl d v sl e
    rw [decide_eq_true_eq] at h
    subst h
    exact ⟨cl, d, sl, e⟩
  · cases h
/-- a function's code is this object -/
def codB (f : PySem.W.Frag → Addr) (K : PySem.W.Frag) : Bool := match fdAt K (f K) with
  | some fd => (match fd.code with
    | .ref _ => true
    | _ => false)
  | none => false
theorem codB_ok {f : PySem.W.Frag → Addr} {K : PySem.W.Frag} {fd : FuncData} (h : codB f K = true) (e : fdAt K (f K) = some fd) : fd.code = .ref (codeAt f K) := by
  unfold codB at h
  unfold codeAt
  rw [e] at h ⊢
  dsimp only at h ⊢
  split at h
  · rename_i a e2
    rw [e2]
  · cases h

/-! ### the Hook -/
abbrev TopA : Type := Bool × List (Option FdT)
def topObs (exs : List (PySem.W.Frag → Bool)) (fns : List Fd) (K : PySem.W.Frag) : TopA := ((exs.all fun f => f K) && fns.all fun d => d.rest K, fns.map fun d => d.seen K)
def topVal (fns : List Fd) : TopA := (true, fns.map fun d => some d.text)
def Told (exs : List (PySem.W.Frag → Bool)) (fns : List Fd) (K : PySem.W.Frag) : Prop := topObs exs fns K = topVal fns
def topHook (exs : List (PySem.W.Frag → Bool)) (fns : List Fd) : PySem.W.Hook where
  α := TopA
  obs := fun s => topObs exs fns (partOf s.heap.get?)
  val := fun _ => topVal fns
  says := fun _ h => ∃ K : PySem.W.Frag, K.In h ∧ Told exs fns K
  of := fun _ _ e => ⟨_, He.frG_in, e⟩
  keeps := fun _ _ _ q k => q.elim fun K z => ⟨K, PySem.W.Frag.In.keeps z.1 k, z.2⟩
def topOb (exs : List (PySem.W.Frag → Bool)) (fns : List Fd) (s : PySem.W.SharedT) : TopA := topObs exs fns (partOf (HandSHeadRun.getT s))
theorem topOb_eq (exs : List (PySem.W.Frag → Bool)) (fns : List Fd) (s : PySem.W.SharedT) : topOb exs fns s = (topHook exs fns).obs s.abs := by
  have e : HandSHeadRun.getT s = s.abs.heap.get? := funext fun a => HandSHeadRun.getT_eq s a
  unfold topOb
  rw [e] <;> rfl
section
variable {exs : List (PySem.W.Frag → Bool)} {fns : List Fd} {K : PySem.W.Frag}
theorem Told.ex (c : Told exs fns K) (i : Nat) {f : PySem.W.Frag → Bool} (h : exs[i]? = some f := by rfl) : f K = true := by
  have c1 : ((exs.all fun f => f K) && fns.all fun d => d.rest K) = true := congrArg (fun z : TopA => z.1) c
  exact List.all_eq_true.mp (Bool.and_eq_true_iff.mp c1).1 f (List.mem_of_getElem? h)
theorem Told.fn (c : Told exs fns K) (i : Nat) {d : Fd} (h : fns[i]? = some d := by rfl) : d.seen K = some d.text ∧ d.rest K = true := by
  have c1 : ((exs.all fun f => f K) && fns.all fun d => d.rest K) = true := congrArg (fun z : TopA => z.1) c
  have c2 : fns.map (fun d => d.seen K) = fns.map fun d => some d.text := congrArg (fun z : TopA => z.2) c
  refine ⟨?_, List.all_eq_true.mp (Bool.and_eq_true_iff.mp c1).2 d (List.mem_of_getElem? h)⟩
  have e : (fns.map fun d => d.seen K)[i]? = (fns.map fun d => some d.text)[i]? := by rw [c2]
  rw [List.getElem?_map, List.getElem?_map, h] at e
  exact Option.some.inj e
theorem Told.pl (c : Told exs fns K) (i : Nat) {d : Fd} (h : fns[i]? = some d := by rfl) (hc : d.cl K = [] := by rfl) :
    ∃ oc od sl kV dc pm an cd ct, K.lookup (d.loc K) = some ⟨oc, od, .func (PySem.W.fnOf d.x d.q (defArgs d.st) (defBody d.st) (defScope d.st) (d.dv K) kV dc pm an cd ct), sl⟩ ∧ PySem.W.codeIn K cd d.q = true :=
  Fd.plain (c.fn i h).1 (c.fn i h).2 hc
/-- an error's own __init__ -/
theorem Told.err (c : Told exs fns K) (i j : Nat) {d : Fd} (h : fns[i]? = some d := by rfl) (hj : exs[j]? = some (codB d.loc) := by rfl) (hc : d.cl K = [(("__class__" : Str), cellAt d.loc K)] := by rfl) :
    ∃ oc od sl kV dc pm an ct, K.lookup (d.loc K) = some ⟨oc, od, .func (PySem.W.ksFn d.x d.q (defArgs d.st) (defBody d.st) (defScope d.st) (d.dv K) kV dc pm an (.ref (codeAt d.loc K)) ct (cellAt d.loc K)), sl⟩ ∧ PySem.W.codeIn K (.ref (codeAt d.loc K)) d.q = true := by
  obtain ⟨oc, od, sl, kV, dc, pm, an, cd, ct, e, lk, ci⟩ := Fd.celled (c.fn i h).1 (c.fn i h).2 hc
  have q : cd = .ref (codeAt d.loc K) := codB_ok (c.ex j hj) e
  rw [q] at lk ci
  exact ⟨oc, od, sl, kV, dc, pm, an, ct, lk, ci⟩
end
theorem of_dec {p : Prop} [Decidable p] (h : decide p = true) : p := of_decide_eq_true h

end Dl

namespace Dl
open PySem PySem.Spec L2
open PyProof.Rows hiding St Binds
def tTop (i : Nat) : Stmt := PySem.Challenge.pw_noneorsome_k23_stocks_reckoned.main.body.getD i (.Pass ⟨0, 0, 0, 0⟩)
def tIn (s : Stmt) (j : Nat) : Stmt := match s with
  | .ClassDef _ _ _ body _ _ _ _ _ _ _ => body.getD j (.Pass ⟨0, 0, 0, 0⟩)
  | _ => .Pass ⟨0, 0, 0, 0⟩
def tReserved : List Str := ["and", "or", "not", "always", "never"]
/-! ### what the top leaves -/
def tXs : List (PySem.W.Frag → Bool) := [fun K => decide (PySem.W.nsIn K mainGlobals "_law_draw" = some (some (.ref (gA "_law_draw" K)))),
  fun K => PySem.W.keepIn K (.ref (gA "_law_draw" K)),
  fun K => decide (PySem.W.nsIn K mainGlobals "_law_same" = some (some (.ref (gA "_law_same" K)))),
  fun K => PySem.W.keepIn K (.ref (gA "_law_same" K)),
  fun K => decide (PySem.W.nsIn K mainGlobals "_law_name" = some (some (.ref (gA "_law_name" K)))),
  fun K => PySem.W.keepIn K (.ref (gA "_law_name" K)),
  fun K => decide (PySem.W.nsIn K mainGlobals "_law_names" = some (some (.ref (gA "_law_names" K)))),
  fun K => PySem.W.keepIn K (.ref (gA "_law_names" K)),
  fun K => decide (PySem.W.nsIn K mainGlobals "is_letter" = some (some (.ref (gA "is_letter" K)))),
  fun K => PySem.W.keepIn K (.ref (gA "is_letter" K)),
  fun K => decide (PySem.W.nsIn K mainGlobals "RESERVED" = some (some (.ref (gA "RESERVED" K)))),
  fun K => tupB (gA "RESERVED" K) (tReserved.map V.str) K,
  intB "LONGEST" 8,
  fun K => decide (PySem.W.nsIn K mainGlobals "is_name" = some (some (.ref (gA "is_name" K)))),
  fun K => PySem.W.keepIn K (.ref (gA "is_name" K)),
  fun K => decide (PySem.W.nsIn K mainGlobals "BadName" = some (some (.ref (gA "BadName" K)))),
  fun K => excB (gA "BadName" K) K,
  fun K => decide (PySem.W.findIn K (.ref (gA "BadName" K)) "__setattr__" = some (some (.builtin "object.__setattr__"))),
  fun K => decide (PySem.W.subIn K (.ref (gA "BadName" K)) (.type "BaseException") = some true),
  fun K => decide (PySem.W.typeIn K (.ref (gA "BadName" K)) = some (.type "type")),
  fun K => PySem.W.keepIn K (.ref (gA "BadName" K)),
  fun K => decide (PySem.W.findIn K (.ref (gA "BadName" K)) "__init__" = some (some (.ref (mA "BadName" "__init__" K)))),
  codB (mA "BadName" "__init__"),
  fun K => decide (PySem.W.typeIn K (.ref (mA "BadName" "__init__" K)) = some (.type "function")),
  fun K => fileB PySem.Challenge.rw_noneorsome_k23_stocks_reckoned.prog (codeAt (mA "BadName" "__init__") K) K,
  fun K => cellB (cellAt (mA "BadName" "__init__") K) (gA "BadName" K) K,
  fun K => decide (PySem.W.mroIn K (gA "BadName" K) (.ref (gA "BadName" K)) = some true),
  fun K => decide (PySem.W.nsIn K mainGlobals "super" = some none),
  fun K => decide (PySem.W.ks_superIn K (gA "BadName" K) (gA "BadName" K) "__init__" = some (some (.builtin "ValueError.__init__"))),
  fun K => decide (PySem.W.subIn K (.ref (gA "BadName" K)) (.type "ValueError") = some true),
  fun K => decide (PySem.W.nsIn K cStatics "thirdparty.any" = some none),
  fun K => decide (PySem.W.findIn K (.ref (gA "BadName" K)) "name" = some none),
  fun K => decide (PySem.W.nsIn K mainGlobals "check_name" = some (some (.ref (gA "check_name" K)))),
  fun K => PySem.W.keepIn K (.ref (gA "check_name" K)),
  fun K => decide (PySem.W.nsIn K mainGlobals "BadNumber" = some (some (.ref (gA "BadNumber" K)))),
  fun K => excB (gA "BadNumber" K) K,
  fun K => decide (PySem.W.findIn K (.ref (gA "BadNumber" K)) "__setattr__" = some (some (.builtin "object.__setattr__"))),
  fun K => decide (PySem.W.subIn K (.ref (gA "BadNumber" K)) (.type "BaseException") = some true),
  fun K => decide (PySem.W.typeIn K (.ref (gA "BadNumber" K)) = some (.type "type")),
  fun K => PySem.W.keepIn K (.ref (gA "BadNumber" K)),
  fun K => decide (PySem.W.findIn K (.ref (gA "BadNumber" K)) "__init__" = some (some (.ref (mA "BadNumber" "__init__" K)))),
  codB (mA "BadNumber" "__init__"),
  fun K => decide (PySem.W.typeIn K (.ref (mA "BadNumber" "__init__" K)) = some (.type "function")),
  fun K => fileB PySem.Challenge.rw_noneorsome_k23_stocks_reckoned.prog (codeAt (mA "BadNumber" "__init__") K) K,
  fun K => cellB (cellAt (mA "BadNumber" "__init__") K) (gA "BadNumber" K) K,
  fun K => decide (PySem.W.mroIn K (gA "BadNumber" K) (.ref (gA "BadNumber" K)) = some true),
  fun K => decide (PySem.W.ks_superIn K (gA "BadNumber" K) (gA "BadNumber" K) "__init__" = some (some (.builtin "ValueError.__init__"))),
  fun K => decide (PySem.W.subIn K (.ref (gA "BadNumber" K)) (.type "ValueError") = some true),
  fun K => decide (PySem.W.findIn K (.ref (gA "BadNumber" K)) "number" = some none),
  fun K => decide (PySem.W.nsIn K mainGlobals "check_number" = some (some (.ref (gA "check_number" K)))),
  fun K => PySem.W.keepIn K (.ref (gA "check_number" K)),
  fun K => decide (PySem.W.nsIn K mainGlobals "without_zeros" = some (some (.ref (gA "without_zeros" K)))),
  fun K => PySem.W.keepIn K (.ref (gA "without_zeros" K)),
  fun K => decide (PySem.W.nsIn K mainGlobals "Stock" = some (some (.ref (gA "Stock" K)))),
  fun K => PySem.W.plainGet K (gA "Stock" K) Str.empty,
  fun K => PySem.W.hasDictIn K (gA "Stock" K),
  fun K => PySem.W.plainOver K (gA "Stock" K),
  fun K => decide (PySem.W.findIn K (.ref (gA "Stock" K)) "__setattr__" = some (some (.builtin "object.__setattr__"))),
  fun K => decide (PySem.W.findIn K (.ref (gA "Stock" K)) "_numbers" = some none),
  fun K => decide (PySem.W.findIn K (.ref (gA "Stock" K)) "__init__" = some (some (.ref (mA "Stock" "__init__" K)))),
  fun K => PySem.W.isFn K (.ref (mA "Stock" "__init__" K)),
  fun K => PySem.W.keepIn K (.ref (mA "Stock" "__init__" K)),
  fun K => tupVB (dflAt (mA "Stock" "__init__") K) [.none] K,
  fun K => PySem.W.makesIn K (gA "Stock" K),
  fun K => PySem.W.keepIn K (.ref (gA "Stock" K)),
  fun K => decide (PySem.W.findIn K (.ref (gA "Stock" K)) "names" = some (some (.ref (mA "Stock" "names" K)))),
  fun K => PySem.W.isFn K (.ref (mA "Stock" "names" K)),
  fun K => PySem.W.keepIn K (.ref (mA "Stock" "names" K)),
  fun K => decide (PySem.W.findIn K (.ref (gA "Stock" K)) "__getitem__" = some (some (.ref (mA "Stock" "__getitem__" K)))),
  fun K => PySem.W.isFn K (.ref (mA "Stock" "__getitem__" K)),
  fun K => PySem.W.keepIn K (.ref (mA "Stock" "__getitem__" K)),
  fun K => decide (PySem.W.findIn K (.ref (gA "Stock" K)) "copy" = some (some (.ref (mA "Stock" "copy" K)))),
  fun K => PySem.W.isFn K (.ref (mA "Stock" "copy" K)),
  fun K => PySem.W.keepIn K (.ref (mA "Stock" "copy" K)),
  fun K => decide (PySem.W.findIn K (.ref (gA "Stock" K)) "__setitem__" = some (some (.ref (mA "Stock" "__setitem__" K)))),
  fun K => PySem.W.isFn K (.ref (mA "Stock" "__setitem__" K)),
  fun K => PySem.W.keepIn K (.ref (mA "Stock" "__setitem__" K)),
  fun K => decide (PySem.W.nsIn K mainGlobals "Short" = some (some (.ref (gA "Short" K)))),
  fun K => excB (gA "Short" K) K,
  fun K => decide (PySem.W.findIn K (.ref (gA "Short" K)) "__setattr__" = some (some (.builtin "object.__setattr__"))),
  fun K => decide (PySem.W.subIn K (.ref (gA "Short" K)) (.type "BaseException") = some true),
  fun K => decide (PySem.W.typeIn K (.ref (gA "Short" K)) = some (.type "type")),
  fun K => PySem.W.keepIn K (.ref (gA "Short" K)),
  fun K => decide (PySem.W.findIn K (.ref (gA "Short" K)) "__init__" = some (some (.ref (mA "Short" "__init__" K)))),
  codB (mA "Short" "__init__"),
  fun K => decide (PySem.W.typeIn K (.ref (mA "Short" "__init__" K)) = some (.type "function")),
  fun K => fileB PySem.Challenge.rw_noneorsome_k23_stocks_reckoned.prog (codeAt (mA "Short" "__init__") K) K,
  fun K => cellB (cellAt (mA "Short" "__init__") K) (gA "Short" K) K,
  fun K => decide (PySem.W.mroIn K (gA "Short" K) (.ref (gA "Short" K)) = some true),
  fun K => decide (PySem.W.ks_superIn K (gA "Short" K) (gA "Short" K) "__init__" = some (some (.builtin "ValueError.__init__"))),
  fun K => decide (PySem.W.subIn K (.ref (gA "Short" K)) (.type "ValueError") = some true),
  fun K => decide (PySem.W.findIn K (.ref (gA "Short" K)) "name" = some none),
  fun K => decide (PySem.W.nsIn K mainGlobals "sums_of" = some (some (.ref (gA "sums_of" K)))),
  fun K => PySem.W.keepIn K (.ref (gA "sums_of" K)),
  fun K => decide (PySem.W.nsIn K mainGlobals "differences_of" = some (some (.ref (gA "differences_of" K)))),
  fun K => PySem.W.keepIn K (.ref (gA "differences_of" K)),
  fun K => decide (PySem.W.findIn K (.ref (gA "Stock" K)) "__class__" = some (some (.builtin "object.__class__"))),
  fun K => decide (PySem.W.specialIn K (.builtin "object.__class__") "__get__" = some (some (.builtin "getset_descriptor.__get__"))),
  fun K => decide (PySem.W.takesIn K (.builtin "object.__class__") = some true),
  fun K => decide (PySem.W.mroIn K (gA "Stock" K) (.type "object") = some true),
  fun K => decide (PySem.W.kitOne K (.ref (gA "Stock" K)) (.ref (gA "Stock" K)) = some true),
  fun K => decide (PySem.W.findIn K (.ref (gA "Stock" K)) "__add__" = some (some (.ref (mA "Stock" "__add__" K)))),
  fun K => PySem.W.isFn K (.ref (mA "Stock" "__add__" K)),
  fun K => PySem.W.keepIn K (.ref (mA "Stock" "__add__" K)),
  fun K => decide (PySem.W.findIn K (.ref (gA "Stock" K)) "__sub__" = some (some (.ref (mA "Stock" "__sub__" K)))),
  fun K => PySem.W.isFn K (.ref (mA "Stock" "__sub__" K)),
  fun K => PySem.W.keepIn K (.ref (mA "Stock" "__sub__" K)),
  fun K => decide (PySem.W.findIn K (.ref (gA "Stock" K)) "__iadd__" = some (some (.ref (mA "Stock" "__iadd__" K)))),
  fun K => PySem.W.isFn K (.ref (mA "Stock" "__iadd__" K)),
  fun K => PySem.W.keepIn K (.ref (mA "Stock" "__iadd__" K)),
  fun K => decide (PySem.W.findIn K (.ref (gA "Stock" K)) "__isub__" = some (some (.ref (mA "Stock" "__isub__" K)))),
  fun K => PySem.W.isFn K (.ref (mA "Stock" "__isub__" K)),
  fun K => PySem.W.keepIn K (.ref (mA "Stock" "__isub__" K)),
  fun K => decide (PySem.W.findIn K (.ref (gA "Stock" K)) "__eq__" = some (some (.ref (mA "Stock" "__eq__" K)))),
  fun K => PySem.W.isFn K (.ref (mA "Stock" "__eq__" K)),
  fun K => PySem.W.keepIn K (.ref (mA "Stock" "__eq__" K)),
  fun K => PySem.W.fnIn K (mA "Stock" "__getitem__" K),
  fun K => decide (PySem.W.findIn K (.ref (gA "Stock" K)) "__le__" = some (some (.ref (mA "Stock" "__le__" K)))),
  fun K => PySem.W.isFn K (.ref (mA "Stock" "__le__" K)),
  fun K => PySem.W.keepIn K (.ref (mA "Stock" "__le__" K)),
  fun K => decide (PySem.W.nsIn K mainGlobals "_law_mixed" = some (some (.ref (gA "_law_mixed" K)))),
  fun K => PySem.W.keepIn K (.ref (gA "_law_mixed" K)),
  fun K => decide (PySem.W.nsIn K mainGlobals "_law_numbers" = some (some (.ref (gA "_law_numbers" K)))),
  fun K => PySem.W.keepIn K (.ref (gA "_law_numbers" K)),
  fun K => xfB K (gA "Short" K),
  fun K => decide (PySem.W.exmOne K (.ref (gA "Short" K)) (.ref (gA "Short" K)) = some true),
  fun K => PySem.W.selfFirst K (gA "Stock" K),
  fun K => decide (PySem.W.nsIn K mainGlobals "_law_less" = some (some (.ref (gA "_law_less" K)))),
  fun K => PySem.W.keepIn K (.ref (gA "_law_less" K)),
  fun K => decide (PySem.W.nsIn K mainGlobals "_law_lessened" = some (some (.ref (gA "_law_lessened" K)))),
  fun K => PySem.W.keepIn K (.ref (gA "_law_lessened" K)),
  fun K => decide (PySem.W.nsIn K mainGlobals "_law_short" = some (some (.ref (gA "_law_short" K)))),
  fun K => PySem.W.keepIn K (.ref (gA "_law_short" K)),
  fun K => decide (PySem.W.nsIn K mainGlobals "_law_shows" = some (some (.ref (gA "_law_shows" K)))),
  fun K => PySem.W.keepIn K (.ref (gA "_law_shows" K)),
  fun K => PySem.W.noSeq K (gA "Stock" K),
  fun K => decide (PySem.W.nsIn K mainGlobals "_law_changes_results" = some (some (.ref (gA "_law_changes_results" K)))),
  fun K => PySem.W.keepIn K (.ref (gA "_law_changes_results" K)),
  fun K => decide (PySem.W.nsIn K mainGlobals "_law_grows" = some (some (.ref (gA "_law_grows" K)))),
  fun K => PySem.W.keepIn K (.ref (gA "_law_grows" K)),
  fun K => PySem.W.notFirst K (gA "Stock" K) (.ref (gA "Stock" K)),
  fun K => decide (PySem.W.nsIn K mainGlobals "_law_with_itself" = some (some (.ref (gA "_law_with_itself" K)))),
  fun K => PySem.W.keepIn K (.ref (gA "_law_with_itself" K)),
  fun K => decide (PySem.W.nsIn K mainGlobals "law" = some (some (.ref (gA "law" K)))),
  fun K => PySem.W.keepIn K (.ref (gA "law" K)),
  fun K => decide (PySem.W.nsIn K mainGlobals "len" = some none),
  fun K => decide (PySem.W.nsIn K mainGlobals "list" = some none),
  fun K => decide (PySem.W.nsIn K mainGlobals "tuple" = some none),
  fun K => decide (PySem.W.nsIn K mainGlobals "int" = some none),
  fun K => decide (PySem.W.nsIn K mainGlobals "repr" = some none),
  fun K => decide (PySem.W.nsIn K mainGlobals "range" = some none),
  fun K => decide (PySem.W.nsIn K mainGlobals "all" = some none),
  fun K => decide (PySem.W.nsIn K mainGlobals "zip" = some none),
  fun K => decide (PySem.W.nsIn K mainGlobals "enumerate" = some none),
  fun K => decide (PySem.W.nsIn K mainGlobals "isinstance" = some none),
  fun K => decide (PySem.W.nsIn K mainGlobals "str" = some none),
  fun K => decide (PySem.W.nsIn K mainGlobals "bool" = some none),
  fun K => decide (PySem.W.nsIn K mainGlobals "dict" = some none),
  fun K => decide (PySem.W.nsIn K mainGlobals "any" = some none),
  fun K => decide (PySem.W.nsIn K mainGlobals "min" = some none),
  fun K => decide (PySem.W.nsIn K mainGlobals "sorted" = some none),
  fun K => decide (PySem.W.nsIn K mainGlobals "set" = some none),
  fun K => decide (PySem.W.nsIn K mainGlobals "max" = some none),
  fun K => decide (PySem.W.nsIn K mainGlobals "sum" = some none)]
def tFs : List Fd := [⟨(gA "_law_draw"), "_law_draw", "_law_draw", (tTop 18), fun _ => [], fun _ => .none⟩,
  ⟨(gA "_law_same"), "_law_same", "_law_same", (tTop 20), fun _ => [], fun _ => .none⟩,
  ⟨(gA "_law_name"), "_law_name", "_law_name", (tTop 21), fun _ => [], fun _ => .none⟩,
  ⟨(gA "_law_names"), "_law_names", "_law_names", (tTop 22), fun _ => [], fun _ => .none⟩,
  ⟨(gA "is_letter"), "is_letter", "is_letter", (tTop 8), fun _ => [], fun _ => .none⟩,
  ⟨(gA "is_name"), "is_name", "is_name", (tTop 9), fun _ => [], fun _ => .none⟩,
  ⟨(mA "BadName" "__init__"), "__init__", "BadName.__init__", (tIn (tTop 2) 0), fun K => [(("__class__" : Str), cellAt (mA "BadName" "__init__") K)], fun _ => .none⟩,
  ⟨(gA "check_name"), "check_name", "check_name", (tTop 10), fun _ => [], fun _ => .none⟩,
  ⟨(mA "BadNumber" "__init__"), "__init__", "BadNumber.__init__", (tIn (tTop 3) 0), fun K => [(("__class__" : Str), cellAt (mA "BadNumber" "__init__") K)], fun _ => .none⟩,
  ⟨(gA "check_number"), "check_number", "check_number", (tTop 12), fun _ => [], fun _ => .none⟩,
  ⟨(gA "without_zeros"), "without_zeros", "without_zeros", (tTop 13), fun _ => [], fun _ => .none⟩,
  ⟨(mA "Stock" "__init__"), "__init__", "Stock.__init__", (tIn (tTop 16) 0), fun _ => [], fun K => .ref (dflAt (mA "Stock" "__init__") K)⟩,
  ⟨(mA "Stock" "names"), "names", "Stock.names", (tIn (tTop 16) 1), fun _ => [], fun _ => .none⟩,
  ⟨(mA "Stock" "__getitem__"), "__getitem__", "Stock.__getitem__", (tIn (tTop 16) 3), fun _ => [], fun _ => .none⟩,
  ⟨(mA "Stock" "copy"), "copy", "Stock.copy", (tIn (tTop 16) 2), fun _ => [], fun _ => .none⟩,
  ⟨(mA "Stock" "__setitem__"), "__setitem__", "Stock.__setitem__", (tIn (tTop 16) 4), fun _ => [], fun _ => .none⟩,
  ⟨(mA "Short" "__init__"), "__init__", "Short.__init__", (tIn (tTop 4) 0), fun K => [(("__class__" : Str), cellAt (mA "Short" "__init__") K)], fun _ => .none⟩,
  ⟨(gA "sums_of"), "sums_of", "sums_of", (tTop 14), fun _ => [], fun _ => .none⟩,
  ⟨(gA "differences_of"), "differences_of", "differences_of", (tTop 15), fun _ => [], fun _ => .none⟩,
  ⟨(mA "Stock" "__add__"), "__add__", "Stock.__add__", (tIn (tTop 16) 6), fun _ => [], fun _ => .none⟩,
  ⟨(mA "Stock" "__sub__"), "__sub__", "Stock.__sub__", (tIn (tTop 16) 7), fun _ => [], fun _ => .none⟩,
  ⟨(mA "Stock" "__iadd__"), "__iadd__", "Stock.__iadd__", (tIn (tTop 16) 8), fun _ => [], fun _ => .none⟩,
  ⟨(mA "Stock" "__isub__"), "__isub__", "Stock.__isub__", (tIn (tTop 16) 9), fun _ => [], fun _ => .none⟩,
  ⟨(mA "Stock" "__eq__"), "__eq__", "Stock.__eq__", (tIn (tTop 16) 10), fun _ => [], fun _ => .none⟩,
  ⟨(mA "Stock" "__le__"), "__le__", "Stock.__le__", (tIn (tTop 16) 11), fun _ => [], fun _ => .none⟩,
  ⟨(gA "_law_mixed"), "_law_mixed", "_law_mixed", (tTop 19), fun _ => [], fun _ => .none⟩,
  ⟨(gA "_law_numbers"), "_law_numbers", "_law_numbers", (tTop 23), fun _ => [], fun _ => .none⟩,
  ⟨(gA "_law_less"), "_law_less", "_law_less", (tTop 24), fun _ => [], fun _ => .none⟩,
  ⟨(gA "_law_lessened"), "_law_lessened", "_law_lessened", (tTop 25), fun _ => [], fun _ => .none⟩,
  ⟨(gA "_law_short"), "_law_short", "_law_short", (tTop 26), fun _ => [], fun _ => .none⟩,
  ⟨(gA "_law_shows"), "_law_shows", "_law_shows", (tTop 27), fun _ => [], fun _ => .none⟩,
  ⟨(gA "_law_changes_results"), "_law_changes_results", "_law_changes_results", (tTop 28), fun _ => [], fun _ => .none⟩,
  ⟨(gA "_law_grows"), "_law_grows", "_law_grows", (tTop 29), fun _ => [], fun _ => .none⟩,
  ⟨(gA "_law_with_itself"), "_law_with_itself", "_law_with_itself", (tTop 30), fun _ => [], fun _ => .none⟩,
  ⟨(gA "law"), "law", "law", (tTop 31), fun _ => [], fun _ => .none⟩]
abbrev tR : PySem.W.OpenRow := PySem.W.OpenLaw.row PySem.Challenge.rw_noneorsome_k23_stocks_reckoned
abbrev tQ : Program := PySem.W.view tR.prog [31]
def tNames : List PySem.Str := (["PlanError", "BadName", "BadNumber", "Short", "RESERVED", "LONGEST", "is_letter", "is_name", "check_name", "check_number", "without_zeros", "sums_of", "differences_of", "Stock", "_law_draw", "_law_mixed", "_law_same", "_law_name", "_law_names", "_law_numbers", "_law_less", "_law_lessened", "_law_short", "_law_shows", "_law_changes_results"] : List (PySem.Str)) ++ (["_law_grows", "_law_with_itself"] : List (PySem.Str))
theorem tRunF (w : World) : HandSHeadRun.RunEq tR tQ (topHook tXs tFs) (topOb tXs tFs) 20000 tNames (w.withFollow "special-get-raises" false) := fun os => by kernel_rfl
theorem tRunT (w : World) : HandSHeadRun.RunEq tR tQ (topHook tXs tFs) (topOb tXs tFs) 20000 tNames (w.withFollow "special-get-raises" true) := fun os => by kernel_rfl
theorem tRun (w : World) : HandSHeadRun.RunEq tR tQ (topHook tXs tFs) (topOb tXs tFs) 20000 tNames w :=
  PySem.W.byRow2 "special-get-raises" (P := fun w => HandSHeadRun.RunEq tR tQ (topHook tXs tFs) (topOb tXs tFs) 20000 tNames w) tRunF tRunT w
end Dl

/-! a def's promise where it is known that nothing that guards against itself (a repr) is under way -/
namespace Dl
open PySem PySem.Spec L2
open PyProof.Rows hiding St Binds

structure FnG (P : Program) (w : World) (K : W.Frag) (mg : Str → Option Value) (base : Heap) (CX : CXT) (k : Nat) (f : Addr) (fd : FuncData) (ps : List Str) (sp : Sp) : Prop where
  nargs : ∀ vs H Q E, sp vs H Q E → vs.length = ps.length
  go : ∀ (A : Around) (outer : List Env) (s : Shared) (H : Hp) (args : Args) (us : List Value) (vs : List V) (Q : VK) (E : XK),
    A.guards = some [] → Room k A → Env0 P w K mg base A outer s H → BindsTo s fd args (ps.zip us) → Vals vs us → sp vs H Q E →
      codeAny (model P w) A (.call (.ref f) args) (CR CX outer P w H s Q E) s

section
variable {P : Program} {w : World} {K : W.Frag} {mg : Str → Option Value} {base : Heap} {CX : CXT} {j k : Nat} {f : Addr} {fd : FuncData} {ps : List Str} {sp sp' : Sp}
theorem FnG.up (F : FnG P w K mg base CX j f fd ps sp) (h : j ≤ k) : FnG P w K mg base CX k f fd ps sp :=
  ⟨F.nargs, fun A outer s H args us vs Q E hg hr => F.go A outer s H args us vs Q E hg (hr.mono h)⟩
theorem FnG.weak (F : FnG P w K mg base CX k f fd ps sp) (h : ∀ vs H Q E, sp' vs H Q E → sp vs H Q E) : FnG P w K mg base CX k f fd ps sp' :=
  ⟨fun vs H Q E q => F.nargs vs H Q E (h vs H Q E q), fun A outer s H args us vs Q E hg hr e0 hb hv hs => F.go A outer s H args us vs Q E hg hr e0 hb hv (h vs H Q E hs)⟩
end

/-- f(..), C(..), o.m(..), what is wished of an exception hangs on the slots -/
def gCall (sp : Sp) (dvs : List V) (EE : L2.St → XK) (t : TA) : TE := fun σ H Q => t σ H fun vs H1 => sp (vs ++ dvs) H1 Q (EE σ)
def gMeth (C : Addr) (m : Str) (sp : Sp) (dvs : List V) (EE : L2.St → XK) (ta : TE) (t : TA) : TE := fun σ H Q => ta σ H fun x H1 =>
  ∃ a dx fs, x = .ref a ∧ H1 a = some (.ins C dx fs) ∧ fs.lookup m = none ∧ t σ H1 fun vs H2 => sp (x :: (vs ++ dvs)) H2 Q (EE σ)
def gMake (C : Addr) (sp : Sp) (dvs : List V) (EE : L2.St → XK) (t : TA) : TE := fun σ H Q => t σ H fun vs H1 =>
  ∀ x dx, H1 x = none → H1 dx = none → dx ≠ x → sp (.ref x :: (vs ++ dvs)) (upd (upd H1 dx (.own x)) x (.ins C dx [])) (fun v H2 => v = .non ∧ Q (.ref x) H2) (EE σ)
section
variable {X : Cx} {CX : CXT} {k : Nat} {f C : Addr} {fd : FuncData} {ps : List Str} {sp : Sp} {dvs : List V} {ds : List Value} {E : XK} {EE : L2.St → XK} {x m : Str} {p pos apos : Pos} {e o : Expr} {es : List Expr} {ta : TE} {t : TA}
variable {pins : List (Addr × Obj)} {σ : L2.St} {H : Hp} {s : Shared} {Q : VK} {us : List Value} {vs : List V}

/-- the callee is run: what it hands back, what it raises -/
theorem g_run (hG : X.A.guards = some []) (F : FnG X.prog X.w X.K X.mg X.base CX k f fd ps sp) (hr : Room k X.A) (hb : Binds X.K fd ps ds) (hd : Vals dvs ds)
    (hx : PassesAt CX X σ E) (I : Inv X pins σ H s) (r : Vals vs us) (h : sp (vs ++ dvs) H Q E) :
    wpAny (model X.prog X.w) X.A (call (.ref f) us) (EP X pins σ Q) X.xe s := by
  have both := r.append hd
  have many : (us ++ ds).length = ps.length := both.length.symm.trans (F.nargs _ _ _ _ h)
  have ran := F.go X.A X.stack s H ⟨us, []⟩ _ _ Q E hG hr I.env0 (hb s us I.kIn many) both h
  exact wpAny_call (codeAny_mono ran fun r s' hq => match r, hq with
    | .error e, hq => hx pins H s e s' I hq
    | .ok (.ret _), hq => I.after hq
    | .ok .next, hq => False.elim hq
    | .ok .brk, hq => False.elim hq
    | .ok .cont, hq => False.elim hq)

theorem g_make (hG : X.A.guards = some []) (M : Mk X.K C f) (F : FnG X.prog X.w X.K X.mg X.base CX k f fd ps sp) (hr : Room (k + 1) X.A) (hb : Binds X.K fd ps ds)
    (hd : Vals dvs ds) (hx : PassesAt CX X σ E) (I : Inv X pins σ H s) (r : Vals vs us)
    (h : ∀ x dx, H x = none → H dx = none → dx ≠ x →
      sp (.ref x :: (vs ++ dvs)) (upd (upd H dx (.own x)) x (.ins C dx [])) (fun v H2 => v = .non ∧ Q (.ref x) H2) E) :
    wpAny (model X.prog X.w) X.A (call (.ref C) us) (EP X pins σ Q) X.xe s := by
  have I2 := Inv.made (C := C) I
  have new := h (s.heap.objs.size + 1) s.heap.objs.size (I.hok.fresh (Nat.le_succ _)) (I.hok.fresh (Nat.le_refl _)) (Nat.ne_of_lt (Nat.lt_succ_self _))
  have all : Vals (V.ref (s.heap.objs.size + 1) :: (vs ++ dvs)) (Value.ref (s.heap.objs.size + 1) :: (us ++ ds)) := .cons rfl (r.append hd)
  have many : (Value.ref (s.heap.objs.size + 1) :: us ++ ds).length = ps.length :=
    Eq.trans (show _ = (V.ref (s.heap.objs.size + 1) :: (vs ++ dvs)).length from all.length.symm) (F.nargs _ _ _ _ new)
  have hG2 : (X.A.under (.builtin "type.__call__" ⟨.ref C :: us, []⟩)).guards = some [] := by
    unfold Around.under
    rw [hG]
    rfl
  have ran := F.go _ X.stack _ _ ⟨Value.ref (s.heap.objs.size + 1) :: us, []⟩ _ _ _ E hG2 (hr.make C us [])
    (I2.env0.make C us []) (hb _ (Value.ref (s.heap.objs.size + 1) :: us) I2.kIn many) all new
  refine wpAny_call (make_map (f := f) I.kIn M.makes M.init (beq_iff_eq.mp M.fn) (codeAny_mono ran fun r s' hq => ?_))
  match r, hq with
  | .error e, hq => exact hx pins _ _ e s' I2 hq
  | .ok (.ret u), hq =>
    obtain ⟨v, H', I3, rv, ev, q3⟩ := I2.after hq
    cases ev
    exact ⟨rv, .ref (s.heap.objs.size + 1), H', I3, rfl, q3⟩
  | .ok .next, hq => exact False.elim hq
  | .ok .brk, hq => exact False.elim hq
  | .ok .cont, hq => exact False.elim hq

theorem ge_call (hG : X.A.guards = some []) (F : FnG X.prog X.w X.K X.mg X.base CX k f fd ps sp) (hr : Room k X.A) (hg : Gl X x) (hm : X.mg x = some (.ref f))
    (hk : W.keepIn X.K (.ref f) = true) (hb : Binds X.K fd ps ds) (hd : Vals dvs ds) (hx : ∀ σ, PassesAt CX X σ (EE σ)) (ha : PA X (e :: es) t)
    (hdb : (x == ("__debug__" : Str)) = false := by decide) (he : starEach (e :: es) X.env = (false, eval e X.env) :: starEach es X.env := by rfl)
    (hpl : (backTo pos (starEach es X.env)).any (·.1) = false := by rfl) : PE X (.Call (.Name x p) (e :: es) [] pos) (gCall sp dvs EE t) :=
  ⟨fun pins s σ H Q I h => wpAny_Call_Name_kw (ld_glob I hg hm (W.callWith_K (h₀ := X.base) I.ok.mod.kin hk
    (thn (ha.run pos pins s σ H _ I h) fun _ _ ⟨_, _, I1, r, q⟩ => ⟨I1.kIn, g_run hG F hr hb hd (hx _) I1 r q⟩) he hpl) hdb)⟩
theorem ge_make (hG : X.A.guards = some []) (M : Mk X.K C f) (F : FnG X.prog X.w X.K X.mg X.base CX k f fd ps sp) (hr : Room (k + 1) X.A) (hg : Gl X x)
    (hm : X.mg x = some (.ref C)) (hb : Binds X.K fd ps ds) (hd : Vals dvs ds) (hx : ∀ σ, PassesAt CX X σ (EE σ)) (ha : PA X (e :: es) t)
    (hdb : (x == ("__debug__" : Str)) = false := by decide) (he : starEach (e :: es) X.env = (false, eval e X.env) :: starEach es X.env := by rfl)
    (hpl : (backTo pos (starEach es X.env)).any (·.1) = false := by rfl) : PE X (.Call (.Name x p) (e :: es) [] pos) (gMake C sp dvs EE t) :=
  ⟨fun pins s σ H Q I h => wpAny_Call_Name_kw (ld_glob I hg hm (W.callWith_K (h₀ := X.base) I.ok.mod.kin M.kp
    (thn (ha.run pos pins s σ H _ I h) fun _ _ ⟨_, _, I1, r, q⟩ => ⟨I1.kIn, g_make hG M F hr hb hd (hx _) I1 r q⟩) he hpl) hdb)⟩
theorem ge_make0 (hG : X.A.guards = some []) (M : Mk X.K C f) (F : FnG X.prog X.w X.K X.mg X.base CX k f fd ps sp) (hr : Room (k + 1) X.A) (hg : Gl X x)
    (hm : X.mg x = some (.ref C)) (hb : Binds X.K fd ps ds) (hd : Vals dvs ds) (hx : ∀ σ, PassesAt CX X σ (EE σ))
    (hdb : (x == ("__debug__" : Str)) = false := by decide) : PE X (.Call (.Name x p) [] [] pos) (gMake C sp dvs EE tNil) :=
  ⟨fun _ _ _ _ _ I h => wpAny_Call_Name_kw (ld_glob I hg hm (W.callWith_K0 I.kIn M.kp (g_make (us := []) hG M F hr hb hd (hx _) I .nil h)) hdb)⟩

theorem ge_meth0 {pl : Sem Bool} (hG : X.A.guards = some []) (he : PE X o ta) (c : Cls X.K C) (hm : Meth X.K C m f) (F : FnG X.prog X.w X.K X.mg X.base CX k f fd ps sp)
    (hr : Room k X.A) (hb : Binds X.K fd ps ds) (hd : Vals dvs ds) (hx : ∀ σ, PassesAt CX X σ (EE σ))
    (ht : eval (.Call (.Attribute o m apos) [] [] pos) X.env = (eval o X.env >>= fun ov => standAt apos.atName >>= fun _ =>
      holding [ov] (getMethod ov m pl) >>= fun fm => callWith pos fm.1 fm.2 (backTo pos (starEach [] X.env)) (backToKw pos (keywordEach [] X.env))) := by rfl) :
    PE X (.Call (.Attribute o m apos) [] [] pos) (gMeth C m sp dvs EE ta tNil) :=
  ⟨fun pins s σ H Q I h => W.methodCall_KW (pl := pl) (thn (he.run pins s σ H _ I h) fun u s1 ⟨_, _, I1, rx, a, dx, fs, ex, ea, l, q⟩ => by
    cases ex
    cases rx
    exact getmeth_ok I1 ea c hm l (W.callWith_K0 (first := [.ref a]) I1.kIn hm.kp (g_run (us := [.ref a]) (vs := [.ref a]) hG F hr hb hd (hx _) I1 (.cons rfl .nil) q))) ht⟩
end

/-- a def of the text, by its body -/
theorem g_fn {CX : CXT} {P : Program} {w : World} {K : W.Frag} {mg : Str → Option Value} {base : Heap} {k : Nat} {f : Addr} {name qual : Str} {params : Arguments} {body : List Stmt} {scope : Scope}
    {dV kV doc pm cdv ct oc : Value} {an od : Option Addr} {osl : Array (Option Value)} {N ps : List Str} {sp : Sp}
    (lk : K.lookup f = some ⟨oc, od, .func (W.fnOf name qual params body scope dV kV doc pm an cdv ct), osl⟩) (hcd : W.codeIn K cdv qual = true) (S : FnScope N ps scope)
    (len : ∀ vs H Q E, sp vs H Q E → vs.length = ps.length)
    (hbody : ∀ (A : Around) (outer : List Env) (s : Shared) (H : Hp) (vs : List V) (Q : VK) (E : XK),
      (A.deeper (envOfC qual scope s.heap.objs.size f cdv)).guards = some [] → Room k (A.deeper (envOfC qual scope s.heap.objs.size f cdv)) → sp vs H Q E →
        ∃ t, PSs (cxOf CX P w K mg base N qual scope f cdv A outer s H E) body t ∧ t { nx := fun _ H' => Q .non H', rt := Q } (start N vs) H) :
    FnG P w K mg base CX (k + 1) f (W.fnOf name qual params body scope dV kV doc pm an cdv ct) ps sp := by
  refine ⟨len, fun A outer s H args us vs Q E hG hr e0 hb r hsp => ?_⟩
  have KX : K.In s.heap := e0.mod.kin.keeps fun b o e => (e0.bs b o e).1
  have lim := e0.mod.nolimit.keeps fun b o e => (e0.bs b o e).1
  have kinds : ∀ y ∈ ps.zip us, scope.names.lookup y.1 = some .local ∨
      (scope.names.lookup y.1 = some .cell ∧ ((cellsFrom (s.heap.objs.size + 1) scope.names []).lookup y.1).isSome = true) := fun y hy =>
    (S.par y.1 (List.of_mem_zip (show (y.1, y.2) ∈ ps.zip us from hy)).1).imp id fun q => ⟨q, W.cellsFrom_some _ _ _ (.inl q)⟩
  refine codeAny_call_function hr.depth (KX _ _ lk) rfl S.co S.gen rfl (W.codeRec_of KX hcd) (hb _ _ _ _ (wpAny_newFunctionEnv_cells S.kind kinds fun env he s1 x => ?_))
  subst he
  obtain ⟨t, ht, hq⟩ := hbody A outer s H vs Q E hG (hr.deeper _) hsp
  have I : Inv (cxOf CX P w K mg base N qual scope f cdv A outer s H E) [] (start N vs) H s1 := inv_start S hr.hd e0 (len _ _ _ _ hsp) r x
  refine ⟨lim.keeps x.toInCall.keep, codeAny_func (wpAny_mono (ht.run [] s1 (start N vs) H _ I hq) (fun fl s' hs => ?_) fun e s' hs => hs)⟩
  match fl, hs with
  | .ret u, ⟨v, _, H', J, rv, q⟩ => exact ⟨v, H', J.os, J.bare, J.base, J.hok, rv, q⟩
  | .next, ⟨_, H', J, q⟩ => exact ⟨.non, H', J.os, J.bare, J.base, J.hok, rfl, q⟩
  | .brk, ⟨_, _, _, q⟩ => exact False.elim q
  | .cont, ⟨_, _, _, q⟩ => exact False.elim q

section
variable {P : Program} {w : World} {K : W.Frag} {mg : Str → Option Value} {base : Heap} {x qual : Str} {st : Stmt} {f : Addr} {fd : FuncData} {N ps : List Str} {k : Nat} {sp : Sp}
/-- a def of the text, with any defaults -/
structure FunA (K : PySem.W.Frag) (x qual : Str) (st : Stmt) (f : Addr) (fd : FuncData) : Prop where
  ex : ∃ (oc : Value) (od : Option Addr) (dV kV doc pm : Value) (an : Option Addr) (cdv ct : Value) (osl : Array (Option Value)),
    fd = PySem.W.fnOf x qual (defArgs st) (defBody st) (defScope st) dV kV doc pm an cdv ct ∧ K.lookup f = some ⟨oc, od, .func fd, osl⟩ ∧ PySem.W.codeIn K cdv qual = true
theorem anyFun (F : Fun K x qual st f fd) : FunA K x qual st f fd := by
  obtain ⟨oc, od, kV, doc, pm, an, cdv, ct, osl, h⟩ := F.ex
  exact ⟨oc, od, .none, kV, doc, pm, an, cdv, ct, osl, h⟩
theorem gfunX (F : FunA K x qual st f fd) (S : FnScope N ps (defScope st)) (len : ∀ vs H Q E, sp vs H Q E → vs.length = ps.length)
    (hbody : ∀ (cdv : Value) (A : Around) (outer : List Env) (s : Shared) (H : Hp) (vs : List V) (Q : VK) (E : XK),
      (A.deeper (envOfC qual (defScope st) s.heap.objs.size f cdv)).guards = some [] → Room k (A.deeper (envOfC qual (defScope st) s.heap.objs.size f cdv)) → sp vs H Q E →
        ∃ t, PSs (cxOf (L2.CX P w) P w K mg base N qual (defScope st) f cdv A outer s H E) (defBody st) t ∧ t { nx := fun _ H' => Q .non H', rt := Q } (start N vs) H) :
    FnG P w K mg base (L2.CX P w) (k + 1) f fd ps sp := by
  obtain ⟨oc, od, dV, kV, doc, pm, an, cdv, ct, osl, rfl, lk, hcd⟩ := F.ex
  exact g_fn lk hcd S len fun A outer s H vs Q E hG hr hsp => hbody cdv A outer s H vs Q E hG hr hsp
end
end Dl

/-! data at values: what a value stands for as a whole, cells for what is changed -/
namespace Dl
open PySem PySem.Spec L2
open PyProof.Rows hiding St Binds

inductive D where
  | non | bl (b : Bool) | int (i : Int) | str (s : Str)
  | lst (ds : List D) | tup (ds : List D) | dct (kd : List (Key × D)) | ins (C : Addr) (fd : List (Str × D))
  | cell (n : Nat) | ref (a : Addr) | fzl (ds : List D) | ty (n : String)
inductive CT where
  | lst (ds : List D) | dct (kd : List (Key × D)) | ins (C : Addr) (fd : List (Str × D)) | lck (ob : Obj) (kv : List (Key × V)) (kd : List (Key × D))
abbrev Sto := List CT
abbrev Io := List Addr
abbrev Rho := List (Option D)

/-- v stands for d; ι: where the cells stand -/
inductive At (K : W.Frag) (ι : Io) (H : Hp) : V → D → Prop
  | non : At K ι H .non .non
  | bl (b : Bool) : At K ι H (.bl b) (.bl b)
  | int (i : Int) : At K ι H (.int i) (.int i)
  | str (s : Str) : At K ι H (.str s) (.str s)
  | lst {a : Addr} {vs : List V} {ds : List D} (h : H a = some (.lst vs)) (n : a ∉ ι) (l : vs.length = ds.length)
      (r : ∀ (i : Nat) (v : V) (d : D), vs[i]? = some v → ds[i]? = some d → At K ι H v d) : At K ι H (.ref a) (.lst ds)
  | tup {a : Addr} {vs : List V} {ds : List D} (h : Rd H a (.tup vs)) (n : a ∉ ι) (l : vs.length = ds.length)
      (r : ∀ (i : Nat) (v : V) (d : D), vs[i]? = some v → ds[i]? = some d → At K ι H v d) : At K ι H (.ref a) (.tup ds)
  | ktup {a : Addr} {vs : List V} {ds : List D} (h : ∀ H0 : Hp, SqT K H0 a vs) (l : vs.length = ds.length)
      (r : ∀ (i : Nat) (v : V) (d : D), vs[i]? = some v → ds[i]? = some d → At K ι H v d) : At K ι H (.ref a) (.tup ds)
  | dct {a : Addr} {kv : List (Key × V)} {kd : List (Key × D)} (h : Rd H a (.dK kv)) (n : a ∉ ι) (l : kv.map (·.1) = kd.map (·.1))
      (r : ∀ (i : Nat) (p : Key × V) (q : Key × D), kv[i]? = some p → kd[i]? = some q → At K ι H p.2 q.2) : At K ι H (.ref a) (.dct kd)
  | ins {a C dx : Addr} {fv : List (Str × V)} {fd : List (Str × D)} (h : H a = some (.ins C dx fv)) (n : a ∉ ι) (l : fv.map (·.1) = fd.map (·.1))
      (r : ∀ (i : Nat) (p : Str × V) (q : Str × D), fv[i]? = some p → fd[i]? = some q → At K ι H p.2 q.2) : At K ι H (.ref a) (.ins C fd)
  | cell {a : Addr} {n : Nat} (h : ι[n]? = some a) : At K ι H (.ref a) (.cell n)
  | ref (a : Addr) : At K ι H (.ref a) (.ref a)
  | ty (n : String) : At K ι H (.ty n) (.ty n)
  | fzl {a : Addr} {vs : List V} {ds : List D} (h : (∃ o, H a = some (.frz o (.lst vs)) ∧ a ∉ ι) ∨ ∀ H0 : Hp, SqL K H0 a vs) (l : vs.length = ds.length)
      (r : ∀ (i : Nat) (v : V) (d : D), vs[i]? = some v → ds[i]? = some d → At K ι H v d) : At K ι H (.ref a) (.fzl ds)

def Ats (K : W.Frag) (ι : Io) (H : Hp) (vs : List V) (ds : List D) : Prop := vs.length = ds.length ∧ ∀ (i : Nat) (v : V) (d : D), vs[i]? = some v → ds[i]? = some d → At K ι H v d
def Pts {κ : Type} (K : W.Frag) (ι : Io) (H : Hp) (kv : List (κ × V)) (kd : List (κ × D)) : Prop :=
  kv.map (·.1) = kd.map (·.1) ∧ ∀ (i : Nat) (p : κ × V) (q : κ × D), kv[i]? = some p → kd[i]? = some q → At K ι H p.2 q.2

/-- what was tracked and is no cell stays; the cells stay where they are -/
structure Gr (ι : Io) (H : Hp) (ι' : Io) (H' : Hp) : Prop where
  pre : ∀ (n : Nat) (a : Addr), ι[n]? = some a → ι'[n]? = some a
  keep : ∀ a o, H a = some o → a ∉ ι → H' a = some o ∧ a ∉ ι'
theorem Gr.refl (ι : Io) (H : Hp) : Gr ι H ι H := ⟨fun _ _ h => h, fun _ _ h n => ⟨h, n⟩⟩
theorem Gr.trans {ι ι1 ι2 : Io} {H H1 H2 : Hp} (a : Gr ι H ι1 H1) (b : Gr ι1 H1 ι2 H2) : Gr ι H ι2 H2 :=
  ⟨fun n x h => b.pre n x (a.pre n x h), fun x o h n => let ⟨h1, n1⟩ := a.keep x o h n; b.keep x o h1 n1⟩

section
variable {K : W.Frag} {ι ι' : Io} {H H' : Hp} {v : V} {d : D} {vs : List V} {ds : List D}
theorem Gr.rd (g : Gr ι H ι' H') {a : Addr} {u : HO} (h : Rd H a u) (n : a ∉ ι) : Rd H' a u ∧ a ∉ ι' := by
  rcases h with h | ⟨o, h⟩
  · exact ⟨.inl (g.keep a _ h n).1, (g.keep a _ h n).2⟩
  · exact ⟨.inr ⟨o, (g.keep a _ h n).1⟩, (g.keep a _ h n).2⟩
theorem At.gr (h : At K ι H v d) (g : Gr ι H ι' H') : At K ι' H' v d := by
  induction h with
  | non => exact .non
  | bl b => exact .bl b
  | int i => exact .int i
  | str s => exact .str s
  | lst h n l _ ih => exact .lst (g.keep _ _ h n).1 (g.keep _ _ h n).2 l ih
  | tup h n l _ ih => exact .tup (g.rd h n).1 (g.rd h n).2 l ih
  | ktup h l _ ih => exact .ktup h l ih
  | dct h n l _ ih => exact .dct (g.rd h n).1 (g.rd h n).2 l ih
  | ins h n l _ ih => exact .ins (g.keep _ _ h n).1 (g.keep _ _ h n).2 l ih
  | cell h => exact .cell (g.pre _ _ h)
  | ref a => exact .ref a
  | ty n => exact .ty n
  | fzl h l _ ih => exact .fzl (h.imp (fun ⟨o, e, n⟩ => ⟨o, g.keep _ _ e n⟩) id) l ih
theorem Ats.gr (h : Ats K ι H vs ds) (g : Gr ι H ι' H') : Ats K ι' H' vs ds := ⟨h.1, fun i v d e1 e2 => (h.2 i v d e1 e2).gr g⟩
theorem Pts.gr {κ : Type} {kv : List (κ × V)} {kd : List (κ × D)} (h : Pts K ι H kv kd) (g : Gr ι H ι' H') : Pts K ι' H' kv kd := ⟨h.1, fun i p q e1 e2 => (h.2 i p q e1 e2).gr g⟩
theorem Ats.nil : Ats K ι H [] [] := ⟨rfl, fun i v d h _ => by simp at h⟩
theorem Ats.cons (h : At K ι H v d) (r : Ats K ι H vs ds) : Ats K ι H (v :: vs) (d :: ds) := by
  refine ⟨by simp [r.1], fun i x y h1 h2 => ?_⟩
  cases i with
  | zero => cases Option.some.inj h1; cases Option.some.inj h2; exact h
  | succ i => exact r.2 i x y h1 h2
theorem Ats.app {vs' : List V} {ds' : List D} (r : Ats K ι H vs ds) (r' : Ats K ι H vs' ds') : Ats K ι H (vs ++ vs') (ds ++ ds') := by
  refine ⟨by simp [r.1, r'.1], fun i x y h1 h2 => ?_⟩
  by_cases hi : i < vs.length
  · rw [List.getElem?_append_left hi] at h1
    rw [List.getElem?_append_left (by rw [← r.1]; exact hi)] at h2
    exact r.2 i x y h1 h2
  · rw [List.getElem?_append_right (by omega)] at h1
    rw [List.getElem?_append_right (by rw [← r.1]; omega), ← r.1] at h2
    exact r'.2 _ x y h1 h2
theorem Ats.uncons (r : Ats K ι H vs (d :: ds)) : ∃ v vs', vs = v :: vs' ∧ At K ι H v d ∧ Ats K ι H vs' ds := by
  cases vs with
  | nil => have := r.1; simp at this
  | cons v vs' => exact ⟨v, vs', rfl, r.2 0 v d rfl rfl, by have := r.1; simpa using this, fun i x y h1 h2 => r.2 (i + 1) x y h1 h2⟩
theorem Ats.unnil (r : Ats K ι H vs []) : vs = [] := List.length_eq_zero_iff.mp r.1
theorem Ats.get (r : Ats K ι H vs ds) {i : Nat} {d : D} (h : ds[i]? = some d) : ∃ v, vs[i]? = some v ∧ At K ι H v d := by
  have hi := (List.getElem?_eq_some_iff.mp h).1
  have hv : i < vs.length := by rw [r.1]; exact hi
  exact ⟨vs[i], List.getElem?_eq_getElem hv, r.2 i _ _ (List.getElem?_eq_getElem hv) h⟩
end

/-- what stands in a cell -/
def CAt (K : W.Frag) (ι : Io) (H : Hp) (a : Addr) : CT → Prop
  | .lst ds => ∃ vs, H a = some (.lst vs) ∧ Ats K ι H vs ds
  | .dct kd => ∃ kv, H a = some (.dK kv) ∧ Pts K ι H kv kd
  | .lck ob kv kd => H a = some (.frz ob (.dK kv)) ∧ Pts K ι H kv kd
  | .ins C fd => ∃ dx fv, H a = some (.ins C dx fv) ∧ Pts K ι H fv fd
theorem CAt.there {K : W.Frag} {ι : Io} {H : Hp} {a : Addr} {c : CT} (h : CAt K ι H a c) : ∃ o, H a = some o := by
  cases c with
  | lst ds => obtain ⟨vs, h, _⟩ := h; exact ⟨_, h⟩
  | dct kd => obtain ⟨vs, h, _⟩ := h; exact ⟨_, h⟩
  | lck ob kv kd => exact ⟨_, h.1⟩
  | ins C fd => obtain ⟨_, vs, h, _⟩ := h; exact ⟨_, h⟩
/-- the store stands in the heap -/
structure Rep (K : W.Frag) (ι : Io) (μ : Sto) (H : Hp) : Prop where
  len : ι.length = μ.length
  nd : ι.Nodup
  at_ : ∀ (n : Nat) (a : Addr) (c : CT), ι[n]? = some a → μ[n]? = some c → CAt K ι H a c
theorem Rep.free {K : W.Frag} {ι : Io} {μ : Sto} {H : Hp} (r : Rep K ι μ H) {p : Addr} (h : H p = none) : p ∉ ι := fun z => by
  obtain ⟨n, e⟩ := List.mem_iff_getElem?.mp z
  have hn : n < μ.length := by rw [← r.len]; exact (List.getElem?_eq_some_iff.mp e).1
  obtain ⟨o, ho⟩ := (r.at_ n p _ e (List.getElem?_eq_getElem hn)).there
  rw [h] at ho; cases ho
theorem Rep.cell {K : W.Frag} {ι : Io} {μ : Sto} {H : Hp} (r : Rep K ι μ H) {n : Nat} {c : CT} (h : μ[n]? = some c) : ∃ a, ι[n]? = some a ∧ CAt K ι H a c := by
  have hn : n < ι.length := by rw [r.len]; exact (List.getElem?_eq_some_iff.mp h).1
  exact ⟨ι[n], List.getElem?_eq_getElem hn, r.at_ n _ c (List.getElem?_eq_getElem hn) h⟩

/-- new objects that are no cells -/
theorem Gr.new {ι : Io} {H : Hp} {p : Addr} {o : HO} (h : H p = none) (n : p ∉ ι) : Gr ι H ι (upd H p o) :=
  ⟨fun _ _ h => h, fun a u e m => ⟨by rw [upd_ne (ne_of_none e h)]; exact e, m⟩⟩
theorem Rep.new {K : W.Frag} {ι : Io} {μ : Sto} {H : Hp} {p : Addr} {o : HO} (r : Rep K ι μ H) (h : H p = none) : Rep K ι μ (upd H p o) := by
  have g := Gr.new (o := o) h (r.free h)
  refine ⟨r.len, r.nd, fun n a c e1 e2 => ?_⟩
  have z := r.at_ n a c e1 e2
  cases c with
  | lst ds => obtain ⟨vs, h1, h2⟩ := z; exact ⟨vs, by rw [upd_ne (ne_of_none h1 h)]; exact h1, h2.gr g⟩
  | dct kd => obtain ⟨kv, h1, h2⟩ := z; exact ⟨kv, by rw [upd_ne (ne_of_none h1 h)]; exact h1, h2.gr g⟩
  | lck ob kv kd => exact ⟨by rw [upd_ne (ne_of_none z.1 h)]; exact z.1, z.2.gr g⟩
  | ins C fd => obtain ⟨dx, fv, h1, h2⟩ := z; exact ⟨dx, fv, by rw [upd_ne (ne_of_none h1 h)]; exact h1, h2.gr g⟩
theorem nodup_ix2 {N : List Addr} (hN : N.Nodup) {i j : Nat} {x : Addr} (a : N[i]? = some x) (b : N[j]? = some x) : i = j := by
  obtain ⟨h1, e1⟩ := List.getElem?_eq_some_iff.mp a
  obtain ⟨h2, e2⟩ := List.getElem?_eq_some_iff.mp b
  exact (List.getElem_inj hN).mp (e1.trans e2.symm)
/-- the objects of one cell are changed -/
theorem Gr.chg {ι : Io} {H : Hp} {p : Addr} {o : HO} (m : p ∈ ι) : Gr ι H ι (upd H p o) :=
  ⟨fun _ _ h => h, fun a u e n => ⟨by rw [upd_ne (fun z => n (by rw [z]; exact m))]; exact e, n⟩⟩
theorem Rep.chg {K : W.Frag} {ι : Io} {μ : Sto} {H : Hp} {p : Addr} {o : HO} {n : Nat} {c : CT} (r : Rep K ι μ H) (hn : ι[n]? = some p)
    (hc : CAt K ι (upd H p o) p c) : Rep K ι (μ.set n c) (upd H p o) := by
  have m : p ∈ ι := List.mem_of_getElem? hn
  have g := Gr.chg (H := H) (o := o) m
  refine ⟨by simp [r.len], r.nd, fun j a c' e1 e2 => ?_⟩
  by_cases hj : n = j
  · subst hj
    have hl : n < μ.length := by rw [← r.len]; exact (List.getElem?_eq_some_iff.mp hn).1
    rw [List.getElem?_set_self hl] at e2
    cases e2
    rw [hn] at e1; cases e1
    exact hc
  · rw [List.getElem?_set_ne hj] at e2
    have ne : a ≠ p := fun z => hj (nodup_ix2 r.nd hn (z ▸ e1))
    have z := r.at_ j a c' e1 e2
    cases c' with
    | lst ds => obtain ⟨vs, h1, h2⟩ := z; exact ⟨vs, by rw [upd_ne ne]; exact h1, h2.gr g⟩
    | dct kd => obtain ⟨kv, h1, h2⟩ := z; exact ⟨kv, by rw [upd_ne ne]; exact h1, h2.gr g⟩
    | lck ob kv kd => exact ⟨by rw [upd_ne ne]; exact z.1, z.2.gr g⟩
    | ins C fd => obtain ⟨dx, fv, h1, h2⟩ := z; exact ⟨dx, fv, by rw [upd_ne ne]; exact h1, h2.gr g⟩

/-- the slots -/
def Loc (K : W.Frag) (ι : Io) (H : Hp) (σ : L2.St) (ρ : Rho) : Prop :=
  σ.length = ρ.length ∧ ∀ (i : Nat) (d : D), ρ[i]? = some (some d) → ∃ v, σ[i]? = some (some v) ∧ At K ι H v d
theorem Loc.gr {K : W.Frag} {ι ι' : Io} {H H' : Hp} {σ : L2.St} {ρ : Rho} (h : Loc K ι H σ ρ) (g : Gr ι H ι' H') : Loc K ι' H' σ ρ :=
  ⟨h.1, fun i d e => let ⟨v, e1, a⟩ := h.2 i d e; ⟨v, e1, a.gr g⟩⟩
theorem Loc.set {K : W.Frag} {ι : Io} {H : Hp} {σ : L2.St} {ρ : Rho} {v : V} {d : D} (h : Loc K ι H σ ρ) (a : At K ι H v d) (i : Nat) : Loc K ι H (σ.set i (some v)) (ρ.set i (some d)) := by
  refine ⟨by simp [h.1], fun j e q => ?_⟩
  by_cases hj : i = j
  · subst hj
    have hl : i < ρ.length := by
      have := (List.getElem?_eq_some_iff.mp q).1
      simpa using this
    rw [List.getElem?_set_self hl] at q
    cases q
    exact ⟨v, List.getElem?_set_self (by rw [h.1]; exact hl), a⟩
  · rw [List.getElem?_set_ne hj] at q
    obtain ⟨w, e1, a1⟩ := h.2 j e q
    exact ⟨w, by rw [List.getElem?_set_ne hj]; exact e1, a1⟩

/-! ### readings over data -/
abbrev QD := D → Sto → Prop
/-- an exception: its class, its attributes, the slots, the store -/
abbrev ED := Value → List (Str × D) → Rho → Sto → Prop
abbrev FE := Rho → Sto → QD → ED → Prop
def QV (K : W.Frag) (ι : Io) (H : Hp) (Q : VK) : QD := fun d μ => ∀ ι' H' v, Gr ι H ι' H' → Rep K ι' μ H' → At K ι' H' v d → Q v H'
def XV (K : W.Frag) (ι : Io) (H : Hp) (W : Value → Option Addr → Hp → Prop) (cls : Value) (fd : List (Str × D)) (μ : Sto) : Prop :=
  ∀ ι' H' dd fv, Gr ι H ι' H' → Rep K ι' μ H' → H' dd = some (.xd fv) → Pts K ι' H' fv fd → W cls (some dd) H'
def EW (K : W.Frag) (ι : Io) (H : Hp) (W : WX) (σ : L2.St) : ED := fun cls fd _ μ => XV K ι H (fun c d H' => W c d σ H') cls fd μ
def rdE (K : W.Frag) (W : WX) (f : FE) : TE := fun σ H Q => ∃ ι ρ μ, Rep K ι μ H ∧ Loc K ι H σ ρ ∧ f ρ μ (QV K ι H Q) (EW K ι H W σ)
def MonE (f : FE) : Prop := ∀ ρ μ (Q Q' : QD) (E E' : ED), (∀ d m, Q d m → Q' d m) → (∀ c l m, E c l ρ m → E' c l ρ m) → f ρ μ Q E → f ρ μ Q' E'
structure DE (X : Cx) (W : WX) (e : Expr) (f : FE) : Prop where
  mono : MonE f
  run : PE X e (rdE X.K W f)
theorem PE.imp {X : Cx} {e : Expr} {t t' : TE} (h : PE X e t) (k : ∀ σ H Q, t' σ H Q → t σ H Q) : PE X e t' :=
  ⟨fun pins s σ H Q I q => h.run pins s σ H Q I (k σ H Q q)⟩

section
variable {K : W.Frag} {ι ι' : Io} {H H' : Hp} {σ : L2.St} {W : WX}
theorem QV.gr {Q : VK} {d : D} {μ : Sto} (g : Gr ι H ι' H') (h : QV K ι H Q d μ) : QV K ι' H' Q d μ := fun _ _ v g' r a => h _ _ v (g.trans g') r a
theorem EW.gr {c : Value} {l : List (Str × D)} {ρ ρ' : Rho} {μ : Sto} (g : Gr ι H ι' H') (h : EW K ι H W σ c l ρ μ) : EW K ι' H' W σ c l ρ' μ :=
  fun _ _ dd fv g' r a p => h _ _ dd fv (g.trans g') r a p
end
end Dl

namespace Dl
open PySem PySem.Spec L2
open PyProof.Rows hiding St Binds

/-! ### tests, argument lists -/
abbrev FT := Rho → Sto → (Bool → Sto → Prop) → ED → Prop
abbrev FA := Rho → Sto → (List D → Sto → Prop) → ED → Prop
def TV (K : PySem.W.Frag) (ι : Io) (H : Hp) (Q : Bool → Hp → Prop) : Bool → Sto → Prop := fun b μ => ∀ ι' H', Gr ι H ι' H' → Rep K ι' μ H' → Q b H'
def AV (K : PySem.W.Frag) (ι : Io) (H : Hp) (Q : List V → Hp → Prop) : List D → Sto → Prop := fun ds μ => ∀ ι' H' vs, Gr ι H ι' H' → Rep K ι' μ H' → Ats K ι' H' vs ds → Q vs H'
def rdT (K : PySem.W.Frag) (W : WX) (f : FT) : TT := fun σ H Q => ∃ ι ρ μ, Rep K ι μ H ∧ Loc K ι H σ ρ ∧ f ρ μ (TV K ι H Q) (EW K ι H W σ)
def rdA (K : PySem.W.Frag) (W : WX) (f : FA) : TA := fun σ H Q => ∃ ι ρ μ, Rep K ι μ H ∧ Loc K ι H σ ρ ∧ f ρ μ (AV K ι H Q) (EW K ι H W σ)
def MonT (f : FT) : Prop := ∀ ρ μ (Q Q' : Bool → Sto → Prop) (E E' : ED), (∀ d m, Q d m → Q' d m) → (∀ c l m, E c l ρ m → E' c l ρ m) → f ρ μ Q E → f ρ μ Q' E'
def MonA (f : FA) : Prop := ∀ ρ μ (Q Q' : List D → Sto → Prop) (E E' : ED), (∀ d m, Q d m → Q' d m) → (∀ c l m, E c l ρ m → E' c l ρ m) → f ρ μ Q E → f ρ μ Q' E'
structure DT (X : Cx) (W : WX) (e : Expr) (f : FT) : Prop where
  mono : MonT f
  run : PT X e (rdT X.K W f)
structure DW (X : Cx) (W : WX) (e : Expr) (f : FT) : Prop where
  mono : MonT f
  run : PW X e (rdT X.K W f)
structure DA (X : Cx) (W : WX) (es : List Expr) (f : FA) : Prop where
  mono : MonA f
  run : PA X es (rdA X.K W f)
theorem PT.imp {X : Cx} {e : Expr} {t t' : TT} (h : PT X e t) (k : ∀ σ H Q, t' σ H Q → t σ H Q) : PT X e t' :=
  ⟨fun pins s σ H Q I q => h.run pins s σ H Q I (k σ H Q q)⟩
theorem PW.imp {X : Cx} {e : Expr} {t t' : TT} (h : PW X e t) (k : ∀ σ H Q, t' σ H Q → t σ H Q) : PW X e t' :=
  ⟨fun wh pins s σ H Q I q => h.run wh pins s σ H Q I (k σ H Q q)⟩
theorem PA.imp {X : Cx} {es : List Expr} {t t' : TA} (h : PA X es t) (k : ∀ σ H Q, t' σ H Q → t σ H Q) : PA X es t' :=
  ⟨fun pos pins s σ H Q I q => h.run pos pins s σ H Q I (k σ H Q q)⟩

section
variable {X : Cx} {W : WX} {a b c e : Expr} {es : List Expr} {fa fb fc f : FE} {ft fu : FT} {fl : FA} {pos : Pos} {K : PySem.W.Frag} {ι : Io} {H : Hp} {σ : L2.St} {ρ : Rho} {μ : Sto}

/-- one expression ahead of what follows -/
theorem chain1 (ha : MonE fa) {R : VK} {P : QD} (r : Rep K ι μ H) (l : Loc K ι H σ ρ) (h : fa ρ μ P (EW K ι H W σ))
    (k : ∀ d μ1 ι1 H1 v, P d μ1 → Gr ι H ι1 H1 → Rep K ι1 μ1 H1 → Loc K ι1 H1 σ ρ → At K ι1 H1 v d → R v H1) : rdE K W fa σ H R :=
  ⟨ι, ρ, μ, r, l, ha ρ μ _ _ _ _ (fun d m q ι1 H1 v g r1 a1 => k d m ι1 H1 v q g r1 (l.gr g) a1) (fun _ _ _ q => q) h⟩
theorem chainT (ha : MonT ft) {R : Bool → Hp → Prop} {P : Bool → Sto → Prop} (r : Rep K ι μ H) (l : Loc K ι H σ ρ) (h : ft ρ μ P (EW K ι H W σ))
    (k : ∀ d μ1 ι1 H1, P d μ1 → Gr ι H ι1 H1 → Rep K ι1 μ1 H1 → Loc K ι1 H1 σ ρ → R d H1) : rdT K W ft σ H R :=
  ⟨ι, ρ, μ, r, l, ha ρ μ _ _ _ _ (fun d m q ι1 H1 g r1 => k d m ι1 H1 q g r1 (l.gr g)) (fun _ _ _ q => q) h⟩
theorem chainA (ha : MonA fl) {R : List V → Hp → Prop} {P : List D → Sto → Prop} (r : Rep K ι μ H) (l : Loc K ι H σ ρ) (h : fl ρ μ P (EW K ι H W σ))
    (k : ∀ d μ1 ι1 H1 v, P d μ1 → Gr ι H ι1 H1 → Rep K ι1 μ1 H1 → Loc K ι1 H1 σ ρ → Ats K ι1 H1 v d → R v H1) : rdA K W fl σ H R :=
  ⟨ι, ρ, μ, r, l, ha ρ μ _ _ _ _ (fun d m q ι1 H1 v g r1 a1 => k d m ι1 H1 v q g r1 (l.gr g) a1) (fun _ _ _ q => q) h⟩

/-! ### names and constants -/
def fVar (i : Nat) : FE := fun ρ μ Q _ => ∃ d, ρ[i]? = some (some d) ∧ Q d μ
def fC (d : D) : FE := fun _ μ Q _ => Q d μ
theorem mVar (i : Nat) : MonE (fVar i) := fun ρ μ Q Q' E E' h _ ⟨d, e, q⟩ => ⟨d, e, h d μ q⟩
theorem mC (d : D) : MonE (fC d) := fun ρ μ Q Q' E E' h _ q => h d μ q
theorem de_var (i : Nat) {x : Str} (hN : X.N[i]? = some x := by rfl) (hv : Vis X.env.scope x := by first | exact Or.inl rfl | exact Or.inr (Or.inl rfl) | exact Or.inr (Or.inr rfl))
    (hd : (x == ("__debug__" : Str)) = false := by decide) (hcd : (x == ("__classdict__" : Str)) = false := by decide) : DE X W (.Name x pos) (fVar i) :=
  ⟨mVar i, PE.imp (pe_var hN hv hd hcd) fun σ H Q ⟨ι, ρ, μ, r, l, d, e, q⟩ => let ⟨v, e1, a⟩ := l.2 i d e; ⟨v, e1, q ι H v (Gr.refl _ _) r a⟩⟩
theorem de_k {v : V} {d : D} (h : PE X e (tC v)) (a : ∀ ι H, At X.K ι H v d) : DE X W e (fC d) :=
  ⟨mC d, PE.imp h fun σ H Q ⟨ι, ρ, μ, r, l, q⟩ => q ι H v (Gr.refl _ _) r (a ι H)⟩
theorem de_int {i : Int} {j} : DE X W (.Constant (.int i) j pos) (fC (.int i)) := de_k pe_int fun _ _ => .int i
theorem de_bl {b : Bool} {j} : DE X W (.Constant (.bool b) j pos) (fC (.bl b)) := de_k pe_bl fun _ _ => .bl b
theorem de_non {j} : DE X W (.Constant .none j pos) (fC .non) := de_k pe_non fun _ _ => .non
theorem de_str {x : Str} {j} : DE X W (.Constant (.str x) j pos) (fC (.str x)) := de_k pe_str fun _ _ => .str x

/-! ### operators -/
abbrev G2 := D → D → Sto → QD → Prop
def MonG (g : G2) : Prop := ∀ x y μ (Q Q' : QD), (∀ d m, Q d m → Q' d m) → g x y μ Q → g x y μ Q'
structure OpD (X : Cx) (f : Value → Value → Sem Value) (g : G2) : Prop where
  mono : MonG g
  run : ∃ r, OpR X f r ∧ ∀ ι H μ x y dx dy Q, Rep X.K ι μ H → At X.K ι H x dx → At X.K ι H y dy → g dx dy μ (QV X.K ι H Q) → r x y H Q
theorem OpD.or {p : Value → Value → Sem Value} {g g' : G2} (h : OpD X p g) (h' : OpD X p g') : OpD X p (fun x y μ Q => g x y μ Q ∨ g' x y μ Q) := by
  obtain ⟨r, o, k⟩ := h.run
  obtain ⟨r', o', k'⟩ := h'.run
  refine ⟨fun x y μ Q Q' m q => q.imp (h.mono x y μ Q Q' m) (h'.mono x y μ Q Q' m), fun x y H Q => r x y H Q ∨ r' x y H Q, fun pins s σ H x y v u Q I rx ry q => ?_, fun ι H μ x y dx dy Q r a b q => ?_⟩
  · rcases q with q | q
    · exact o pins s σ H x y v u Q I rx ry q
    · exact o' pins s σ H x y v u Q I rx ry q
  · exact q.imp (k ι H μ x y dx dy Q r a b) (k' ι H μ x y dx dy Q r a b)
def fOp (g : G2) (fa fb : FE) : FE := fun ρ μ Q E => fa ρ μ (fun x μ1 => fb ρ μ1 (fun y μ2 => g x y μ2 Q) E) E
theorem mOp {g : G2} (mg : MonG g) (ma : MonE fa) (mb : MonE fb) : MonE (fOp g fa fb) := fun ρ μ Q Q' E E' h he q =>
  ma ρ μ _ _ E E' (fun x m q1 => mb ρ m _ _ E E' (fun y m2 q2 => mg x y m2 Q Q' h q2) he q1) he q
theorem rdOp {g : G2} {r : R2} (mg : MonG g) (ma : MonE fa) (mb : MonE fb)
    (k : ∀ ι H μ x y dx dy Q, Rep K ι μ H → At K ι H x dx → At K ι H y dy → g dx dy μ (QV K ι H Q) → r x y H Q) {Q : VK} (h : rdE K W (fOp g fa fb) σ H Q) :
    tOp r (rdE K W fa) (rdE K W fb) σ H Q := by
  obtain ⟨ι, ρ, μ, rp, l, q⟩ := h
  refine chain1 ma rp l q fun x μ1 ι1 H1 v q1 g1 r1 l1 a1 => ?_
  refine chain1 mb r1 l1 (mb ρ μ1 _ _ _ _ (fun _ _ q => q) (fun _ _ _ z => EW.gr g1 z) q1) fun y μ2 ι2 H2 u q2 g2 r2 l2 a2 => ?_
  exact k ι2 H2 μ2 v u x y Q r2 (a1.gr g2) a2 (mg x y μ2 _ _ (fun d m z => QV.gr (g1.trans g2) z) q2)
theorem de_op {op : Operator} {g : G2} (o : OpD X (binaryOp op) g) (ha : DE X W a fa) (hb : DE X W b fb) : DE X W (.BinOp a op b pos) (fOp g fa fb) := by
  obtain ⟨r, ho, k⟩ := o.run
  exact ⟨mOp o.mono ha.mono hb.mono, PE.imp (pe_op ho ha.run hb.run) fun σ H Q h => rdOp o.mono ha.mono hb.mono k h⟩
theorem de_cmp {op : CmpOp} {g : G2} (o : OpD X (compareOp op) g) (ha : DE X W a fa) (hb : DE X W b fb) (hm : behindInMarks op b = false := by first | exact nomark _ | rfl) :
    DE X W (.Compare a [op] [b] pos) (fOp g fa fb) := by
  obtain ⟨r, ho, k⟩ := o.run
  exact ⟨mOp o.mono ha.mono hb.mono, PE.imp (pe_cmpR ho ha.run hb.run hm) fun σ H Q h => rdOp o.mono ha.mono hb.mono k h⟩

/-- a value that is a bool, as a test -/
def fB (f : FE) : FT := fun ρ μ Q E => f ρ μ (fun d m => ∃ b, d = .bl b ∧ Q b m) E
theorem mB (m : MonE f) : MonT (fB f) := fun ρ μ Q Q' E E' h he q => m ρ μ _ _ E E' (fun d m ⟨b, e, z⟩ => ⟨b, e, h b m z⟩) he q
theorem rdB (m : MonE f) {Q : Bool → Hp → Prop} (h : rdT K W (fB f) σ H Q) : tB (rdE K W f) σ H Q := by
  obtain ⟨ι, ρ, μ, rp, l, q⟩ := h
  refine chain1 m rp l q fun d μ1 ι1 H1 v q1 g1 r1 l1 a1 => ?_
  obtain ⟨b, rfl, z⟩ := q1
  cases a1
  exact ⟨b, rfl, z ι1 H1 g1 r1⟩
theorem dt_val (h : DE X W e f) (he : ∀ whole, isTrue e X.env whole = (do let v ← whole; standAt e.pos; holding [v] (truthy v)) := by intro _; rfl) : DT X W e (fB f) :=
  ⟨mB h.mono, PT.imp (pt_val h.run he) fun σ H Q q => rdB h.mono q⟩
theorem dt_cmp {op : CmpOp} {g : G2} (o : OpD X (compareOp op) g) (ha : DE X W a fa) (hb : DE X W b fb) (hm : behindInMarks op b = false := by first | exact nomark _ | rfl) :
    DT X W (.Compare a [op] [b] pos) (fB (fOp g fa fb)) := by
  obtain ⟨r, ho, k⟩ := o.run
  refine ⟨mB (mOp o.mono ha.mono hb.mono), PT.imp (pt_cmpR ho ha.run hb.run hm) fun σ H Q h => ?_⟩
  obtain ⟨ι, ρ, μ, rp, l, q⟩ := h
  refine rdOp (Q := fun x H1 => ∃ c, x = .bl c ∧ Q c H1) o.mono ha.mono hb.mono k ⟨ι, ρ, μ, rp, l, mOp o.mono ha.mono hb.mono ρ μ _ _ _ _ (fun d m z => ?_) (fun _ _ _ z => z) q⟩
  intro ι1 H1 v g1 r1 a1
  obtain ⟨b, e, z⟩ := z
  cases e
  cases a1
  exact ⟨b, rfl, z ι1 H1 g1 r1⟩

/-! ### not, and, or, if -/
def fNot (f : FT) : FT := fun ρ μ Q E => f ρ μ (fun b m => Q (!b) m) E
def fAnd (f u : FT) : FT := fun ρ μ Q E => f ρ μ (fun b m => if b = true then u ρ m Q E else Q false m) E
def fOr (f u : FT) : FT := fun ρ μ Q E => f ρ μ (fun b m => if b = true then Q true m else u ρ m Q E) E
theorem mNot (m : MonT ft) : MonT (fNot ft) := fun ρ μ Q Q' E E' h he q => m ρ μ _ _ E E' (fun d m z => h _ m z) he q
theorem mAnd (m : MonT ft) (m' : MonT fu) : MonT (fAnd ft fu) := fun ρ μ Q Q' E E' h he q => m ρ μ _ _ E E' (fun d mm z => by
  cases d with
  | true => exact m' ρ mm Q Q' E E' h he z
  | false => exact h false mm z) he q
theorem mOr (m : MonT ft) (m' : MonT fu) : MonT (fOr ft fu) := fun ρ μ Q Q' E E' h he q => m ρ μ _ _ E E' (fun d mm z => by
  cases d with
  | false => exact m' ρ mm Q Q' E E' h he z
  | true => exact h true mm z) he q
theorem dt_not (h : DT X W a ft) : DT X W (.UnaryOp .Not a pos) (fNot ft) :=
  ⟨mNot h.mono, PT.imp (pt_not h.run) fun σ H Q ⟨ι, ρ, μ, rp, l, q⟩ => chainT h.mono rp l q fun d μ1 ι1 H1 q1 g1 r1 l1 => q1 ι1 H1 g1 r1⟩
theorem dw_and1 (h : DT X W a ft) : DW X W (.BoolOp .And [a] pos) ft := ⟨h.mono, pw_and1 h.run⟩
theorem dw_or1 (h : DT X W a ft) : DW X W (.BoolOp .Or [a] pos) ft := ⟨h.mono, pw_or1 h.run⟩
theorem dw_and (h : DT X W a ft) (h' : DW X W (.BoolOp .And (b :: es) pos) fu) : DW X W (.BoolOp .And (a :: b :: es) pos) (fAnd ft fu) :=
  ⟨mAnd h.mono h'.mono, PW.imp (pw_and h.run h'.run) fun σ H Q ⟨ι, ρ, μ, rp, l, q⟩ => chainT h.mono rp l q fun d μ1 ι1 H1 q1 g1 r1 l1 => by
    cases d with
    | true => exact ⟨ι1, ρ, μ1, r1, l1, h'.mono ρ μ1 _ _ _ _ (fun b m z ι2 H2 g2 r2 => z ι2 H2 (g1.trans g2) r2) (fun _ _ _ z => EW.gr g1 z) q1⟩
    | false => exact q1 ι1 H1 g1 r1⟩
theorem dw_or (h : DT X W a ft) (h' : DW X W (.BoolOp .Or (b :: es) pos) fu) : DW X W (.BoolOp .Or (a :: b :: es) pos) (fOr ft fu) :=
  ⟨mOr h.mono h'.mono, PW.imp (pw_or h.run h'.run) fun σ H Q ⟨ι, ρ, μ, rp, l, q⟩ => chainT h.mono rp l q fun d μ1 ι1 H1 q1 g1 r1 l1 => by
    cases d with
    | false => exact ⟨ι1, ρ, μ1, r1, l1, h'.mono ρ μ1 _ _ _ _ (fun b m z ι2 H2 g2 r2 => z ι2 H2 (g1.trans g2) r2) (fun _ _ _ z => EW.gr g1 z) q1⟩
    | true => exact q1 ι1 H1 g1 r1⟩
theorem DW.pt (h : DW X W e ft) : DT X W e ft := ⟨h.mono, h.run.pt⟩
def fIf (t : FT) (f f' : FE) : FE := fun ρ μ Q E => t ρ μ (fun b m => if b = true then f ρ m Q E else f' ρ m Q E) E
theorem mIf (m : MonT ft) (ma : MonE fa) (mb : MonE fb) : MonE (fIf ft fa fb) := fun ρ μ Q Q' E E' h he q => m ρ μ _ _ E E' (fun d mm z => by
  cases d with
  | true => exact ma ρ mm Q Q' E E' h he z
  | false => exact mb ρ mm Q Q' E E' h he z) he q
theorem de_ifx (hc : DT X W c ft) (ha : DE X W a fa) (hb : DE X W b fb) : DE X W (.IfExp c a b pos) (fIf ft fa fb) :=
  ⟨mIf hc.mono ha.mono hb.mono, PE.imp (pe_ifExp hc.run ha.run hb.run) fun σ H Q ⟨ι, ρ, μ, rp, l, q⟩ => chainT hc.mono rp l q fun d μ1 ι1 H1 q1 g1 r1 l1 => by
    cases d with
    | true => exact ⟨ι1, ρ, μ1, r1, l1, ha.mono ρ μ1 _ _ _ _ (fun b m z => QV.gr g1 z) (fun _ _ _ z => EW.gr g1 z) q1⟩
    | false => exact ⟨ι1, ρ, μ1, r1, l1, hb.mono ρ μ1 _ _ _ _ (fun b m z => QV.gr g1 z) (fun _ _ _ z => EW.gr g1 z) q1⟩⟩
/-- .. as values -/
def fAndV (f f' : FE) : FE := fun ρ μ Q E => f ρ μ (fun d m => ∃ b, d = .bl b ∧ if b = true then f' ρ m Q E else Q (.bl false) m) E
theorem mAndV (m : MonE fa) (m' : MonE fb) : MonE (fAndV fa fb) := fun ρ μ Q Q' E E' h he q => m ρ μ _ _ E E' (fun d mm ⟨b, e, z⟩ => ⟨b, e, by
  cases b with
  | true => exact m' ρ mm Q Q' E E' h he z
  | false => exact h _ mm z⟩) he q
theorem de_one {op} (h : DE X W a fa) : DE X W (.BoolOp op [a] pos) fa := ⟨h.mono, pe_one h.run⟩
theorem de_and (h : DE X W a fa) (h' : DE X W (.BoolOp .And (b :: es) pos) fb) : DE X W (.BoolOp .And (a :: b :: es) pos) (fAndV fa fb) :=
  ⟨mAndV h.mono h'.mono, PE.imp (pe_and h.run h'.run) fun σ H Q ⟨ι, ρ, μ, rp, l, q⟩ => chain1 h.mono rp l q fun d μ1 ι1 H1 v q1 g1 r1 l1 a1 => by
    obtain ⟨k, rfl, z⟩ := q1
    cases a1
    refine ⟨k, rfl, ?_⟩
    cases k with
    | true => exact ⟨ι1, ρ, μ1, r1, l1, h'.mono ρ μ1 _ _ _ _ (fun b m z => QV.gr g1 z) (fun _ _ _ z => EW.gr g1 z) z⟩
    | false => exact z ι1 H1 _ g1 r1 (.bl false)⟩
/-! ### argument lists, displays -/
def fNil : FA := fun _ μ Q _ => Q [] μ
def fCons (f : FE) (g : FA) : FA := fun ρ μ Q E => f ρ μ (fun d m => g ρ m (fun ds m2 => Q (d :: ds) m2) E) E
theorem mNil : MonA fNil := fun _ μ _ _ _ _ h _ q => h _ μ q
theorem mCons (m : MonE f) (m' : MonA fl) : MonA (fCons f fl) := fun ρ μ Q Q' E E' h he q => m ρ μ _ _ E E' (fun d mm z => m' ρ mm _ _ E E' (fun ds m2 z2 => h _ m2 z2) he z) he q
theorem da_nil : DA X W [] fNil := ⟨mNil, PA.imp pa_nil fun σ H Q ⟨ι, ρ, μ, rp, l, q⟩ => q ι H [] (Gr.refl _ _) rp Ats.nil⟩
theorem da_cons (h : DE X W e f) (h' : DA X W es fl) (hs : starEach (e :: es) X.env = (false, eval e X.env) :: starEach es X.env := by rfl) : DA X W (e :: es) (fCons f fl) :=
  ⟨mCons h.mono h'.mono, PA.imp (pa_cons h.run h'.run hs) fun σ H Q ⟨ι, ρ, μ, rp, l, q⟩ => chain1 h.mono rp l q fun d μ1 ι1 H1 v q1 g1 r1 l1 a1 =>
    chainA h'.mono r1 l1 (h'.mono ρ μ1 _ _ _ _ (fun _ _ z => z) (fun _ _ _ z => EW.gr g1 z) q1) fun ds μ2 ι2 H2 vs q2 g2 r2 l2 a2 => q2 ι2 H2 _ (g1.trans g2) r2 (Ats.cons (a1.gr g2) a2)⟩

theorem At.newL {vs : List V} {ds : List D} {p : Addr} (h : H p = none) (n : p ∉ ι) (a : Ats K ι H vs ds) : At K ι (upd H p (.lst vs)) (.ref p) (.lst ds) :=
  .lst upd_same n a.1 fun i v d e1 e2 => (a.2 i v d e1 e2).gr (Gr.new h n)
theorem At.newT {vs : List V} {ds : List D} {p : Addr} (h : H p = none) (n : p ∉ ι) (a : Ats K ι H vs ds) : At K ι (upd H p (.tup vs)) (.ref p) (.tup ds) :=
  .tup (.inl upd_same) n a.1 fun i v d e1 e2 => (a.2 i v d e1 e2).gr (Gr.new h n)
/-- a new cell -/
theorem Gr.cellNew {p : Addr} {o : HO} (h : H p = none) (n : p ∉ ι) : Gr ι H (ι ++ [p]) (upd H p o) := by
  refine ⟨fun n a e => by rw [List.getElem?_append_left (List.getElem?_eq_some_iff.mp e).1]; exact e, fun a u e m => ⟨by rw [upd_ne (ne_of_none e h)]; exact e, fun z => ?_⟩⟩
  rcases List.mem_append.mp z with z | z
  · exact m z
  · rw [List.mem_singleton.mp z, h] at e; cases e
theorem Rep.cellNew {p : Addr} {o : HO} {c : CT} (r : Rep K ι μ H) (h : H p = none) (hc : CAt K (ι ++ [p]) (upd H p o) p c) : Rep K (ι ++ [p]) (μ ++ [c]) (upd H p o) := by
  have n := r.free h
  have g := Gr.cellNew (o := o) h n
  refine ⟨by simp [r.len], ?_, fun j a c' e1 e2 => ?_⟩
  · refine List.nodup_append.mpr ⟨r.nd, by simp, fun a ha b hb e => ?_⟩
    rw [List.mem_singleton.mp hb] at e
    exact n (e ▸ ha)
  · by_cases hj : j < ι.length
    · rw [List.getElem?_append_left hj] at e1
      rw [List.getElem?_append_left (by rw [← r.len]; exact hj)] at e2
      have z := r.at_ j a c' e1 e2
      have ne : a ≠ p := fun w => n (w ▸ List.mem_of_getElem? e1)
      cases c' with
      | lst ds => obtain ⟨vs, h1, h2⟩ := z; exact ⟨vs, by rw [upd_ne ne]; exact h1, h2.gr g⟩
      | dct kd => obtain ⟨kv, h1, h2⟩ := z; exact ⟨kv, by rw [upd_ne ne]; exact h1, h2.gr g⟩
      | lck ob kv kd => exact ⟨by rw [upd_ne ne]; exact z.1, z.2.gr g⟩
      | ins C fd => obtain ⟨dx, fv, h1, h2⟩ := z; exact ⟨dx, fv, by rw [upd_ne ne]; exact h1, h2.gr g⟩
    · have hl : j = ι.length := by
        have := (List.getElem?_eq_some_iff.mp e1).1
        rw [List.length_append, List.length_singleton] at this
        omega
      subst hl
      rw [List.getElem?_append_right (Nat.le_refl _), Nat.sub_self] at e1
      rw [List.getElem?_append_right (by rw [r.len]; exact Nat.le_refl _), r.len, Nat.sub_self] at e2
      cases Option.some.inj e1
      cases Option.some.inj e2
      exact hc
/-- a new list: as data, or as a cell -/
def gNewL (ds : List D) (μ : Sto) (Q : QD) : Prop := ds.length ≤ sizeLine ∧ (Q (.lst ds) μ ∨ Q (.cell μ.length) (μ ++ [.lst ds]))
theorem gNewL_mono {ds : List D} {Q Q' : QD} (h : ∀ d m, Q d m → Q' d m) (q : gNewL ds μ Q) : gNewL ds μ Q' := ⟨q.1, q.2.imp (h _ _) (h _ _)⟩
theorem newL_ok {vs : List V} {ds : List D} {Q : VK} (r : Rep K ι μ H) (a : Ats K ι H vs ds) (q : gNewL ds μ (QV K ι H Q)) (p : Addr) (h : H p = none) : Q (.ref p) (upd H p (.lst vs)) := by
  have n := r.free h
  rcases q.2 with q | q
  · exact q ι _ _ (Gr.new h n) (r.new h) (.newL h n a)
  · have g := Gr.cellNew (o := .lst vs) h n
    exact q _ _ _ g (r.cellNew h ⟨vs, upd_same, a.gr g⟩) (.cell (by rw [List.getElem?_append_right (by rw [r.len]; exact Nat.le_refl _), r.len, Nat.sub_self]; rfl))
def fLst (g : FA) : FE := fun ρ μ Q E => g ρ μ (fun ds m => gNewL ds m Q) E
def fTup (g : FA) : FE := fun ρ μ Q E => g ρ μ (fun ds m => ds.length ≤ sizeLine ∧ Q (.tup ds) m) E
theorem mLst (m : MonA fl) : MonE (fLst fl) := fun ρ μ Q Q' E E' h he q => m ρ μ _ _ E E' (fun d mm z => gNewL_mono h z) he q
theorem mTup (m : MonA fl) : MonE (fTup fl) := fun ρ μ Q Q' E E' h he q => m ρ μ _ _ E E' (fun d mm z => ⟨z.1, h _ mm z.2⟩) he q
theorem de_lst (h : DA X W es fl) : DE X W (.List es pos) (fLst fl) :=
  ⟨mLst h.mono, PE.imp (pe_lst h.run) fun σ H Q ⟨ι, ρ, μ, rp, l, q⟩ => chainA h.mono rp l q fun ds μ1 ι1 H1 vs q1 g1 r1 l1 a1 =>
    ⟨by rw [a1.1]; exact q1.1, newL_ok r1 a1 (gNewL_mono (fun d m z => QV.gr g1 z) q1)⟩⟩
theorem de_tup {x1} (h : DA X W es fl) : DE X W (.Tuple es x1 pos) (fTup fl) :=
  ⟨mTup h.mono, PE.imp (pe_tup h.run) fun σ H Q ⟨ι, ρ, μ, rp, l, q⟩ => chainA h.mono rp l q fun ds μ1 ι1 H1 vs q1 g1 r1 l1 a1 =>
    ⟨by rw [a1.1]; exact q1.1, fun p hp => q1.2 ι1 _ _ (g1.trans (Gr.new hp (r1.free hp))) (r1.new hp) (.newT hp (r1.free hp) a1)⟩⟩
end
end Dl

namespace Dl
open PySem PySem.Spec L2
open PyProof.Rows hiding St Binds

/-! ### what a datum is read as -/
def asL (μ : Sto) : D → Option (List D)
  | .lst ds => some ds
  | .cell n => match μ[n]? with | some (.lst ds) => some ds | _ => none
  | _ => none
def asD (μ : Sto) : D → Option (List (Key × D))
  | .dct kd => some kd
  | .cell n => match μ[n]? with | some (.dct kd) => some kd | some (.lck _ _ kd) => some kd | _ => none
  | _ => none
/-- a list or a tuple -/
def asS (μ : Sto) : D → Option (List D)
  | .tup ds => some ds
  | d => asL μ d
section
variable {K : PySem.W.Frag} {ι : Io} {H : Hp} {μ : Sto} {v : V} {d : D} {ds : List D} {kd : List (Key × D)}
theorem asL_at (r : Rep K ι μ H) (a : At K ι H v d) (h : asL μ d = some ds) : ∃ p vs, v = .ref p ∧ H p = some (.lst vs) ∧ Ats K ι H vs ds := by
  cases a with
  | lst h1 n l q => cases Option.some.inj h; exact ⟨_, _, rfl, h1, l, q⟩
  | @cell p n hn =>
    simp only [asL] at h
    split at h
    · rename_i e
      cases Option.some.inj h
      obtain ⟨vs, h1, h2⟩ := r.at_ n p _ hn e
      exact ⟨p, vs, rfl, h1, h2⟩
    · cases h
  | _ => cases h
theorem asD_at (r : Rep K ι μ H) (a : At K ι H v d) (h : asD μ d = some kd) : ∃ p kv, v = .ref p ∧ Rd H p (.dK kv) ∧ Pts K ι H kv kd := by
  cases a with
  | dct h1 n l q => cases Option.some.inj h; exact ⟨_, _, rfl, h1, l, q⟩
  | @cell p n hn =>
    simp only [asD] at h
    split at h
    · rename_i e
      cases Option.some.inj h
      obtain ⟨kv, h1, h2⟩ := r.at_ n p _ hn e
      exact ⟨p, kv, rfl, .inl h1, h2⟩
    · rename_i e
      cases Option.some.inj h
      obtain ⟨h1, h2⟩ := r.at_ n p _ hn e
      exact ⟨p, _, rfl, .inr ⟨_, h1⟩, h2⟩
    · cases h
  | _ => cases h
theorem asS_at (r : Rep K ι μ H) (a : At K ι H v d) (h : asS μ d = some ds) : ∃ p vs, v = .ref p ∧ (SqL K H p vs ∨ SqT K H p vs) ∧ Ats K ι H vs ds := by
  cases a with
  | tup h1 n l q => cases Option.some.inj h; exact ⟨_, _, rfl, .inr (.inl h1), l, q⟩
  | ktup h1 l q => cases Option.some.inj h; exact ⟨_, _, rfl, .inr (h1 H), l, q⟩
  | lst h1 n l q => cases Option.some.inj h; exact ⟨_, _, rfl, .inl (SqL.of h1), l, q⟩
  | cell hn =>
    obtain ⟨p, vs, e, h1, h2⟩ := asL_at r (.cell hn) (show asL μ (.cell _) = some ds from h)
    exact ⟨p, vs, e, .inl (SqL.of h1), h2⟩
  | _ => cases h
theorem tup_at (a : At K ι H v (.tup ds)) : ∃ p vs, v = .ref p ∧ SqT K H p vs ∧ Ats K ι H vs ds := by
  cases a with
  | tup h1 n l q => exact ⟨_, _, rfl, .inl h1, l, q⟩
  | ktup h1 l q => exact ⟨_, _, rfl, h1 H, l, q⟩
end

/-! ### the two-place operators -/
theorem OpD.imp {X : Cx} {f : Value → Value → Sem Value} {g g' : G2} (h : OpD X f g') (m : MonG g) (k : ∀ x y μ Q, g x y μ Q → g' x y μ Q) : OpD X f g := by
  obtain ⟨r, o, q⟩ := h.run
  exact ⟨m, r, o, fun ι H μ x y dx dy Q r a b z => q ι H μ x y dx dy Q r a b (k _ _ _ _ z)⟩
theorem opd_ii {X : Cx} {f : Value → Value → Sem Value} {C : Int → Int → Prop} {g : Int → Int → V} {gd : Int → Int → D} (o : OpR X f (rI C g)) (hg : ∀ i j K ι H, At K ι H (g i j) (gd i j)) :
    OpD X f (fun x y μ Q => ∃ i j, x = .int i ∧ y = .int j ∧ C i j ∧ Q (gd i j) μ) :=
  ⟨fun x y μ Q Q' h ⟨i, j, e1, e2, c, q⟩ => ⟨i, j, e1, e2, c, h _ _ q⟩, _, o, fun ι H μ x y dx dy Q r a b ⟨i, j, e1, e2, c, q⟩ => by
    subst e1; subst e2
    cases a; cases b
    exact ⟨i, j, rfl, rfl, c, q ι H _ (Gr.refl _ _) r (hg i j _ _ _)⟩⟩
theorem opd_ii0 {X : Cx} {f : Value → Value → Sem Value} {g : Int → Int → V} {gd : Int → Int → D} (o : OpR X f (rI0 g)) (hg : ∀ i j K ι H, At K ι H (g i j) (gd i j)) :
    OpD X f (fun x y μ Q => ∃ i j, x = .int i ∧ y = .int j ∧ Q (gd i j) μ) :=
  ⟨fun x y μ Q Q' h ⟨i, j, e1, e2, q⟩ => ⟨i, j, e1, e2, h _ _ q⟩, _, o, fun ι H μ x y dx dy Q r a b ⟨i, j, e1, e2, q⟩ => by
    subst e1; subst e2
    cases a; cases b
    exact ⟨i, j, rfl, rfl, q ι H _ (Gr.refl _ _) r (hg i j _ _ _)⟩⟩
/-- two texts to a value -/
theorem opd_ss {X : Cx} {f : Value → Value → Sem Value} {C : Str → Str → Prop} {g : Str → Str → V} {gd : Str → Str → D}
    (o : OpR X f (fun x y H Q => ∃ i j, x = .str i ∧ y = .str j ∧ C i j ∧ Q (g i j) H)) (hg : ∀ i j K ι H, At K ι H (g i j) (gd i j)) :
    OpD X f (fun x y μ Q => ∃ i j, x = .str i ∧ y = .str j ∧ C i j ∧ Q (gd i j) μ) :=
  ⟨fun x y μ Q Q' h ⟨i, j, e1, e2, c, q⟩ => ⟨i, j, e1, e2, c, h _ _ q⟩, _, o, fun ι H μ x y dx dy Q r a b ⟨i, j, e1, e2, c, q⟩ => by
    subst e1; subst e2
    cases a; cases b
    exact ⟨i, j, rfl, rfl, c, q ι H _ (Gr.refl _ _) r (hg i j _ _ _)⟩⟩
theorem opd_ss0 {X : Cx} {f : Value → Value → Sem Value} {g : Str → Str → V} {gd : Str → Str → D}
    (o : OpR X f (fun x y H Q => ∃ i j, x = .str i ∧ y = .str j ∧ Q (g i j) H)) (hg : ∀ i j K ι H, At K ι H (g i j) (gd i j)) :
    OpD X f (fun x y μ Q => ∃ i j, x = .str i ∧ y = .str j ∧ Q (gd i j) μ) :=
  ⟨fun x y μ Q Q' h ⟨i, j, e1, e2, q⟩ => ⟨i, j, e1, e2, h _ _ q⟩, _, o, fun ι H μ x y dx dy Q r a b ⟨i, j, e1, e2, q⟩ => by
    subst e1; subst e2
    cases a; cases b
    exact ⟨i, j, rfl, rfl, q ι H _ (Gr.refl _ _) r (hg i j _ _ _)⟩⟩

section
variable {X : Cx}
/-- x + y -/
def addD : G2 := fun x y μ Q => match x, y with
  | .int i, .int j => Q (.int (i + j)) μ
  | .str s, .str t => s.length + t.length ≤ sizeLine ∧ Q (.str (s ++ t)) μ
  | .tup xs, .tup ys => xs.length + ys.length ≤ sizeLine ∧ Q (.tup (xs ++ ys)) μ
  | x, y => ∃ xs ys, asL μ x = some xs ∧ asL μ y = some ys ∧ gNewL (xs ++ ys) μ Q
theorem opd_catL : OpD X (binaryOp .Add) (fun x y μ Q => ∃ xs ys, asL μ x = some xs ∧ asL μ y = some ys ∧ gNewL (xs ++ ys) μ Q) :=
  ⟨fun x y μ Q Q' h ⟨xs, ys, e1, e2, q⟩ => ⟨xs, ys, e1, e2, gNewL_mono h q⟩, _, op_cat, fun ι H μ x y dx dy Q r a b ⟨xs, ys, e1, e2, q⟩ => by
    obtain ⟨p, vs, rfl, h1, r1⟩ := asL_at r a e1
    obtain ⟨p', vs', rfl, h2, r2⟩ := asL_at r b e2
    refine ⟨p, p', vs, vs', rfl, rfl, h1, h2, ?_, fun l hl => newL_ok r (r1.app r2) q l hl⟩
    have := q.1
    rw [List.length_append] at this
    rw [r1.1, r2.1]; exact this⟩
theorem opd_catT : OpD X (binaryOp .Add) (fun x y μ Q => ∃ xs ys, x = .tup xs ∧ y = .tup ys ∧ xs.length + ys.length ≤ sizeLine ∧ Q (.tup (xs ++ ys)) μ) :=
  ⟨fun x y μ Q Q' h ⟨xs, ys, e1, e2, c, q⟩ => ⟨xs, ys, e1, e2, c, h _ _ q⟩, _, op_catA, fun ι H μ x y dx dy Q r a b ⟨xs, ys, e1, e2, c, q⟩ => by
    subst e1; subst e2
    have t1 : ∃ p vs, x = .ref p ∧ SqT X.K H p vs ∧ Ats X.K ι H vs xs := by
      cases a with
      | tup h1 n l q => exact ⟨_, _, rfl, .inl h1, l, q⟩
      | ktup h1 l q => exact ⟨_, _, rfl, h1 H, l, q⟩
    have t2 : ∃ p vs, y = .ref p ∧ SqT X.K H p vs ∧ Ats X.K ι H vs ys := by
      cases b with
      | tup h1 n l q => exact ⟨_, _, rfl, .inl h1, l, q⟩
      | ktup h1 l q => exact ⟨_, _, rfl, h1 H, l, q⟩
    obtain ⟨p, vs, rfl, h1, r1⟩ := t1
    obtain ⟨p', vs', rfl, h2, r2⟩ := t2
    refine ⟨p, p', vs, vs', rfl, rfl, h1, h2, by rw [r1.1, r2.1]; exact c, fun e => ?_, fun _ e => ?_, fun _ _ l hl => ?_⟩
    · subst e
      have : xs = [] := List.length_eq_zero_iff.mp r1.1.symm
      subst this
      exact q ι H _ (Gr.refl _ _) r b
    · subst e
      have : ys = [] := List.length_eq_zero_iff.mp r2.1.symm
      subst this
      rw [List.append_nil] at q
      exact q ι H _ (Gr.refl _ _) r a
    · exact q ι _ _ (Gr.new hl (r.free hl)) (r.new hl) (.newT hl (r.free hl) (r1.app r2))⟩
theorem opd_add : OpD X (binaryOp .Add) addD :=
  OpD.imp (((opd_ii0 (gd := fun i j => .int (i + j)) op_add fun _ _ _ _ _ => .int _).or (opd_ss (gd := fun s t => .str (s ++ t)) op_add_str fun _ _ _ _ _ => .str _)).or (opd_catT.or opd_catL))
    (fun x y μ Q Q' h q => by
      unfold addD at q ⊢
      split at q
      · exact h _ _ q
      · exact ⟨q.1, h _ _ q.2⟩
      · exact ⟨q.1, h _ _ q.2⟩
      · obtain ⟨xs, ys, e1, e2, q⟩ := q; exact ⟨xs, ys, e1, e2, gNewL_mono h q⟩)
    (fun x y μ Q q => by
      unfold addD at q
      split at q
      · exact .inl (.inl ⟨_, _, rfl, rfl, q⟩)
      · exact .inl (.inr ⟨_, _, rfl, rfl, q⟩)
      · exact .inr (.inl ⟨_, _, rfl, rfl, q⟩)
      · exact .inr (.inr q))
def subD : G2 := fun x y μ Q => ∃ i j, x = .int i ∧ y = .int j ∧ Q (.int (i - j)) μ
theorem opd_sub : OpD X (binaryOp .Sub) subD := opd_ii0 (gd := fun i j => .int (i - j)) op_sub fun _ _ _ _ _ => .int _
def modD : G2 := fun x y μ Q => ∃ i j, x = .int i ∧ y = .int j ∧ 0 < j ∧ Q (.int (i % j)) μ
theorem opd_mod : OpD X (binaryOp .Mod) modD := opd_ii (gd := fun i j => .int (i % j)) op_mod fun _ _ _ _ _ => .int _
def fdivD : G2 := fun x y μ Q => ∃ i j, x = .int i ∧ y = .int j ∧ CDivW i j ∧ Q (.int (i / j)) μ
theorem opd_fdiv : OpD X (binaryOp .FloorDiv) fdivD := opd_ii (gd := fun i j => .int (i / j)) op_fdivW fun _ _ _ _ _ => .int _
def powD : G2 := fun x y μ Q => ∃ i j, x = .int i ∧ y = .int j ∧ CPow i j ∧ Q (.int (i ^ j.toNat)) μ
theorem opd_pow : OpD X (binaryOp .Pow) powD := opd_ii (gd := fun i j => .int (i ^ j.toNat)) op_pow fun _ _ _ _ _ => .int _
theorem Ats.rep {K : PySem.W.Frag} {ι : Io} {H : Hp} {vs : List V} {ds : List D} (r : Ats K ι H vs ds) : ∀ n : Nat, Ats K ι H (List.replicate n vs).flatten (List.replicate n ds).flatten
  | 0 => Ats.nil
  | n + 1 => by
    rw [List.replicate_succ, List.replicate_succ, List.flatten_cons, List.flatten_cons]
    exact r.app (r.rep n)
theorem opd_repL : OpD X (binaryOp .Mult) (fun x y μ Q => ∃ xs k, y = .int k ∧ asL μ x = some xs ∧ -(2 ^ 63) ≤ k ∧ k < 2 ^ 63 ∧ xs.length * k.toNat ≤ sizeLine ∧ gNewL (List.replicate k.toNat xs).flatten μ Q) :=
  ⟨fun x y μ Q Q' h ⟨xs, k, e1, e2, c1, c2, c3, q⟩ => ⟨xs, k, e1, e2, c1, c2, c3, gNewL_mono h q⟩, _, op_rep, fun ι H μ x y dx dy Q r a b ⟨xs, k, e1, e2, c1, c2, c3, q⟩ => by
    subst e1
    obtain ⟨p, vs, rfl, h1, r1⟩ := asL_at r a e2
    cases b
    exact ⟨p, k, vs, rfl, rfl, h1, c1, c2, by rw [r1.1]; exact c3, fun l hl => newL_ok r (r1.rep _) q l hl⟩⟩
/-! ### comparisons -/
def ltD : G2 := fun x y μ Q => match x, y with
  | .int i, .int j => Q (.bl (decide (i < j))) μ
  | .str s, .str t => Q (.bl (decide (s.cps.toList < t.cps.toList))) μ
  | _, _ => False
def leD : G2 := fun x y μ Q => match x, y with
  | .int i, .int j => Q (.bl (decide (i ≤ j))) μ
  | .str s, .str t => Q (.bl (!decide (t.cps.toList < s.cps.toList))) μ
  | _, _ => False
def gtD : G2 := fun x y μ Q => ∃ i j, x = .int i ∧ y = .int j ∧ Q (.bl (decide (j < i))) μ
def geD : G2 := fun x y μ Q => ∃ i j, x = .int i ∧ y = .int j ∧ Q (.bl (decide (j ≤ i))) μ
theorem opd_gt : OpD X (compareOp .Gt) gtD := opd_ii0 (gd := fun i j => .bl (decide (j < i))) op_gt fun _ _ _ _ _ => .bl _
theorem opd_lt : OpD X (compareOp .Lt) ltD :=
  OpD.imp ((opd_ii0 (gd := fun i j => .bl (decide (i < j))) op_lt fun _ _ _ _ _ => .bl _).or (opd_ss0 (gd := fun s t => .bl (decide (s.cps.toList < t.cps.toList))) op_lt_str fun _ _ _ _ _ => .bl _))
    (fun x y μ Q Q' h q => by unfold ltD at q ⊢; split at q <;> first | exact h _ _ q | exact q)
    (fun x y μ Q q => by
      unfold ltD at q
      split at q
      · exact .inl ⟨_, _, rfl, rfl, q⟩
      · exact .inr ⟨_, _, rfl, rfl, q⟩
      · exact q.elim)
theorem opd_le : OpD X (compareOp .LtE) leD :=
  OpD.imp ((opd_ii0 (gd := fun i j => .bl (decide (i ≤ j))) op_le fun _ _ _ _ _ => .bl _).or (opd_ss0 (gd := fun s t => .bl (!decide (t.cps.toList < s.cps.toList))) op_le_str fun _ _ _ _ _ => .bl _))
    (fun x y μ Q Q' h q => by unfold leD at q ⊢; split at q <;> first | exact h _ _ q | exact q)
    (fun x y μ Q q => by
      unfold leD at q
      split at q
      · exact .inl ⟨_, _, rfl, rfl, q⟩
      · exact .inr ⟨_, _, rfl, rfl, q⟩
      · exact q.elim)
end

/-! ### data without cells, instances and dicts as the library's data -/
mutual
def D.py : D → Option PyData
  | .non => some .none
  | .bl b => some (.bool b)
  | .int i => some (.int i)
  | .str s => some (.str s)
  | .lst ds => (pyAll ds).map .list
  | .tup ds => (pyAll ds).map .tuple
  | _ => none
def pyAll : List D → Option (List PyData)
  | [] => some []
  | d :: ds => match d.py, pyAll ds with | some p, some ps => some (p :: ps) | _, _ => none
end
def pyS (μ : Sto) : D → Option PyData
  | .cell n => match μ[n]? with | some (.lst ds) => (pyAll ds).map .list | _ => none
  | d => d.py
theorem pyAll_cons {d : D} {ds : List D} {ps : List PyData} (h : pyAll (d :: ds) = some ps) : ∃ p qs, d.py = some p ∧ pyAll ds = some qs ∧ ps = p :: qs := by
  unfold pyAll at h
  split at h
  · rename_i e1 e2
    exact ⟨_, _, e1, e2, (Option.some.inj h).symm⟩
  · cases h
section
variable {K : PySem.W.Frag} {ι : Io} {H : Hp} {μ : Sto}
mutual
theorem dp_of : ∀ {d : D} {v : V} {p : PyData}, At K ι H v d → d.py = some p → Dp K H v p
  | .non, _, _, a, h => by cases a; unfold D.py at h; cases Option.some.inj h; exact .non
  | .bl b, _, _, a, h => by cases a; unfold D.py at h; cases Option.some.inj h; exact .bl b
  | .int i, _, _, a, h => by cases a; unfold D.py at h; cases Option.some.inj h; exact .int i
  | .str s, _, _, a, h => by cases a; unfold D.py at h; cases Option.some.inj h; exact .str s
  | .lst ds, _, _, a, h => by
    unfold D.py at h
    obtain ⟨ps, e, rfl⟩ := Option.map_eq_some_iff.mp h
    cases a with
    | lst h1 n l q => exact .lst (SqL.of h1) (dpAll_of ⟨l, q⟩ e)
  | .tup ds, _, _, a, h => by
    unfold D.py at h
    obtain ⟨ps, e, rfl⟩ := Option.map_eq_some_iff.mp h
    cases a with
    | tup h1 n l q => exact .tup (.inl h1) (dpAll_of ⟨l, q⟩ e)
    | ktup h1 l q => exact .tup (h1 H) (dpAll_of ⟨l, q⟩ e)
  | .dct _, _, _, _, h => by unfold D.py at h; cases h
  | .ins _ _, _, _, _, h => by unfold D.py at h; cases h
  | .cell _, _, _, _, h => by unfold D.py at h; cases h
  | .ref _, _, _, _, h => by unfold D.py at h; cases h
  | .fzl _, _, _, _, h => by unfold D.py at h; cases h
  | .ty _, _, _, _, h => by unfold D.py at h; cases h
theorem dpAll_of : ∀ {ds : List D} {vs : List V} {ps : List PyData}, Ats K ι H vs ds → pyAll ds = some ps → DpAll K H vs ps
  | [], vs, ps, a, h => by
    unfold pyAll at h
    cases Option.some.inj h
    cases Ats.unnil a
    exact .nil
  | d :: ds, vs, ps, a, h => by
    obtain ⟨p, qs, e1, e2, rfl⟩ := pyAll_cons h
    obtain ⟨v, vs', rfl, a1, a2⟩ := a.uncons
    exact .cons (dp_of a1 e1) (dpAll_of a2 e2)
end
theorem dpS_of {d : D} {v : V} {p : PyData} (r : Rep K ι μ H) (a : At K ι H v d) (h : pyS μ d = some p) : Dp K H v p := by
  cases d with
  | cell n =>
    cases a with
    | cell hn =>
      simp only [pyS] at h
      split at h
      · rename_i e
        obtain ⟨ps, e2, rfl⟩ := Option.map_eq_some_iff.mp h
        obtain ⟨vs, h1, h2⟩ := r.at_ n _ _ hn e
        exact .lst (SqL.of h1) (dpAll_of h2 e2)
      · cases h
  | _ => exact dp_of a h
end
section
variable {X : Cx}
theorem opd_eqP (hu : X.A.units + 64 < cLine) : OpD X (compareOp .Eq) (fun x y μ Q => ∃ p q, pyS μ x = some p ∧ pyS μ y = some q ∧ SeqAt.shaped p = true ∧ SeqAt.shaped q = true ∧ Q (.bl (PyData.eqv p q)) μ) :=
  ⟨fun x y μ Q Q' h ⟨p, q, e1, e2, c1, c2, z⟩ => ⟨p, q, e1, e2, c1, c2, h _ _ z⟩, _, op_eqD hu, fun ι H μ x y dx dy Q r a b ⟨p, q, e1, e2, c1, c2, z⟩ =>
    ⟨p, q, dpS_of r a e1, dpS_of r b e2, c1, c2, z ι H _ (Gr.refl _ _) r (.bl _)⟩⟩
theorem opd_neP (hu : X.A.units + 64 < cLine) : OpD X (compareOp .NotEq) (fun x y μ Q => ∃ p q, pyS μ x = some p ∧ pyS μ y = some q ∧ SeqAt.shaped p = true ∧ SeqAt.shaped q = true ∧ Q (.bl (!PyData.eqv p q)) μ) :=
  ⟨fun x y μ Q Q' h ⟨p, q, e1, e2, c1, c2, z⟩ => ⟨p, q, e1, e2, c1, c2, h _ _ z⟩, _, op_neD hu, fun ι H μ x y dx dy Q r a b ⟨p, q, e1, e2, c1, c2, z⟩ =>
    ⟨p, q, dpS_of r a e1, dpS_of r b e2, c1, c2, z ι H _ (Gr.refl _ _) r (.bl _)⟩⟩
theorem opd_eqs : OpD X (compareOp .Eq) (fun x y μ Q => (∃ i j, x = .int i ∧ y = .int j ∧ Q (.bl (decide (i = j))) μ) ∨ (∃ i j, x = .str i ∧ y = .str j ∧ Q (.bl (decide (i = j))) μ) ∨ (∃ i j, x = .bl i ∧ y = .bl j ∧ Q (.bl (decide (i = j))) μ)) :=
  ⟨fun x y μ Q Q' h q => q.imp (fun ⟨i, j, e1, e2, q⟩ => ⟨i, j, e1, e2, h _ _ q⟩) (fun q => q.imp (fun ⟨i, j, e1, e2, q⟩ => ⟨i, j, e1, e2, h _ _ q⟩) fun ⟨i, j, e1, e2, q⟩ => ⟨i, j, e1, e2, h _ _ q⟩), _, op_eq,
    fun ι H μ x y dx dy Q r a b q => by
      rcases q with ⟨i, j, rfl, rfl, q⟩ | ⟨i, j, rfl, rfl, q⟩ | ⟨i, j, rfl, rfl, q⟩ <;> cases a <;> cases b
      · exact ⟨rfl, by have z := q ι H _ (Gr.refl _ _) r (.bl _); rwa [show decide (V.int i = V.int j) = decide (i = j) from decide_eq_decide.mpr ⟨fun e => V.int.inj e, fun e => by rw [e]⟩]⟩
      · exact ⟨rfl, by have z := q ι H _ (Gr.refl _ _) r (.bl _); rwa [show decide (V.str i = V.str j) = decide (i = j) from decide_eq_decide.mpr ⟨fun e => V.str.inj e, fun e => by rw [e]⟩]⟩
      · exact ⟨rfl, by have z := q ι H _ (Gr.refl _ _) r (.bl _); rwa [show decide (V.bl i = V.bl j) = decide (i = j) from decide_eq_decide.mpr ⟨fun e => V.bl.inj e, fun e => by rw [e]⟩]⟩⟩
theorem opd_nes : OpD X (compareOp .NotEq) (fun x y μ Q => (∃ i j, x = .int i ∧ y = .int j ∧ Q (.bl (!decide (i = j))) μ) ∨ (∃ i j, x = .str i ∧ y = .str j ∧ Q (.bl (!decide (i = j))) μ) ∨ (∃ i j, x = .bl i ∧ y = .bl j ∧ Q (.bl (!decide (i = j))) μ)) :=
  ⟨fun x y μ Q Q' h q => q.imp (fun ⟨i, j, e1, e2, q⟩ => ⟨i, j, e1, e2, h _ _ q⟩) (fun q => q.imp (fun ⟨i, j, e1, e2, q⟩ => ⟨i, j, e1, e2, h _ _ q⟩) fun ⟨i, j, e1, e2, q⟩ => ⟨i, j, e1, e2, h _ _ q⟩), _, op_ne,
    fun ι H μ x y dx dy Q r a b q => by
      rcases q with ⟨i, j, rfl, rfl, q⟩ | ⟨i, j, rfl, rfl, q⟩ | ⟨i, j, rfl, rfl, q⟩ <;> cases a <;> cases b
      · exact ⟨rfl, by have z := q ι H _ (Gr.refl _ _) r (.bl _); rwa [show decide (V.int i = V.int j) = decide (i = j) from decide_eq_decide.mpr ⟨fun e => V.int.inj e, fun e => by rw [e]⟩]⟩
      · exact ⟨rfl, by have z := q ι H _ (Gr.refl _ _) r (.bl _); rwa [show decide (V.str i = V.str j) = decide (i = j) from decide_eq_decide.mpr ⟨fun e => V.str.inj e, fun e => by rw [e]⟩]⟩
      · exact ⟨rfl, by have z := q ι H _ (Gr.refl _ _) r (.bl _); rwa [show decide (V.bl i = V.bl j) = decide (i = j) from decide_eq_decide.mpr ⟨fun e => V.bl.inj e, fun e => by rw [e]⟩]⟩⟩
end
end Dl

namespace Dl
open PySem PySem.Spec L2
open PyProof.Rows hiding St Binds

/-! ### cells below n alone -/
mutual
def D.bd (n : Nat) : D → Bool
  | .lst ds => bdL n ds
  | .tup ds => bdL n ds
  | .dct kd => bdK n kd
  | .ins _ fd => bdF n fd
  | .cell m => decide (m < n)
  | .fzl ds => bdL n ds
  | _ => true
def bdL (n : Nat) : List D → Bool
  | [] => true
  | d :: ds => d.bd n && bdL n ds
def bdK (n : Nat) : List (Key × D) → Bool
  | [] => true
  | (_, d) :: ds => d.bd n && bdK n ds
def bdF (n : Nat) : List (Str × D) → Bool
  | [] => true
  | (_, d) :: ds => d.bd n && bdF n ds
end
def CT.bd (n : Nat) : CT → Bool
  | .lst ds => bdL n ds
  | .dct kd => bdK n kd
  | .lck _ _ kd => bdK n kd
  | .ins _ fd => bdF n fd
def bdS (n : Nat) (μ : Sto) : Bool := μ.all (CT.bd n)
section
variable {n : Nat}
theorem bdL_get : ∀ {ds : List D} {i : Nat} {d : D}, bdL n ds = true → ds[i]? = some d → d.bd n = true
  | [], _, _, _, h => by simp at h
  | d :: ds, 0, e, b, h => by simp at h; subst h; unfold bdL at b; exact (Bool.and_eq_true_iff.mp b).1
  | d :: ds, i + 1, e, b, h => by unfold bdL at b; exact bdL_get (i := i) (Bool.and_eq_true_iff.mp b).2 (by simpa using h)
theorem bdK_get : ∀ {ds : List (Key × D)} {i : Nat} {p : Key × D}, bdK n ds = true → ds[i]? = some p → p.2.bd n = true
  | [], _, _, _, h => by simp at h
  | (k, d) :: ds, 0, e, b, h => by simp at h; subst h; unfold bdK at b; exact (Bool.and_eq_true_iff.mp b).1
  | (k, d) :: ds, i + 1, e, b, h => by unfold bdK at b; exact bdK_get (i := i) (Bool.and_eq_true_iff.mp b).2 (by simpa using h)
theorem bdF_get : ∀ {ds : List (Str × D)} {i : Nat} {p : Str × D}, bdF n ds = true → ds[i]? = some p → p.2.bd n = true
  | [], _, _, _, h => by simp at h
  | (k, d) :: ds, 0, e, b, h => by simp at h; subst h; unfold bdF at b; exact (Bool.and_eq_true_iff.mp b).1
  | (k, d) :: ds, i + 1, e, b, h => by unfold bdF at b; exact bdF_get (i := i) (Bool.and_eq_true_iff.mp b).2 (by simpa using h)
end
section
variable {K : PySem.W.Frag} {ι ext : Io} {H H' : Hp} {μ : Sto} {v : V} {d : D}
theorem At.trunc (a : At K (ι ++ ext) H v d) (b : d.bd ι.length = true) : At K ι H v d := by
  have nn : ∀ {x : Addr}, x ∉ ι ++ ext → x ∉ ι := fun h z => h (List.mem_append_left _ z)
  induction a with
  | non => exact .non
  | bl c => exact .bl c
  | int i => exact .int i
  | str s => exact .str s
  | lst h n l _ ih => unfold D.bd at b; exact .lst h (nn n) l fun i v d e1 e2 => ih i v d e1 e2 (bdL_get b e2)
  | tup h n l _ ih => unfold D.bd at b; exact .tup h (nn n) l fun i v d e1 e2 => ih i v d e1 e2 (bdL_get b e2)
  | ktup h l _ ih => unfold D.bd at b; exact .ktup h l fun i v d e1 e2 => ih i v d e1 e2 (bdL_get b e2)
  | dct h n l _ ih => unfold D.bd at b; exact .dct h (nn n) l fun i p q e1 e2 => ih i p q e1 e2 (bdK_get b e2)
  | ins h n l _ ih => unfold D.bd at b; exact .ins h (nn n) l fun i p q e1 e2 => ih i p q e1 e2 (bdF_get b e2)
  | @cell a n h =>
    unfold D.bd at b
    have hn : n < ι.length := of_decide_eq_true b
    exact .cell (by rw [List.getElem?_append_left hn] at h; exact h)
  | ref a => exact .ref a
  | ty n => exact .ty n
  | fzl h l _ ih => unfold D.bd at b; exact .fzl (h.imp (fun ⟨o, e, n⟩ => ⟨o, e, nn n⟩) id) l fun i v d e1 e2 => ih i v d e1 e2 (bdL_get b e2)
theorem CAt.trunc {a : Addr} {c : CT} (h : CAt K (ι ++ ext) H a c) (b : c.bd ι.length = true) : CAt K ι H a c := by
  cases c with
  | lst ds => obtain ⟨vs, h1, h2⟩ := h; exact ⟨vs, h1, h2.1, fun i v d e1 e2 => (h2.2 i v d e1 e2).trunc (bdL_get b e2)⟩
  | dct kd => obtain ⟨vs, h1, h2⟩ := h; exact ⟨vs, h1, h2.1, fun i v d e1 e2 => (h2.2 i v d e1 e2).trunc (bdK_get b e2)⟩
  | lck ob kv kd => exact ⟨h.1, h.2.1, fun i v d e1 e2 => (h.2.2 i v d e1 e2).trunc (bdK_get b e2)⟩
  | ins C fd => obtain ⟨dx, vs, h1, h2⟩ := h; exact ⟨dx, vs, h1, h2.1, fun i v d e1 e2 => (h2.2 i v d e1 e2).trunc (bdF_get b e2)⟩
theorem Rep.trunc {μx : Sto} (r : Rep K (ι ++ ext) (μ ++ μx) H) (l : ι.length = μ.length) (b : bdS μ.length μ = true) : Rep K ι μ H := by
  refine ⟨l, (List.nodup_append.mp r.nd).1, fun n a c e1 e2 => ?_⟩
  have h1 : (ι ++ ext)[n]? = some a := by rw [List.getElem?_append_left (List.getElem?_eq_some_iff.mp e1).1]; exact e1
  have h2 : (μ ++ μx)[n]? = some c := by rw [List.getElem?_append_left (List.getElem?_eq_some_iff.mp e2).1]; exact e2
  refine (r.at_ n a c h1 h2).trunc ?_
  rw [l]
  exact List.all_eq_true.mp b c (List.mem_of_getElem? e2)
theorem Gr.trunc {ι0 : Io} {H0 : Hp} (g : Gr ι0 H0 (ι ++ ext) H) (l : ι0.length ≤ ι.length) : Gr ι0 H0 ι H :=
  ⟨fun n a e => by
    have h := g.pre n a e
    rwa [List.getElem?_append_left (Nat.lt_of_lt_of_le (List.getElem?_eq_some_iff.mp e).1 l)] at h, fun a o e n => ⟨(g.keep a o e n).1, fun z => (g.keep a o e n).2 (List.mem_append_left _ z)⟩⟩
end
theorem Gr.len_le {ι ι' : Io} {H H' : Hp} (g : Gr ι H ι' H') : ι.length ≤ ι'.length := by
  cases e : ι.length with
  | zero => exact Nat.zero_le _
  | succ n =>
    have hn : n < ι.length := by omega
    have h2 := g.pre n _ (List.getElem?_eq_getElem hn)
    have := (List.getElem?_eq_some_iff.mp h2).1
    omega
/-- what stands in the cells from n on, put in their place -/
inductive Res (n : Nat) (μ : Sto) : D → D → Prop
  | low {d : D} (b : d.bd n = true) : Res n μ d d
  | lst {k : Nat} {ds ds' : List D} (hk : n ≤ k) (h : μ[k]? = some (.lst ds)) (l : ds.length = ds'.length) (r : ∀ (i : Nat) (d d' : D), ds[i]? = some d → ds'[i]? = some d' → Res n μ d d') : Res n μ (.cell k) (.lst ds')
  | dct {k : Nat} {kd kd' : List (Key × D)} (hk : n ≤ k) (h : μ[k]? = some (.dct kd)) (l : kd.map (·.1) = kd'.map (·.1)) (r : ∀ (i : Nat) (p q : Key × D), kd[i]? = some p → kd'[i]? = some q → Res n μ p.2 q.2) : Res n μ (.cell k) (.dct kd')
  | lstD {ds ds' : List D} (l : ds.length = ds'.length) (r : ∀ (i : Nat) (d d' : D), ds[i]? = some d → ds'[i]? = some d' → Res n μ d d') : Res n μ (.lst ds) (.lst ds')
theorem Res.sound {K : PySem.W.Frag} {n : Nat} {μ : Sto} {d d' : D} (z : Res n μ d d') : ∀ {ι ext : Io} {H : Hp} {v : V}, ι.length = n → Rep K (ι ++ ext) μ H → At K (ι ++ ext) H v d → At K ι H v d' := by
  induction z with
  | low b => intro ι ext H v h0 _ a; exact a.trunc (by rw [h0]; exact b)
  | @lst k ds ds' hk h l _ ih =>
    intro ι ext H v h0 r a
    cases a with
    | @cell p _ hc =>
      obtain ⟨vs, e1, e2⟩ := r.at_ _ _ _ hc h
      have nin : p ∉ ι := fun z => by
        rw [List.getElem?_append_right (by omega)] at hc
        exact (List.nodup_append.mp r.nd).2.2 p z p (List.mem_of_getElem? hc) rfl
      refine .lst e1 nin (by rw [e2.1, l]) fun i v d q1 q2 => ?_
      have hi : i < ds.length := by rw [← e2.1]; exact (List.getElem?_eq_some_iff.mp q1).1
      exact ih i _ _ (List.getElem?_eq_getElem hi) q2 h0 r (e2.2 i v _ q1 (List.getElem?_eq_getElem hi))
  | @dct k kd kd' hk h l _ ih =>
    intro ι ext H v h0 r a
    cases a with
    | @cell p _ hc =>
      obtain ⟨kv, e1, e2⟩ := r.at_ _ _ _ hc h
      have nin : p ∉ ι := fun z => by
        rw [List.getElem?_append_right (by omega)] at hc
        exact (List.nodup_append.mp r.nd).2.2 p z p (List.mem_of_getElem? hc) rfl
      refine .dct (.inl e1) nin (e2.1.trans l) fun i p q q1 q2 => ?_
      have hi : i < kd.length := by
        have h1 := (List.getElem?_eq_some_iff.mp q1).1
        have h2 := congrArg List.length e2.1
        rw [List.length_map, List.length_map] at h2
        omega
      exact ih i _ _ (List.getElem?_eq_getElem hi) q2 h0 r (e2.2 i p _ q1 (List.getElem?_eq_getElem hi))
  | @lstD ds ds' l _ ih =>
    intro ι ext H v h0 r a
    cases a with
    | lst h n l1 q =>
      refine .lst h (fun z => n (List.mem_append_left _ z)) (l1.trans l) fun i v d q1 q2 => ?_
      have hi : i < ds.length := by rw [← l1]; exact (List.getElem?_eq_some_iff.mp q1).1
      exact ih i _ _ (List.getElem?_eq_getElem hi) q2 h0 r (q i v _ q1 (List.getElem?_eq_getElem hi))
/-- (d, μ) may be given out as (d', μ'): the newest cells are forgotten, or become data; n cells stand before -/
inductive Fz (n : Nat) : D → Sto → D → Sto → Prop
  | refl {d μ} : Fz n d μ d μ
  | drop {d μ μx d' μ'} (l : n ≤ μ.length) (b : d.bd μ.length = true) (bs : bdS μ.length μ = true) (r : Fz n d μ d' μ') : Fz n d (μ ++ μx) d' μ'
  | lst {ds μ d' μ'} (l : n ≤ μ.length) (b : bdL μ.length ds = true) (bs : bdS μ.length μ = true) (r : Fz n (.lst ds) μ d' μ') : Fz n (.cell μ.length) (μ ++ [.lst ds]) d' μ'
  | dct {kd μ d' μ'} (l : n ≤ μ.length) (b : bdK μ.length kd = true) (bs : bdS μ.length μ = true) (r : Fz n (.dct kd) μ d' μ') : Fz n (.cell μ.length) (μ ++ [.dct kd]) d' μ'
  | ins {C fd μ d' μ'} (l : n ≤ μ.length) (b : bdF μ.length fd = true) (bs : bdS μ.length μ = true) (r : Fz n (.ins C fd) μ d' μ') : Fz n (.cell μ.length) (μ ++ [.ins C fd]) d' μ'
  | tup2 {k1 k2 μ d' μ'} (l : n ≤ μ.length) (b1 : bdK μ.length k1 = true) (b2 : bdK μ.length k2 = true) (bs : bdS μ.length μ = true) (r : Fz n (.tup [.dct k1, .dct k2]) μ d' μ') : Fz n (.tup [.cell μ.length, .cell (μ.length + 1)]) (μ ++ [.dct k1, .dct k2]) d' μ'
  | res {d e μ μx d' μ'} (l : n ≤ μ.length) (b : Res μ.length (μ ++ μx) d e) (bs : bdS μ.length μ = true) (r : Fz n e μ d' μ') : Fz n d (μ ++ μx) d' μ'
theorem split_io {K : PySem.W.Frag} {ι : Io} {H : Hp} {μ μx : Sto} (r : Rep K ι (μ ++ μx) H) : ∃ ι0 ext, ι = ι0 ++ ext ∧ ι0.length = μ.length ∧ ext.length = μx.length := by
  have h := r.len
  rw [List.length_append] at h
  exact ⟨ι.take μ.length, ι.drop μ.length, (List.take_append_drop _ _).symm, by rw [List.length_take]; omega, by rw [List.length_drop]; omega⟩
theorem Fz.sound {K : PySem.W.Frag} {n : Nat} {d d' : D} {μ μ' : Sto} (z : Fz n d μ d' μ') : ∀ {ι0 : Io} {H0 : Hp} {ι : Io} {H : Hp} {v : V}, ι0.length = n → Rep K ι μ H → At K ι H v d → Gr ι0 H0 ι H →
    ∃ ι', Rep K ι' μ' H ∧ At K ι' H v d' ∧ Gr ι0 H0 ι' H := by
  induction z with
  | refl => intro ι0 H0 ι H v _ r a g; exact ⟨ι, r, a, g⟩
  | res l b bs _ ih =>
    intro ι0 H0 ι H v h0 r a g
    obtain ⟨ι1, ext, rfl, l1, _⟩ := split_io r
    exact ih h0 (r.trunc l1 bs) (b.sound l1 r a) (g.trunc (by rw [h0, l1]; exact l))
  | drop l b bs _ ih =>
    intro ι0 H0 ι H v h0 r a g
    obtain ⟨ι1, ext, rfl, l1, _⟩ := split_io r
    exact ih h0 (r.trunc l1 bs) (a.trunc (by rw [l1]; exact b)) (g.trunc (by rw [h0, l1]; exact l))
  | @lst ds μ d' μ' l b bs _ ih =>
    intro ι0 H0 ι H v h0 r a g
    obtain ⟨ι1, ext, rfl, l1, l2⟩ := split_io r
    obtain ⟨p, rfl⟩ : ∃ p, ext = [p] := List.length_eq_one_iff.mp l2
    have hp : (ι1 ++ [p])[μ.length]? = some p := by rw [List.getElem?_append_right (by rw [l1]; exact Nat.le_refl _), l1, Nat.sub_self]; rfl
    cases a with
    | cell hc =>
      rw [hp] at hc; cases hc
      obtain ⟨vs, e1, e2⟩ := r.at_ _ _ (.lst ds) hp (by rw [List.getElem?_append_right (Nat.le_refl _), Nat.sub_self]; rfl)
      have nin : p ∉ ι1 := fun z => (List.nodup_append.mp r.nd).2.2 p z p (by simp) rfl
      exact ih h0 (r.trunc l1 bs) (.lst e1 nin e2.1 fun i v d q1 q2 => (e2.2 i v d q1 q2).trunc (by rw [l1]; exact bdL_get b q2)) (g.trunc (by rw [h0, l1]; exact l))
  | @dct ds μ d' μ' l b bs _ ih =>
    intro ι0 H0 ι H v h0 r a g
    obtain ⟨ι1, ext, rfl, l1, l2⟩ := split_io r
    obtain ⟨p, rfl⟩ : ∃ p, ext = [p] := List.length_eq_one_iff.mp l2
    have hp : (ι1 ++ [p])[μ.length]? = some p := by rw [List.getElem?_append_right (by rw [l1]; exact Nat.le_refl _), l1, Nat.sub_self]; rfl
    cases a with
    | cell hc =>
      rw [hp] at hc; cases hc
      obtain ⟨vs, e1, e2⟩ := r.at_ _ _ (.dct ds) hp (by rw [List.getElem?_append_right (Nat.le_refl _), Nat.sub_self]; rfl)
      have nin : p ∉ ι1 := fun z => (List.nodup_append.mp r.nd).2.2 p z p (by simp) rfl
      exact ih h0 (r.trunc l1 bs) (.dct (.inl e1) nin e2.1 fun i v d q1 q2 => (e2.2 i v d q1 q2).trunc (by rw [l1]; exact bdK_get b q2)) (g.trunc (by rw [h0, l1]; exact l))
  | @ins C ds μ d' μ' l b bs _ ih =>
    intro ι0 H0 ι H v h0 r a g
    obtain ⟨ι1, ext, rfl, l1, l2⟩ := split_io r
    obtain ⟨p, rfl⟩ : ∃ p, ext = [p] := List.length_eq_one_iff.mp l2
    have hp : (ι1 ++ [p])[μ.length]? = some p := by rw [List.getElem?_append_right (by rw [l1]; exact Nat.le_refl _), l1, Nat.sub_self]; rfl
    cases a with
    | cell hc =>
      rw [hp] at hc; cases hc
      obtain ⟨dx, vs, e1, e2⟩ := r.at_ _ _ (.ins C ds) hp (by rw [List.getElem?_append_right (Nat.le_refl _), Nat.sub_self]; rfl)
      have nin : p ∉ ι1 := fun z => (List.nodup_append.mp r.nd).2.2 p z p (by simp) rfl
      exact ih h0 (r.trunc l1 bs) (.ins e1 nin e2.1 fun i v d q1 q2 => (e2.2 i v d q1 q2).trunc (by rw [l1]; exact bdF_get b q2)) (g.trunc (by rw [h0, l1]; exact l))
  | @tup2 k1 k2 μ d' μ' l b1 b2 bs _ ih =>
    intro ι0 H0 ι H v h0 r a g
    obtain ⟨ι1, ext, rfl, l1, l2⟩ := split_io r
    obtain ⟨p, q, rfl⟩ : ∃ p q, ext = [p, q] := match ext, l2 with | [p, q], _ => ⟨p, q, rfl⟩
    have hp : (ι1 ++ [p, q])[μ.length]? = some p := by rw [List.getElem?_append_right (by rw [l1]; exact Nat.le_refl _), l1, Nat.sub_self]; rfl
    have hq : (ι1 ++ [p, q])[μ.length + 1]? = some q := by rw [List.getElem?_append_right (by omega), l1, show μ.length + 1 - μ.length = 1 by omega]; rfl
    obtain ⟨v1, e1, a1⟩ := r.at_ _ _ (.dct k1) hp (by rw [List.getElem?_append_right (Nat.le_refl _), Nat.sub_self]; rfl)
    obtain ⟨v2, e2, a2⟩ := r.at_ _ _ (.dct k2) hq (by rw [List.getElem?_append_right (by omega), show μ.length + 1 - μ.length = 1 by omega]; rfl)
    have np : p ∉ ι1 := fun z => (List.nodup_append.mp r.nd).2.2 p z p (by simp) rfl
    have nq : q ∉ ι1 := fun z => (List.nodup_append.mp r.nd).2.2 q z q (by simp) rfl
    have d1 : At K ι1 H (.ref p) (.dct k1) := .dct (.inl e1) np a1.1 fun i v d q1 q2 => (a1.2 i v d q1 q2).trunc (by rw [l1]; exact bdK_get b1 q2)
    have d2 : At K ι1 H (.ref q) (.dct k2) := .dct (.inl e2) nq a2.1 fun i v d q1 q2 => (a2.2 i v d q1 q2).trunc (by rw [l1]; exact bdK_get b2 q2)
    have parts : ∀ {vs : List V}, (∀ (i : Nat) (v : V) (d : D), vs[i]? = some v → [D.cell μ.length, .cell (μ.length + 1)][i]? = some d → At K (ι1 ++ [p, q]) H v d) → ∀ (i : Nat) (v : V) (d : D), vs[i]? = some v → [D.dct k1, .dct k2][i]? = some d → At K ι1 H v d := by
      intro vs hr i v d q1 q2
      match i, q2 with
      | 0, q2 =>
        cases Option.some.inj q2
        cases hr 0 v _ q1 rfl with
        | cell hc => rw [hp] at hc; cases hc; exact d1
      | 1, q2 =>
        cases Option.some.inj q2
        cases hr 1 v _ q1 rfl with
        | cell hc => rw [hq] at hc; cases hc; exact d2
    have g' := g.trunc (by rw [h0, l1]; exact l)
    cases a with
    | tup h n lv hr => exact ih h0 (r.trunc l1 bs) (.tup h (fun z => n (List.mem_append_left _ z)) lv (parts hr)) g'
    | ktup h lv hr => exact ih h0 (r.trunc l1 bs) (.ktup h lv (parts hr)) g'

/-! ### promises over data -/
abbrev XD := Value → List (Str × D) → Sto → Prop
abbrev FD := List D → Sto → QD → XD → Prop
def MonF (F : FD) : Prop := ∀ ds μ (Q Q' : QD) (E E' : XD), (∀ d m, Q d m → Q' d m) → (∀ c l m, E c l m → E' c l m) → F ds μ Q E → F ds μ Q' E'
def spD (K : PySem.W.Frag) (F : FD) : Sp := fun vs H Q E => ∃ ι μ ds, Rep K ι μ H ∧ Ats K ι H vs ds ∧ F ds μ (QV K ι H Q) (XV K ι H E)
/-- a def under a name -/
structure Cal (P : Program) (w : World) (K : PySem.W.Frag) (mg : Str → Option Value) (base : Heap) (k : Nat) (x : Str) (F : FD) (dds : List D) : Prop where
  mono : MonF F
  ex : ∃ (f : Addr) (fd : FuncData) (ps : List Str) (dvs : List V) (ds : List Value), FnG P w K mg base (L2.CX P w) k f fd ps (spD K F) ∧ mg x = some (.ref f) ∧ PySem.W.keepIn K (.ref f) = true ∧
    L2.Binds K fd ps ds ∧ Vals dvs ds ∧ ∀ ι H, Ats K ι H dvs dds
/-- a class with its __init__ -/
structure Mak (P : Program) (w : World) (K : PySem.W.Frag) (mg : Str → Option Value) (base : Heap) (k : Nat) (x : Str) (C : Addr) (F : FD) (dds : List D) : Prop where
  mono : MonF F
  ex : ∃ (f : Addr) (fd : FuncData) (ps : List Str) (dvs : List V) (ds : List Value), FnG P w K mg base (L2.CX P w) k f fd ps (spD K F) ∧ mg x = some (.ref C) ∧ Mk K C f ∧
    L2.Binds K fd ps ds ∧ Vals dvs ds ∧ ∀ ι H, Ats K ι H dvs dds
/-- a method -/
structure Met (P : Program) (w : World) (K : PySem.W.Frag) (mg : Str → Option Value) (base : Heap) (k : Nat) (C : Addr) (m : Str) (F : FD) (dds : List D) : Prop where
  mono : MonF F
  cls : Cls K C
  ex : ∃ (f : Addr) (fd : FuncData) (ps : List Str) (dvs : List V) (ds : List Value), FnG P w K mg base (L2.CX P w) k f fd ps (spD K F) ∧ Meth K C m f ∧
    L2.Binds K fd ps ds ∧ Vals dvs ds ∧ ∀ ι H, Ats K ι H dvs dds
abbrev CalX (X : Cx) := Cal X.prog X.w X.K X.mg X.base
abbrev MakX (X : Cx) := Mak X.prog X.w X.K X.mg X.base
abbrev MetX (X : Cx) := Met X.prog X.w X.K X.mg X.base

def asI (μ : Sto) : D → Option (Addr × List (Str × D))
  | .ins C fd => some (C, fd)
  | .cell n => match μ[n]? with | some (.ins C fd) => some (C, fd) | _ => none
  | _ => none
theorem asI_at {K : PySem.W.Frag} {ι : Io} {H : Hp} {μ : Sto} {v : V} {d : D} {C : Addr} {fd : List (Str × D)} (r : Rep K ι μ H) (a : At K ι H v d) (h : asI μ d = some (C, fd)) :
    ∃ p dx fv, v = .ref p ∧ H p = some (.ins C dx fv) ∧ Pts K ι H fv fd := by
  cases a with
  | ins h1 n l q => cases Option.some.inj h; exact ⟨_, _, _, rfl, h1, l, q⟩
  | @cell p n hn =>
    simp only [asI] at h
    split at h
    · rename_i e
      cases Option.some.inj h
      obtain ⟨dx, fv, h1, h2⟩ := r.at_ n p _ hn e
      exact ⟨p, dx, fv, rfl, h1, h2⟩
    · cases h
  | _ => cases h
theorem lookup_keys {β γ : Type} : ∀ {l : List (Str × β)} {m : List (Str × γ)} {f : Str}, l.map (·.1) = m.map (·.1) → (l.lookup f).isSome = (m.lookup f).isSome
  | [], [], _, _ => rfl
  | [], _ :: _, _, h => by simp at h
  | _ :: _, [], _, h => by simp at h
  | (k, b) :: l, (k', c) :: m, f, h => by
    simp only [List.map_cons, List.cons.injEq] at h
    obtain ⟨h1, h2⟩ := h
    have h1 : k = k' := h1
    subst h1
    rw [List.lookup_cons, List.lookup_cons]
    cases e : f == k with
    | true => rfl
    | false => exact lookup_keys h2
theorem Pts.none {K : PySem.W.Frag} {ι : Io} {H : Hp} {fv : List (Str × V)} {fd : List (Str × D)} (p : Pts K ι H fv fd) {f : Str} (h : fd.lookup f = none) : fv.lookup f = none := by
  have q := lookup_keys (f := f) p.1
  rw [h] at q
  cases e : fv.lookup f with
  | none => rfl
  | some _ => rw [e] at q; simp at q
theorem Pts.uncons {κ : Type} {K : PySem.W.Frag} {ι : Io} {H : Hp} {k : κ} {d : D} {fv : List (κ × V)} {fd : List (κ × D)} (p : Pts K ι H fv ((k, d) :: fd)) : ∃ v fv', fv = (k, v) :: fv' ∧ At K ι H v d ∧ Pts K ι H fv' fd := by
  cases fv with
  | nil => have := p.1; simp at this
  | cons x fv' =>
    obtain ⟨k', v⟩ := x
    have h := p.1
    simp only [List.map_cons, List.cons.injEq] at h
    obtain ⟨h1, h2⟩ := h
    have h1 : k' = k := h1
    subst h1
    exact ⟨v, fv', rfl, p.2 0 _ _ rfl rfl, h2, fun i p' q e1 e2 => p.2 (i + 1) p' q e1 e2⟩
theorem Pts.nil {κ : Type} {K : PySem.W.Frag} {ι : Io} {H : Hp} : Pts (κ := κ) K ι H [] [] := ⟨rfl, fun i p q h _ => by simp at h⟩
theorem Pts.cons {κ : Type} {K : PySem.W.Frag} {ι : Io} {H : Hp} {k : κ} {v : V} {d : D} {fv : List (κ × V)} {fd : List (κ × D)} (a : At K ι H v d) (p : Pts K ι H fv fd) : Pts K ι H ((k, v) :: fv) ((k, d) :: fd) := by
  refine ⟨by simp [p.1], fun i x y h1 h2 => ?_⟩
  cases i with
  | zero => cases Option.some.inj h1; cases Option.some.inj h2; exact a
  | succ i => exact p.2 i x y h1 h2
theorem Pts.lookup {K : PySem.W.Frag} {ι : Io} {H : Hp} {f : Str} : ∀ {fv : List (Str × V)} {fd : List (Str × D)} {d : D}, Pts K ι H fv fd → fd.lookup f = some d → ∃ v, fv.lookup f = some v ∧ At K ι H v d
  | fv, [], d, _, h => by simp at h
  | fv, (k, e) :: fd, d, p, h => by
    obtain ⟨v, fv', rfl, a, p'⟩ := p.uncons
    rw [List.lookup_cons] at h ⊢
    cases q : f == k with
    | true => rw [q] at h; cases Option.some.inj h; exact ⟨v, rfl, a⟩
    | false => rw [q] at h; exact Pts.lookup p' h

section
variable {X : Cx} {W : WX} {a b c e o : Expr} {es : List Expr} {fa fb fc f fo : FE} {fl : FA} {pos p apos : Pos} {K : PySem.W.Frag} {ι : Io} {H : Hp} {σ : L2.St} {ρ : Rho} {μ : Sto} {x m fn : Str} {F : FD} {dds : List D} {j k : Nat} {C : Addr}

def fCall (F : FD) (dds : List D) (g : FA) : FE := fun ρ μ Q E => g ρ μ (fun ds m => F (ds ++ dds) m Q (fun c l m' => E c l ρ m')) E
theorem mCall (mF : MonF F) (m : MonA fl) : MonE (fCall F dds fl) := fun ρ μ Q Q' E E' h he q =>
  m ρ μ _ _ E E' (fun ds mm z => mF _ mm Q Q' _ _ h (fun c l m' w => he c l m' w) z) he q
theorem rdCall {dvs : List V} (mF : MonF F) (mg : MonA fl) (hd : ∀ ι H, Ats K ι H dvs dds) {Q : VK} (h : rdE K W (fCall F dds fl) σ H Q) :
    gCall (spD K F) dvs (WE W) (rdA K W fl) σ H Q := by
  obtain ⟨ι, ρ, μ, rp, l, q⟩ := h
  refine chainA mg rp l q fun ds μ1 ι1 H1 vs q1 g1 r1 l1 a1 => ?_
  exact ⟨ι1, μ1, ds ++ dds, r1, a1.app (hd ι1 H1), mF _ μ1 _ _ _ _ (fun d m z => QV.gr g1 z) (fun c l m z => EW.gr (ρ := ρ) (ρ' := ρ) g1 z) q1⟩
theorem de_call (c : CalX X k x F dds) (hG : X.A.guards = some []) (hr : Room j X.A) (hk : k ≤ j) (hg : Gl X x) (tk : Takes X W) (ha : DA X W (e :: es) fl)
    (hdb : (x == ("__debug__" : Str)) = false := by decide) (he : starEach (e :: es) X.env = (false, eval e X.env) :: starEach es X.env := by rfl)
    (hpl : (backTo pos (starEach es X.env)).any (·.1) = false := by rfl) : DE X W (.Call (.Name x p) (e :: es) [] pos) (fCall F dds fl) := by
  obtain ⟨f, fd, ps, dvs, ds, Fg, hm, hkp, hb, hv, hd⟩ := c.ex
  exact ⟨mCall c.mono ha.mono, PE.imp (ge_call hG Fg (hr.mono hk) hg hm hkp hb hv (passAt tk) ha.run hdb he hpl) fun σ H Q h => rdCall c.mono ha.mono hd h⟩
/-- a new instance, given out as it stands or as data -/
def gMade (n : Nat) (Q : QD) : QD := fun d μ' => d = .non ∧ ∃ d2 μ2, Fz n (.cell n) μ' d2 μ2 ∧ Q d2 μ2
def fMake (C : Addr) (F : FD) (dds : List D) (g : FA) : FE := fun ρ μ Q E => g ρ μ (fun ds m => F (.cell m.length :: (ds ++ dds)) (m ++ [.ins C []]) (gMade m.length Q)
  (fun c l m' => ∃ m2 mx, m' = m2 ++ mx ∧ m.length ≤ m2.length ∧ bdF m2.length l = true ∧ bdS m2.length m2 = true ∧ E c l ρ m2)) E
theorem gMade_mono {n : Nat} {Q Q' : QD} (h : ∀ d m, Q d m → Q' d m) : ∀ d m, gMade n Q d m → gMade n Q' d m := fun d m ⟨e, d2, μ2, z, q⟩ => ⟨e, d2, μ2, z, h _ _ q⟩
theorem mMake (mF : MonF F) (m : MonA fl) : MonE (fMake C F dds fl) := fun ρ μ Q Q' E E' h he q =>
  m ρ μ _ _ E E' (fun ds mm z => mF _ _ _ _ _ _ (gMade_mono h) (fun c l m' ⟨m2, mx, e, ll, b1, b2, w⟩ => ⟨m2, mx, e, ll, b1, b2, he c l m2 w⟩) z) he q
theorem XV.trunc {W : Value → Option Addr → Hp → Prop} {ι0 ι : Io} {H0 H : Hp} {c : Value} {l : List (Str × D)} {m2 mx : Sto} (g : Gr ι0 H0 ι H) (ll : ι0.length ≤ m2.length) (b1 : bdF m2.length l = true) (b2 : bdS m2.length m2 = true)
    (h : XV K ι0 H0 W c l m2) : XV K ι H W c l (m2 ++ mx) := fun ι' H' dd fv g' r a p => by
  obtain ⟨ι1, ext, rfl, l1, _⟩ := split_io r
  exact h ι1 H' dd fv ((g.trans g').trunc (by rw [l1]; exact ll)) (r.trunc l1 b2) a ⟨p.1, fun i x y e1 e2 => (p.2 i x y e1 e2).trunc (by rw [l1]; exact bdF_get b1 e2)⟩
theorem rdMake {dvs : List V} (mF : MonF F) (mg : MonA fl) (hd : ∀ ι H, Ats K ι H dvs dds) {Q : VK} (h : rdE K W (fMake C F dds fl) σ H Q) :
    gMake C (spD K F) dvs (WE W) (rdA K W fl) σ H Q := by
  obtain ⟨ι, ρ, μ, rp, l, q⟩ := h
  refine chainA mg rp l q fun ds μ1 ι1 H1 vs q1 g1 r1 l1 a1 => ?_
  intro y dx hy hdx ne
  have r2 := r1.new (o := .own y) hdx
  have gd := Gr.new (o := .own y) hdx (r1.free hdx)
  have hy2 : upd H1 dx (.own y) y = none := by rw [upd_ne (Ne.symm ne)]; exact hy
  have g2 := Gr.cellNew (o := .ins C dx []) hy2 (r2.free hy2)
  have r3 := r2.cellNew (o := .ins C dx []) (c := .ins C []) hy2 ⟨dx, [], upd_same, Pts.nil⟩
  have at_ : At K (ι1 ++ [y]) (upd (upd H1 dx (.own y)) y (.ins C dx [])) (.ref y) (.cell μ1.length) := .cell (by rw [List.getElem?_append_right (by rw [r1.len]; exact Nat.le_refl _), r1.len, Nat.sub_self]; rfl)
  have gg := gd.trans g2
  refine ⟨_, _, .cell μ1.length :: (ds ++ dds), r3, Ats.cons at_ ((a1.gr gg).app (hd _ _)), mF _ _ _ _ _ _ (fun d m z => ?_) (fun c l m z => ?_) q1⟩
  · intro ι' H' v g' r' av
    obtain ⟨e, d2, μ2, fz, qq⟩ := z
    subst e
    cases av
    refine ⟨rfl, ?_⟩
    obtain ⟨ι2, s1, s2, s3⟩ := fz.sound (K := K) (ι0 := ι1) (H0 := H1) (ι := ι') (H := H') (v := .ref y) r1.len r' (at_.gr g') (gg.trans g')
    exact qq ι2 H' _ (g1.trans s3) s1 s2
  · obtain ⟨m2, mx, e, ll, b1, b2, w⟩ := z
    subst e
    exact XV.trunc (g1.trans gg) (by have e1 := r1.len; have e2 := g1.len_le; omega) b1 b2 w
theorem de_make (c : MakX X k x C F dds) (hG : X.A.guards = some []) (hr : Room j X.A) (hk : k + 1 ≤ j) (hg : Gl X x) (tk : Takes X W) (ha : DA X W (e :: es) fl)
    (hdb : (x == ("__debug__" : Str)) = false := by decide) (he : starEach (e :: es) X.env = (false, eval e X.env) :: starEach es X.env := by rfl)
    (hpl : (backTo pos (starEach es X.env)).any (·.1) = false := by rfl) : DE X W (.Call (.Name x p) (e :: es) [] pos) (fMake C F dds fl) := by
  obtain ⟨f, fd, ps, dvs, ds, Fg, hm, hM, hb, hv, hd⟩ := c.ex
  exact ⟨mMake c.mono ha.mono, PE.imp (ge_make hG hM Fg (hr.mono hk) hg hm hb hv (passAt tk) ha.run hdb he hpl) fun σ H Q h => rdMake c.mono ha.mono hd h⟩
theorem de_make0 (c : MakX X k x C F dds) (hG : X.A.guards = some []) (hr : Room j X.A) (hk : k + 1 ≤ j) (hg : Gl X x) (tk : Takes X W)
    (hdb : (x == ("__debug__" : Str)) = false := by decide) : DE X W (.Call (.Name x p) [] [] pos) (fMake C F dds fNil) := by
  obtain ⟨f, fd, ps, dvs, ds, Fg, hm, hM, hb, hv, hd⟩ := c.ex
  refine ⟨mMake c.mono mNil, PE.imp (ge_make0 hG hM Fg (hr.mono hk) hg hm hb hv (passAt tk) hdb) fun σ H Q h => ?_⟩
  have z := rdMake (dvs := dvs) c.mono mNil hd h
  obtain ⟨ι, ρ, μ, rp, l, q⟩ := z
  exact q ι H [] (Gr.refl _ _) rp Ats.nil

/-- o.m(..) -/
def fMeth (C : Addr) (m : Str) (F : FD) (dds : List D) (fo : FE) (g : FA) : FE := fun ρ μ Q E => fo ρ μ (fun d m1 => ∃ fd, asI m1 d = some (C, fd) ∧ fd.lookup m = none ∧
  g ρ m1 (fun ds m2 => F (d :: (ds ++ dds)) m2 Q (fun c l m' => E c l ρ m')) E) E
theorem mMeth (mF : MonF F) (mo : MonE fo) (mg : MonA fl) : MonE (fMeth C m F dds fo fl) := fun ρ μ Q Q' E E' h he q =>
  mo ρ μ _ _ E E' (fun d m1 ⟨fd, e1, e2, z⟩ => ⟨fd, e1, e2, mg ρ m1 _ _ E E' (fun ds mm z => mF _ mm Q Q' _ _ h (fun c l m' w => he c l m' w) z) he z⟩) he q
theorem rdMeth {dvs : List V} (mF : MonF F) (mo : MonE fo) (mg : MonA fl) (hd : ∀ ι H, Ats K ι H dvs dds) {Q : VK} (h : rdE K W (fMeth C m F dds fo fl) σ H Q) :
    gMeth C m (spD K F) dvs (WE W) (rdE K W fo) (rdA K W fl) σ H Q := by
  obtain ⟨ι, ρ, μ, rp, l, q⟩ := h
  refine chain1 mo rp l q fun d μ1 ι1 H1 v q1 g1 r1 l1 a1 => ?_
  obtain ⟨fd, e1, e2, z⟩ := q1
  obtain ⟨a, dx, fv, rfl, ha, hp⟩ := asI_at r1 a1 e1
  refine ⟨a, dx, fv, rfl, ha, hp.none e2, ?_⟩
  refine chainA mg r1 l1 (mg ρ μ1 _ _ _ _ (fun _ _ z => z) (fun _ _ _ z => EW.gr g1 z) z) fun ds μ2 ι2 H2 vs q2 g2 r2 l2 a2 => ?_
  exact ⟨ι2, μ2, d :: (ds ++ dds), r2, Ats.cons (a1.gr g2) (a2.app (hd ι2 H2)), mF _ μ2 _ _ _ _ (fun d m z => QV.gr (g1.trans g2) z) (fun c l m z => EW.gr (ρ := ρ) (ρ' := ρ) (g1.trans g2) z) q2⟩
theorem de_meth0 {pl : Sem Bool} (c : MetX X k C m F dds) (hG : X.A.guards = some []) (hr : Room j X.A) (hk : k ≤ j) (tk : Takes X W) (ho : DE X W o fo)
    (ht : eval (.Call (.Attribute o m apos) [] [] pos) X.env = (eval o X.env >>= fun ov => standAt apos.atName >>= fun _ =>
      holding [ov] (getMethod ov m pl) >>= fun fm => callWith pos fm.1 fm.2 (backTo pos (starEach [] X.env)) (backToKw pos (keywordEach [] X.env))) := by rfl) :
    DE X W (.Call (.Attribute o m apos) [] [] pos) (fMeth C m F dds fo fNil) := by
  obtain ⟨f, fd, ps, dvs, ds, Fg, hM, hb, hv, hd⟩ := c.ex
  refine ⟨mMeth c.mono ho.mono mNil, PE.imp (ge_meth0 hG ho.run c.cls hM Fg (hr.mono hk) hb hv (passAt tk) ht) fun σ H Q h => ?_⟩
  have z := rdMeth (dvs := dvs) c.mono ho.mono mNil hd h
  obtain ⟨ι, ρ, μ, rp, l, q⟩ := z
  refine ⟨ι, ρ, μ, rp, l, ho.mono ρ μ _ _ _ _ (fun d m1 z ι1 H1 v g1 r1 a1 => ?_) (fun _ _ _ z => z) q⟩
  obtain ⟨a, dx, fs, h1, h2, h3, ι2, ρ2, μ2, r2, l2, q2⟩ := z ι1 H1 v g1 r1 a1
  exact ⟨a, dx, fs, h1, h2, h3, q2 ι2 H1 [] (Gr.refl _ _) r2 Ats.nil⟩

/-- o.f -/
def fFld (fn : Str) (K : PySem.W.Frag) (fo : FE) : FE := fun ρ μ Q E => fo ρ μ (fun d m => ∃ C fd v, asI m d = some (C, fd) ∧ Cls K C ∧ NoAttr K C fn ∧ fd.lookup fn = some v ∧ Q v m) E
theorem mFld (mo : MonE fo) : MonE (fFld fn K fo) := fun ρ μ Q Q' E E' h he q => mo ρ μ _ _ E E' (fun d m ⟨C, fd, v, e1, e2, e3, e4, z⟩ => ⟨C, fd, v, e1, e2, e3, e4, h _ _ z⟩) he q
theorem de_fld {K : PySem.W.Frag} (ho : DE X W o fo) (hb : attributeBase o fn X.env (eval o X.env) = eval o X.env := by rfl) (hK : X.K = K := by rfl) : DE X W (.Attribute o fn pos) (fFld fn K fo) := by
  subst hK; exact
  ⟨mFld ho.mono, PE.imp (pe_fld ho.run hb) fun σ H Q ⟨ι, ρ, μ, rp, l, q⟩ => chain1 ho.mono rp l q fun d μ1 ι1 H1 v q1 g1 r1 l1 a1 => by
    obtain ⟨C, fd, w, e1, c, n, e4, z⟩ := q1
    obtain ⟨a, dx, fv, rfl, ha, hp⟩ := asI_at r1 a1 e1
    obtain ⟨u, h1, h2⟩ := hp.lookup e4
    exact ⟨a, C, dx, fv, u, rfl, ha, c, n, h1, z ι1 H1 u g1 r1 h2⟩⟩
end
end Dl

namespace Dl
open PySem PySem.Spec L2
open PyProof.Rows hiding St Binds

/-- what is wanted behind a statement -/
structure DK where
  nx : Rho → Sto → Prop
  rt : QD
  ex : ED
  bk : Rho → Sto → Prop := fun _ _ => False
  ct : Rho → Sto → Prop := fun _ _ => False
structure DK.le (A B : DK) : Prop where
  nx : ∀ ρ μ, A.nx ρ μ → B.nx ρ μ
  rt : ∀ d μ, A.rt d μ → B.rt d μ
  ex : ∀ c l ρ μ, A.ex c l ρ μ → B.ex c l ρ μ
  bk : ∀ ρ μ, A.bk ρ μ → B.bk ρ μ
  ct : ∀ ρ μ, A.ct ρ μ → B.ct ρ μ
abbrev FS := DK → Rho → Sto → Prop
def MonS (f : FS) : Prop := ∀ ρ μ (A B : DK), A.le B → f A ρ μ → f B ρ μ
def SV (K : PySem.W.Frag) (ι : Io) (H : Hp) (N : L2.St → Hp → Prop) : Rho → Sto → Prop := fun ρ μ => ∀ ι' H' σ', Gr ι H ι' H' → Rep K ι' μ H' → Loc K ι' H' σ' ρ → N σ' H'
def WV (K : PySem.W.Frag) (ι : Io) (H : Hp) (W : WX) : ED := fun c l ρ μ => ∀ ι' H' dd fv σ', Gr ι H ι' H' → Rep K ι' μ H' → H' dd = some (.xd fv) → Pts K ι' H' fv l → Loc K ι' H' σ' ρ → W c (some dd) σ' H'
def KV (K : PySem.W.Frag) (W : WX) (ι : Io) (H : Hp) (D : Ends) : DK := ⟨SV K ι H D.nx, QV K ι H D.rt, WV K ι H W, SV K ι H D.bk, SV K ι H D.ct⟩
def rdS (K : PySem.W.Frag) (W : WX) (f : FS) : TS := fun D σ H => ∃ ι ρ μ, Rep K ι μ H ∧ Loc K ι H σ ρ ∧ f (KV K W ι H D) ρ μ
structure DS (X : Cx) (W : WX) (s : Stmt) (f : FS) : Prop where
  mono : MonS f
  run : PS X s (rdS X.K W f)
structure DB (X : Cx) (W : WX) (s : List Stmt) (f : FS) : Prop where
  mono : MonS f
  run : PSs X s (rdS X.K W f)
theorem PS.imp {X : Cx} {s : Stmt} {t t' : TS} (h : PS X s t) (k : ∀ D σ H, t' D σ H → t D σ H) : PS X s t' := ⟨fun pins s σ H D I q => h.run pins s σ H D I (k D σ H q)⟩
theorem PSs.imp {X : Cx} {s : List Stmt} {t t' : TS} (h : PSs X s t) (k : ∀ D σ H, t' D σ H → t D σ H) : PSs X s t' := ⟨fun pins s σ H D I q => h.run pins s σ H D I (k D σ H q)⟩
section
variable {K : PySem.W.Frag} {W : WX} {ι ι' : Io} {H H' : Hp} {σ : L2.St} {ρ : Rho} {μ : Sto} {De : Ends}
theorem SV.gr {N : L2.St → Hp → Prop} (g : Gr ι H ι' H') (h : SV K ι H N ρ μ) : SV K ι' H' N ρ μ := fun _ _ σ g' r l => h _ _ σ (g.trans g') r l
theorem WV.gr {c : Value} {l : List (Str × D)} (g : Gr ι H ι' H') (h : WV K ι H W c l ρ μ) : WV K ι' H' W c l ρ μ := fun _ _ dd fv σ g' r a p q => h _ _ dd fv σ (g.trans g') r a p q
theorem KV.gr (g : Gr ι H ι' H') : (KV K W ι H De).le (KV K W ι' H' De) := ⟨fun _ _ h => SV.gr g h, fun _ _ h => QV.gr g h, fun _ _ _ _ h => WV.gr g h, fun _ _ h => SV.gr g h, fun _ _ h => SV.gr g h⟩
theorem WV.ew {c : Value} {l : List (Str × D)} (lo : Loc K ι H σ ρ) (h : WV K ι H W c l ρ μ) : EW K ι H W σ c l ρ μ := fun ι1 H1 dd fv g r a p => h ι1 H1 dd fv σ g r a p (lo.gr g)
/-- an expression of a statement -/
theorem chS {fa : FE} (ha : MonE fa) {R : VK} {P : QD} {A : DK} (hA : A = KV K W ι H De) (r : Rep K ι μ H) (l : Loc K ι H σ ρ) (h : fa ρ μ P A.ex)
    (k : ∀ d μ1 ι1 H1 v, P d μ1 → Gr ι H ι1 H1 → Rep K ι1 μ1 H1 → Loc K ι1 H1 σ ρ → At K ι1 H1 v d → R v H1) : rdE K W fa σ H R := by
  subst hA
  exact chain1 ha r l (ha ρ μ _ _ _ _ (fun _ _ z => z) (fun c l' m z => WV.ew l z) h) k
theorem chST {fa : FT} (ha : MonT fa) {R : Bool → Hp → Prop} {P : Bool → Sto → Prop} {A : DK} (hA : A = KV K W ι H De) (r : Rep K ι μ H) (l : Loc K ι H σ ρ) (h : fa ρ μ P A.ex)
    (k : ∀ d μ1 ι1 H1, P d μ1 → Gr ι H ι1 H1 → Rep K ι1 μ1 H1 → Loc K ι1 H1 σ ρ → R d H1) : rdT K W fa σ H R := by
  subst hA
  exact chainT ha r l (ha ρ μ _ _ _ _ (fun _ _ z => z) (fun c l' m z => WV.ew l z) h) k
end

section
variable {X : Cx} {W : WX} {s : Stmt} {ss sb sc : List Stmt} {e c : Expr} {f : FE} {ft : FT} {fs gs hs : FS} {pos : Pos}
def sNext : FS := fun A ρ μ => A.nx ρ μ
def sSeq (f g : FS) : FS := fun A ρ μ => f { A with nx := fun ρ' μ' => g A ρ' μ' } ρ μ
theorem mNext : MonS sNext := fun ρ μ A B h q => h.nx _ _ q
theorem mSeq (m : MonS fs) (m' : MonS gs) : MonS (sSeq fs gs) := fun ρ μ A B h q => m ρ μ { A with nx := fun ρ' μ' => gs A ρ' μ' } { B with nx := fun ρ' μ' => gs B ρ' μ' } ⟨fun ρ' μ' z => m' ρ' μ' A B h z, h.rt, h.ex, h.bk, h.ct⟩ q
theorem ds_nil : DB X W [] sNext := ⟨mNext, PSs.imp pss_nil fun D σ H ⟨ι, ρ, μ, r, l, q⟩ => q ι H σ (Gr.refl _ _) r l⟩
theorem ds_one (h : DS X W s fs) : DB X W [s] fs := ⟨h.mono, pss_one h.run⟩
theorem ds_cons (h : DS X W s fs) (h' : DB X W ss gs) : DB X W (s :: ss) (sSeq fs gs) :=
  ⟨mSeq h.mono h'.mono, PSs.imp (pss_cons h.run h'.run) fun D σ H ⟨ι, ρ, μ, r, l, q⟩ =>
    ⟨ι, ρ, μ, r, l, h.mono ρ μ { KV X.K W ι H D with nx := fun ρ' μ' => gs (KV X.K W ι H D) ρ' μ' } (KV X.K W ι H { D with nx := rdS X.K W gs D }) ⟨fun ρ' μ' z ι1 H1 σ1 g1 r1 l1 => ⟨ι1, ρ', μ', r1, l1, h'.mono ρ' μ' _ _ (KV.gr g1) z⟩, fun _ _ z => z, fun _ _ _ _ z => z, fun _ _ z => z, fun _ _ z => z⟩ q⟩⟩
def sBreak : FS := fun A ρ μ => A.bk ρ μ
def sCont : FS := fun A ρ μ => A.ct ρ μ
def sNever : FS := fun _ _ _ => False
theorem ds_never : DS X W s sNever := ⟨fun _ _ _ _ _ q => q, PS.imp ps_never fun D σ H ⟨ι, ρ, μ, r, l, q⟩ => q⟩
def sDrop (f : FE) : FS := fun A ρ μ => f ρ μ (fun _ m => A.nx ρ m) A.ex
def sRet (f : FE) : FS := fun A ρ μ => f ρ μ A.rt A.ex
theorem mDrop (m : MonE f) : MonS (sDrop f) := fun ρ μ A B h q => m ρ μ _ _ _ _ (fun _ _ z => h.nx _ _ z) (fun _ _ _ z => h.ex _ _ _ _ z) q
theorem mRet (m : MonE f) : MonS (sRet f) := fun ρ μ A B h q => m ρ μ _ _ _ _ (fun _ _ z => h.rt _ _ z) (fun _ _ _ z => h.ex _ _ _ _ z) q
theorem ds_expr (h : DE X W e f) (hs : swapsWith e none pos.line X.env = pure false := by rfl) : DS X W (.Expr e pos) (sDrop f) :=
  ⟨mDrop h.mono, PS.imp (ps_expr h.run hs) fun D σ H ⟨ι, ρ, μ, r, l, q⟩ => chS h.mono rfl r l q fun d μ1 ι1 H1 v z g1 r1 l1 a1 => z ι1 H1 σ g1 r1 l1⟩
theorem ds_ret (h : DE X W e f) : DS X W (.Return (some e) pos) (sRet f) :=
  ⟨mRet h.mono, PS.imp (ps_ret h.run) fun D σ H ⟨ι, ρ, μ, r, l, q⟩ => chS h.mono rfl r l q fun d μ1 ι1 H1 v z g1 r1 l1 a1 => z ι1 H1 v g1 r1 a1⟩
def sIf (t : FT) (f g : FS) : FS := fun A ρ μ => t ρ μ (fun b m => if b = true then f A ρ m else g A ρ m) A.ex
theorem mIfS (m : MonT ft) (mf : MonS fs) (mg : MonS gs) : MonS (sIf ft fs gs) := fun ρ μ A B h q => m ρ μ _ _ _ _ (fun b mm z => by
  cases b with
  | true => exact mf ρ mm A B h z
  | false => exact mg ρ mm A B h z) (fun _ _ _ z => h.ex _ _ _ _ z) q
theorem ds_if (hc : DT X W c ft) (ha : DB X W sb fs) (hb : DB X W sc gs) : DS X W (.If c sb sc pos) (sIf ft fs gs) :=
  ⟨mIfS hc.mono ha.mono hb.mono, PS.imp (ps_if hc.run ha.run hb.run) fun D σ H ⟨ι, ρ, μ, r, l, q⟩ => chST hc.mono rfl r l q fun b μ1 ι1 H1 z g1 r1 l1 => by
    cases b with
    | true => exact ⟨ι1, ρ, μ1, r1, l1, ha.mono ρ μ1 _ _ (KV.gr g1) z⟩
    | false => exact ⟨ι1, ρ, μ1, r1, l1, hb.mono ρ μ1 _ _ (KV.gr g1) z⟩⟩

/-! ### targets -/
abbrev FG := D → Rho → Sto → (Rho → Sto → Prop) → Prop
def MonTg (g : FG) : Prop := ∀ d ρ μ (N N' : Rho → Sto → Prop), (∀ ρ μ, N ρ μ → N' ρ μ) → g d ρ μ N → g d ρ μ N'
structure DG (X : Cx) (tg : Expr) (g : FG) : Prop where
  mono : MonTg g
  run : ∃ t, PG X tg t ∧ ∀ ι H σ ρ μ v d N, Rep X.K ι μ H → Loc X.K ι H σ ρ → At X.K ι H v d → g d ρ μ (SV X.K ι H N) → t v σ H N
abbrev FGs := List D → Rho → Sto → (Rho → Sto → Prop) → Prop
def MonTgs (g : FGs) : Prop := ∀ ds ρ μ (N N' : Rho → Sto → Prop), (∀ ρ μ, N ρ μ → N' ρ μ) → g ds ρ μ N → g ds ρ μ N'
structure DGs (X : Cx) (tgs : List Expr) (g : FGs) : Prop where
  mono : MonTgs g
  run : ∃ t, PGs X tgs t ∧ ∀ ι H σ ρ μ vs ds N, Rep X.K ι μ H → Loc X.K ι H σ ρ → Ats X.K ι H vs ds → g ds ρ μ (SV X.K ι H N) → t vs σ H N
def tgName (i : Nat) : FG := fun d ρ μ N => N (ρ.set i (some d)) μ
theorem dg_name {i : Nat} {x : Str} (hN : X.N.Nodup) (hi : X.N[i]? = some x) (hx : L2.Loc X.env.scope x)
    (hf : X.fn x = true ∨ X.env.scope.names.lookup x = some .local := by first | exact .inl rfl | exact .inr rfl | assumption) : DG X (.Name x pos) (tgName i) :=
  ⟨fun d ρ μ N N' h q => h _ _ q, _, pg_name hN hi hx hf, fun ι H σ ρ μ v d N r l a q => q ι H _ (Gr.refl _ _) r (l.set a i)⟩
def tgNil : FGs := fun ds ρ μ N => ds = [] ∧ N ρ μ
def tgCons (g : FG) (h : FGs) : FGs := fun ds ρ μ N => ∃ d r, ds = d :: r ∧ g d ρ μ (fun ρ' μ' => h r ρ' μ' N)
theorem dgs_nil : DGs X [] tgNil := ⟨fun ds ρ μ N N' h ⟨e, q⟩ => ⟨e, h _ _ q⟩, _, pgs_nil, fun ι H σ ρ μ vs ds N r l a ⟨e, q⟩ => by
  subst e
  exact ⟨Ats.unnil a, q ι H _ (Gr.refl _ _) r l⟩⟩
theorem dgs_cons {t : Expr} {ts : List Expr} {g : FG} {h : FGs} (h1 : DG X t g) (h2 : DGs X ts h)
    (hs : (assignEach (t :: ts) X.env).map (·.2) = assign t X.env :: (assignEach ts X.env).map (·.2) := by rfl) : DGs X (t :: ts) (tgCons g h) := by
  obtain ⟨t1, p1, k1⟩ := h1.run
  obtain ⟨t2, p2, k2⟩ := h2.run
  refine ⟨fun ds ρ μ N N' hh ⟨d, r, e, q⟩ => ⟨d, r, e, h1.mono _ _ _ _ _ (fun ρ' μ' z => h2.mono _ _ _ _ _ hh z) q⟩, _, pgs_cons p1 p2 hs, fun ι H σ ρ μ vs ds N r l a ⟨d, rr, e, q⟩ => ?_⟩
  subst e
  obtain ⟨v, vs', rfl, a1, a2⟩ := a.uncons
  refine ⟨v, vs', rfl, k1 ι H σ ρ μ v d _ r l a1 (h1.mono _ _ _ _ _ (fun ρ' μ' z => ?_) q)⟩
  intro ι1 H1 σ1 g1 r1 l1
  exact k2 ι1 H1 σ1 ρ' μ' vs' rr N r1 l1 (a2.gr g1) (h2.mono _ _ _ _ _ (fun _ _ z => SV.gr g1 z) z)
/-- (a, b, ..) = a tuple -/
def tgTup (n : Nat) (h : FGs) : FG := fun d ρ μ N => ∃ ds, d = .tup ds ∧ ds.length = n ∧ h ds ρ μ N
theorem dg_tup {ts : List Expr} {k n : Nat} {h : FGs} (hc : X.calm = true) (hh : DGs X ts h)
    (hn : (assignEach ts X.env).length = n := by rfl) (hst : (assignEach ts X.env).findIdx? (·.1) = none := by rfl) : DG X (.Tuple ts k pos) (tgTup n h) := by
  obtain ⟨t, p, kk⟩ := hh.run
  refine ⟨fun d ρ μ N N' m ⟨ds, e, c, q⟩ => ⟨ds, e, c, hh.mono _ _ _ _ _ m q⟩, _, pg_tup hc p hn hst, fun ι H σ ρ μ v d N r l a ⟨ds, e, c, q⟩ => ?_⟩
  subst e
  obtain ⟨b, vs, rfl, h1, h2⟩ := tup_at a
  exact ⟨b, vs, rfl, h1, by rw [h2.1]; exact c, kk ι H σ ρ μ vs ds N r l h2 q⟩
def sAsg (f : FE) (g : FG) : FS := fun A ρ μ => f ρ μ (fun d m => g d ρ m A.nx) A.ex
theorem mAsg {g : FG} (m : MonE f) (mg : MonTg g) : MonS (sAsg f g) := fun ρ μ A B h q => m ρ μ _ _ _ _ (fun d mm z => mg _ _ _ _ _ h.nx z) (fun _ _ _ z => h.ex _ _ _ _ z) q
theorem ds_set {i : Nat} {x : Str} {pos' : Pos} (hN : X.N.Nodup) (hi : X.N[i]? = some x) (hx : L2.Loc X.env.scope x) (h : DE X W e f)
    (hs : swapsWith e (some (.Name x pos')) pos.line X.env = pure false := by rfl)
    (hf : X.fn x = true ∨ X.env.scope.names.lookup x = some .local := by first | exact .inl rfl | exact .inr rfl | assumption) : DS X W (.Assign [.Name x pos'] e pos) (sAsg f (tgName i)) :=
  ⟨mAsg h.mono (fun d ρ μ N N' h q => h _ _ q), PS.imp (ps_set hN hi hx h.run hs hf) fun D σ H ⟨ι, ρ, μ, r, l, q⟩ => chS h.mono rfl r l q fun d μ1 ι1 H1 v z g1 r1 l1 a1 => z ι1 H1 _ g1 r1 (l1.set a1 i)⟩
theorem ds_asg {tg : Expr} {g : FG} (h : DE X W e f) (hg : DG X tg g) (hs : swapsWithSole [tg] e pos.line X.env = pure false := by rfl) (hw : swappedStores [tg] e X.env = pure none := by rfl)
    (h1 : (assignEach [tg] X.env).map (·.2) = [assign tg X.env] := by rfl) : DS X W (.Assign [tg] e pos) (sAsg f g) := by
  obtain ⟨t, p, kk⟩ := hg.run
  refine ⟨mAsg h.mono hg.mono, PS.imp (ps_asg h.run p hs hw h1) fun D σ H ⟨ι, ρ, μ, r, l, q⟩ => chS h.mono rfl r l q fun d μ1 ι1 H1 v z g1 r1 l1 a1 => ?_⟩
  exact kk ι1 H1 σ ρ μ1 v d D.nx r1 l1 a1 (hg.mono _ _ _ _ _ (fun _ _ z => SV.gr g1 z) z)

/-! ### what a loop walks: its items, and what must stay while it walks -/
structure Walks (K : PySem.W.Frag) (J : It) (ι : Io) (H : Hp) (xs : List D) (stay : Sto → Prop) : Prop where
  go : ∀ ι' H' μ' i x, Gr ι H ι' H' → Rep K ι' μ' H' → stay μ' → xs[i]? = some x → J.go i H' ∧ ∀ v H2, J.yld i H' v H2 → Gr ι' H' ι' H2 ∧ Rep K ι' μ' H2 ∧ At K ι' H2 v x
  stop : ∀ ι' H' μ' i, Gr ι H ι' H' → Rep K ι' μ' H' → stay μ' → xs.length = i → J.stop i H'
abbrev FI := Rho → Sto → (List D → (Sto → Prop) → Sto → Prop) → ED → Prop
def MonI (f : FI) : Prop := ∀ ρ μ (Q Q' : List D → (Sto → Prop) → Sto → Prop) (E E' : ED), (∀ xs st m, Q xs st m → Q' xs st m) → (∀ c l m, E c l ρ m → E' c l ρ m) → f ρ μ Q E → f ρ μ Q' E'
def IV (K : PySem.W.Frag) (ι : Io) (H : Hp) (R : It → Hp → Prop) : List D → (Sto → Prop) → Sto → Prop := fun xs st μ => ∀ ι' H' J, Gr ι H ι' H' → Rep K ι' μ H' → Walks K J ι' H' xs st → R J H'
def rdI (K : PySem.W.Frag) (W : WX) (f : FI) : TI := fun σ H R => ∃ ι ρ μ, Rep K ι μ H ∧ Loc K ι H σ ρ ∧ f ρ μ (IV K ι H R) (EW K ι H W σ)
structure DI (X : Cx) (W : WX) (tg iter : Expr) (f : FI) : Prop where
  mono : MonI f
  run : PI X tg iter (rdI X.K W f)
theorem PI.imp {X : Cx} {tg it : Expr} {w w' : TI} (h : PI X tg it w) (k : ∀ σ H R, w' σ H R → w σ H R) : PI X tg it w' := ⟨fun pins s σ H R I q => h.run pins s σ H R I (k σ H R q)⟩
/-- a list or a tuple -/
def iSeq (f : FE) : FI := fun ρ μ Q E => f ρ μ (fun d m => ∃ xs, asS m d = some xs ∧ Q xs (fun m' => asS m' d = some xs) m) E
theorem mSeqI (m : MonE f) : MonI (iSeq f) := fun ρ μ Q Q' E E' h he q => m ρ μ _ _ E E' (fun d mm ⟨xs, e, z⟩ => ⟨xs, e, h _ _ _ z⟩) he q
theorem walks_list {K : PySem.W.Frag} {a : Addr} {ι : Io} {H : Hp} {d : D} {xs : List D} (at_ : At K ι H (.ref a) d) (nt : ∀ ds, d ≠ .tup ds) : Walks K (Itl K a) ι H xs (fun m' => asS m' d = some xs) := by
  have key : ∀ ι' H' μ', Gr ι H ι' H' → Rep K ι' μ' H' → asS μ' d = some xs → ∃ vs, H' a = some (.lst vs) ∧ Ats K ι' H' vs xs := fun ι' H' μ' g r st => by
    have st' : asL μ' d = some xs := by
      cases d with
      | tup ds => exact absurd rfl (nt ds)
      | _ => exact st
    obtain ⟨p, vs, e, h1, h2⟩ := asL_at r (at_.gr g) st'
    cases e
    exact ⟨vs, h1, h2⟩
  refine ⟨fun ι' H' μ' i x g r st hx => ?_, fun ι' H' μ' i g r st hx0 => have hx := Nat.le_of_eq hx0; ?_⟩
  · obtain ⟨vs, h1, h2⟩ := key ι' H' μ' g r st
    obtain ⟨v, e, av⟩ := h2.get hx
    refine ⟨⟨vs, v, SqL.of h1, e⟩, fun u H2 hy => ?_⟩
    obtain ⟨rfl, hu⟩ := hy
    have e2 := hu vs (SqL.of h1)
    rw [e] at e2; cases e2
    exact ⟨Gr.refl _ _, r, av⟩
  · obtain ⟨vs, h1, h2⟩ := key ι' H' μ' g r st
    exact ⟨vs, SqL.of h1, by rw [h2.1]; exact hx⟩
theorem walks_tup {K : PySem.W.Frag} {a : Addr} {ι : Io} {H : Hp} {xs : List D} (at_ : At K ι H (.ref a) (.tup xs)) {st : Sto → Prop} : Walks K (Itt K a) ι H xs st := by
  have key : ∀ ι' H', Gr ι H ι' H' → ∃ vs, SqT K H' a vs ∧ Ats K ι' H' vs xs := fun ι' H' g => by
    obtain ⟨p, vs, e, h1, h2⟩ := tup_at (at_.gr g)
    cases e
    exact ⟨vs, h1, h2⟩
  refine ⟨fun ι' H' μ' i x g r st hx => ?_, fun ι' H' μ' i g r st hx0 => have hx := Nat.le_of_eq hx0; ?_⟩
  · obtain ⟨vs, h1, h2⟩ := key ι' H' g
    obtain ⟨v, e, av⟩ := h2.get hx
    refine ⟨⟨vs, v, h1, e⟩, fun u H2 hy => ?_⟩
    obtain ⟨rfl, hu⟩ := hy
    have e2 := hu vs h1
    rw [e] at e2; cases e2
    exact ⟨Gr.refl _ _, r, av⟩
  · obtain ⟨vs, h1, h2⟩ := key ι' H' g
    exact ⟨vs, h1, by rw [h2.1]; exact hx⟩
def PI.or2 (X : Cx) (tg iter : Expr) (t : TE) : TI := fun σ H R => t σ H fun v H1 => (∃ a, v = .ref a ∧ (∃ xs, SqL X.K H1 a xs) ∧ R (Itl X.K a) H1) ∨ (∃ a, v = .ref a ∧ (∃ xs, SqT X.K H1 a xs) ∧ R (Itt X.K a) H1)
theorem pi_seq {tg l : Expr} {tl : TE} (hl : PE X l tl) : PI X tg l (PI.or2 X tg l tl) := by
  refine ⟨fun pins s σ H R I h => ?_⟩
  have fresh : ∀ {s1 : Shared} {H1 : Hp}, Inv X pins σ H1 s1 → ∀ b ∈ [s1.heap.objs.size], FpOk X pins H1 b := fun I1 b hb => by
    cases List.mem_singleton.mp hb
    exact I1.fpOk (Nat.le_refl _) (I1.hok.fresh (Nat.le_refl _))
  refine thn (hl.run pins s σ H _ I h) fun v s1 ⟨x, H1, I1, r1, q1⟩ => ?_
  rcases q1 with ⟨a, rfl, ⟨xs, hq⟩, q⟩ | ⟨a, rfl, ⟨xs, hq⟩, q⟩
  · cases r1
    obtain ⟨its, rv, p, hz⟩ := I1.list hq
    refine wpAny_pyIter_list p.isList ⟨s1.heap.objs.size, [s1.heap.objs.size], _, _, H1, rfl, I1.kept (t' := s1.toks) fun b o e => Heap.get?_push_of_some _ e, turn_list a _, ⟨_, Heap.get?_push_size _ rfl, rfl, rfl⟩, ?_, q⟩
    exact fresh I1
  · cases r1
    obtain ⟨its, rv, p, hz⟩ := I1.tuple hq
    refine wpAny_pyIter_tuple (show s1.heap.IsTuple a its.toArray from p) ⟨s1.heap.objs.size, [s1.heap.objs.size], _, _, H1, rfl, I1.kept (t' := s1.toks) fun b o e => Heap.get?_push_of_some _ e, turn_tuple a _, ⟨_, Heap.get?_push_size _ rfl, rfl, rfl⟩, ?_, q⟩
    exact fresh I1
theorem di_seq {tg : Expr} (h : DE X W e f) : DI X W tg e (iSeq f) :=
  ⟨mSeqI h.mono, PI.imp (pi_seq (tg := tg) h.run) fun σ H R ⟨ι, ρ, μ, r, l, q⟩ => chain1 h.mono r l q fun d μ1 ι1 H1 v z g1 r1 l1 a1 => by
    obtain ⟨xs, e1, z⟩ := z
    cases d with
    | tup ds =>
      cases Option.some.inj e1
      obtain ⟨p, vs, rfl, h1, h2⟩ := tup_at a1
      exact .inr ⟨p, rfl, ⟨vs, h1⟩, z ι1 H1 _ g1 r1 (walks_tup a1)⟩
    | _ =>
      obtain ⟨p, vs, rfl, h1, h2⟩ := asL_at r1 a1 e1
      exact .inl ⟨p, rfl, ⟨vs, SqL.of h1⟩, z ι1 H1 _ g1 r1 (walks_list a1 fun ds hh => by cases hh)⟩⟩

/-- for .. -/
def sFor (fi : FI) (g : FG) (fb : FS) : FS := fun A ρ μ => fi ρ μ (fun xs st m => ∃ I : Nat → Rho → Sto → Prop, I 0 ρ m ∧ (∀ i ρ' μ', I i ρ' μ' → st μ') ∧
  (∀ i x ρ' μ', xs[i]? = some x → I i ρ' μ' → g x ρ' μ' (fun ρ2 μ2 => fb { A with nx := I (i + 1), ct := I (i + 1), bk := A.nx } ρ2 μ2)) ∧ ∀ ρ' μ', I xs.length ρ' μ' → A.nx ρ' μ') A.ex
theorem mFor {fi : FI} {g : FG} {fb : FS} (mi : MonI fi) (mg : MonTg g) (mb : MonS fb) : MonS (sFor fi g fb) := fun ρ μ A B h q => mi ρ μ _ _ _ _
  (fun xs st m ⟨I, h0, hs, ht, hd⟩ => ⟨I, h0, hs, fun i x ρ' μ' hx hi => mg _ _ _ _ _ (fun ρ2 μ2 z => mb ρ2 μ2 { A with nx := I (i + 1), ct := I (i + 1), bk := A.nx } { B with nx := I (i + 1), ct := I (i + 1), bk := B.nx } ⟨fun _ _ z => z, h.rt, h.ex, h.nx, fun _ _ z => z⟩ z) (ht i x ρ' μ' hx hi), fun ρ' μ' z => h.nx _ _ (hd ρ' μ' z)⟩)
  (fun _ _ _ z => h.ex _ _ _ _ z) q
theorem ds_for {tg iter : Expr} {fi : FI} {g : FG} {fb : FS} (hp : PassesOwn (model X.prog X.w) X.A X.env X.xe) (hc : X.calm = true) (hi : DI X W tg iter fi) (hg : DG X tg g) (hb : DB X W sb fb)
    (hs : ∀ x, foldedSetIterable iter X.env x = pure x := by intro _; rfl) : DS X W (.For tg iter sb [] pos) (sFor fi g fb) := by
  obtain ⟨t, p, kk⟩ := hg.run
  refine ⟨mFor hi.mono hg.mono hb.mono, PS.imp (ps_for hp hc hi.run p hb.run hs) fun D σ H ⟨ι, ρ, μ, r, l, q⟩ => ?_⟩
  refine ⟨ι, ρ, μ, r, l, hi.mono ρ μ _ _ _ _ (fun xs st m z => ?_) (fun c l' m z => WV.ew l z) q⟩
  intro ι1 H1 J g1 r1 wk
  obtain ⟨I, h0, hst, ht, hd⟩ := z
  refine ⟨fun i n σ' H' => n = xs.length - i ∧ i ≤ xs.length ∧ ∃ ι' ρ' μ', Gr ι1 H1 ι' H' ∧ Rep X.K ι' μ' H' ∧ Loc X.K ι' H' σ' ρ' ∧ I i ρ' μ', ⟨xs.length, by simp, Nat.zero_le _, ι1, ρ, m, Gr.refl _ _, r1, l.gr g1, h0⟩, ?_⟩
  rintro i n σ' H' ⟨rfl, hle, ι', ρ', μ', g', r', l', hI⟩
  by_cases hlt : i < xs.length
  · have hx : xs[i]? = some xs[i] := List.getElem?_eq_getElem hlt
    obtain ⟨w1, w2⟩ := wk.go ι' H' μ' i _ g' r' (hst i ρ' μ' hI) hx
    refine .inr ⟨w1, fun σ2 H2 => ∃ ι2 ρ2 μ2, Gr ι1 H1 ι2 H2 ∧ Rep X.K ι2 μ2 H2 ∧ Loc X.K ι2 H2 σ2 ρ2 ∧ I (i + 1) ρ2 μ2, fun σ2 H2 z => ⟨xs.length - (i + 1), by omega, rfl, hlt, z⟩, fun v H2 hy => ?_⟩
    obtain ⟨gy, ry, ay⟩ := w2 v H2 hy
    refine kk ι' H2 σ' ρ' μ' v _ _ ry (l'.gr gy) ay (hg.mono _ _ _ _ _ (fun ρ2 μ2 z => ?_) (ht i _ ρ' μ' hx hI))
    intro ι3 H3 σ3 g3 r3 l3
    have gg : Gr ι1 H1 ι3 H3 := (g'.trans gy).trans g3
    refine ⟨ι3, ρ2, μ2, r3, l3, hb.mono ρ2 μ2 _ _ ⟨fun ρ4 μ4 z ι4 H4 σ4 g4 r4 l4 => ⟨ι4, ρ4, μ4, gg.trans g4, r4, l4, z⟩, fun _ _ z => QV.gr (g1.trans gg) z, fun _ _ _ _ z => WV.gr (g1.trans gg) z,
      fun _ _ z => SV.gr (g1.trans gg) z, fun ρ4 μ4 z ι4 H4 σ4 g4 r4 l4 => ⟨ι4, ρ4, μ4, gg.trans g4, r4, l4, z⟩⟩ z⟩
  · have e : i = xs.length := by omega
    subst e
    exact .inl ⟨wk.stop ι' H' μ' _ g' r' (hst _ ρ' μ' hI) rfl, hd ρ' μ' hI ι' H' σ' (g1.trans g') r' l'⟩
end
end Dl

namespace Dl
open PySem PySem.Spec L2
open PyProof.Rows hiding St Binds

/-! ### attributes stored -/
def putD {κ : Type} [DecidableEq κ] (f : κ) (y : D) : List (κ × D) → List (κ × D)
  | [] => [(f, y)]
  | (g, z) :: r => if g = f then (g, y) :: r else (g, z) :: putD f y r
theorem Pts.put {K : PySem.W.Frag} {ι : Io} {H : Hp} {f : Str} {v : V} {d : D} (a : At K ι H v d) : ∀ {fv : List (Str × V)} {fd : List (Str × D)}, Pts K ι H fv fd → Pts K ι H (putF f v fv) (putD f d fd)
  | fv, [], p => by
    have e : fv = [] := by have := p.1; simpa using this
    subst e
    exact Pts.cons a Pts.nil
  | fv, (g, z) :: fd, p => by
    obtain ⟨w, fv', rfl, a1, p'⟩ := p.uncons
    unfold putF putD
    by_cases h : g = f
    · rw [if_pos h, if_pos h]; exact Pts.cons a p'
    · rw [if_neg h, if_neg h]; exact Pts.cons a1 (Pts.put a p')
/-! ### dicts by keys -/
def kD : D → Option Key
  | .int i => some (.inl i)
  | .str s => some (.inr s)
  | _ => none
def kOf : Key → D
  | .inl i => .int i
  | .inr s => .str s
def valD (kd : List (Key × D)) (k : Key) : Option D := (kd.find? fun q => decide (q.1 = k)).map (·.2)
def dropD (kd : List (Key × D)) (k : Key) : List (Key × D) := kd.filter fun q => decide (q.1 ≠ k)
/-- the key's place keeps, a new one comes last -/
def putKD (kd : List (Key × D)) (k : Key) (d : D) : List (Key × D) := if (kd.any fun q => decide (q.1 = k)) then kd.map (fun q => if q.1 = k then (q.1, d) else q) else kd ++ [(k, d)]
def OAt (K : PySem.W.Frag) (ι : Io) (H : Hp) : Option V → Option D → Prop
  | some v, some d => At K ι H v d
  | none, none => True
  | _, _ => False
section
variable {K : PySem.W.Frag} {ι : Io} {H : Hp} {kv : List (Key × V)} {kd : List (Key × D)} {k : Key}
theorem kD_at {v : V} {d : D} (a : At K ι H v d) (h : kD d = some k) : v = kV k := by
  cases a with
  | int i => cases Option.some.inj h; rfl
  | str i => cases Option.some.inj h; rfl
  | _ => cases h
theorem kOf_at : At K ι H (kV k) (kOf k) := by cases k <;> first | exact .int _ | exact .str _
theorem Pts.val : ∀ {kv : List (Key × V)} {kd : List (Key × D)}, Pts K ι H kv kd → OAt K ι H (valV kv k) (valD kd k)
  | kv, [], p => by
    have e : kv = [] := by have := p.1; simpa using this
    subst e
    exact True.intro
  | kv, (g, z) :: kd, p => by
    obtain ⟨w, kv', rfl, a1, p'⟩ := p.uncons
    unfold valV valD
    rw [List.find?_cons, List.find?_cons]
    by_cases h : g = k
    · simp only [h, decide_true]; exact a1
    · simp only [h, decide_false]; exact Pts.val p'
theorem Pts.drop : ∀ {kv : List (Key × V)} {kd : List (Key × D)}, Pts K ι H kv kd → Pts K ι H (dropK kv k) (dropD kd k)
  | kv, [], p => by
    have e : kv = [] := by have := p.1; simpa using this
    subst e
    exact Pts.nil
  | kv, (g, z) :: kd, p => by
    obtain ⟨w, kv', rfl, a1, p'⟩ := p.uncons
    unfold dropK dropD
    rw [List.filter_cons, List.filter_cons]
    by_cases h : g = k
    · simp only [h, ne_eq, not_true, decide_false, Bool.false_eq_true, if_false]; exact Pts.drop p'
    · simp only [h, ne_eq, not_false_eq_true, decide_true, if_true]; exact Pts.cons a1 (Pts.drop p')
theorem Pts.app {κ : Type} {kv kv' : List (κ × V)} {kd kd' : List (κ × D)} (p : Pts K ι H kv kd) (q : Pts K ι H kv' kd') : Pts K ι H (kv ++ kv') (kd ++ kd') := by
  have hl : kv.length = kd.length := by have := congrArg List.length p.1; simpa using this
  refine ⟨by simp [p.1, q.1], fun i x y h1 h2 => ?_⟩
  by_cases hi : i < kv.length
  · rw [List.getElem?_append_left hi] at h1
    rw [List.getElem?_append_left (by rw [← hl]; exact hi)] at h2
    exact p.2 i x y h1 h2
  · rw [List.getElem?_append_right (by omega)] at h1
    rw [List.getElem?_append_right (by rw [← hl]; omega), ← hl] at h2
    exact q.2 _ x y h1 h2
theorem Pts.any {kv : List (Key × V)} {kd : List (Key × D)} (p : Pts K ι H kv kd) : (kv.any fun q => decide (q.1 = k)) = (kd.any fun q => decide (q.1 = k)) := by
  have e1 : (kv.any fun q => decide (q.1 = k)) = ((kv.map (·.1)).any fun g => decide (g = k)) := by rw [List.any_map]; rfl
  have e2 : (kd.any fun q => decide (q.1 = k)) = ((kd.map (·.1)).any fun g => decide (g = k)) := by rw [List.any_map]; rfl
  rw [e1, e2, p.1]
theorem Pts.putK {v : V} {d : D} (a : At K ι H v d) (p : Pts K ι H kv kd) : Pts K ι H (L2.putK kv k v) (putKD kd k d) := by
  have e : L2.putK kv k v = if (kv.any fun q => decide (q.1 = k)) then kv.map (fun q => if q.1 = k then (q.1, v) else q) else kv ++ [(k, v)] := by
    unfold L2.putK; first | rfl | (split <;> simp_all)
  rw [e]
  unfold putKD
  rw [p.any]
  split
  · refine ⟨?_, fun i x y h1 h2 => ?_⟩
    · have q1 : (kv.map fun q => if q.1 = k then (q.1, v) else q).map (·.1) = kv.map (·.1) := by
        rw [List.map_map]; exact List.map_congr_left fun q _ => by simp only [Function.comp]; split <;> rfl
      have q2 : (kd.map fun q => if q.1 = k then (q.1, d) else q).map (·.1) = kd.map (·.1) := by
        rw [List.map_map]; exact List.map_congr_left fun q _ => by simp only [Function.comp]; split <;> rfl
      rw [q1, q2, p.1]
    · rw [List.getElem?_map, Option.map_eq_some_iff] at h1 h2
      obtain ⟨x', hx, rfl⟩ := h1
      obtain ⟨y', hy, rfl⟩ := h2
      have same : x'.1 = y'.1 := by
        have z := congrArg (fun l => l[i]?) p.1
        simp only [List.getElem?_map, hx, hy, Option.map_some] at z
        exact Option.some.inj z
      rw [same]
      split
      · exact a
      · exact p.2 i x' y' hx hy
  · exact p.app (Pts.cons a Pts.nil)
theorem Pts.length {κ : Type} {kv : List (κ × V)} {kd : List (κ × D)} (p : Pts K ι H kv kd) : kv.length = kd.length := by have := congrArg List.length p.1; simpa using this
end

section
variable {X : Cx} {W : WX} {a b c e o : Expr} {es : List Expr} {fa fb fc f fo fv : FE} {ft : FT} {fl : FA} {pos p apos cpos pos' : Pos} {σ : L2.St} {x : Str}
theorem PE.or {t t' : TE} (h : PE X e t) (h' : PE X e t') : PE X e (fun σ H Q => t σ H Q ∨ t' σ H Q) := ⟨fun pins s σ H Q I q => q.elim (h.run pins s σ H Q I) (h'.run pins s σ H Q I)⟩
theorem DE.or (h : DE X W e f) (h' : DE X W e fo) : DE X W e (fun ρ μ Q E => f ρ μ Q E ∨ fo ρ μ Q E) :=
  ⟨fun ρ μ Q Q' E E' hq he z => z.imp (h.mono _ _ _ _ _ _ hq he) (h'.mono _ _ _ _ _ _ hq he), PE.imp (PE.or h.run h'.run) fun σ H Q ⟨ι, ρ, μ, r, l, q⟩ => q.imp (fun q => ⟨ι, ρ, μ, r, l, q⟩) (fun q => ⟨ι, ρ, μ, r, l, q⟩)⟩
/-- o.f = e -/
def sStF (fn : Str) (K : PySem.W.Frag) (fv fo : FE) : FS := fun A ρ μ => fv ρ μ (fun y m1 => fo ρ m1 (fun d m2 => ∃ n C fd, d = .cell n ∧ m2[n]? = some (.ins C fd) ∧ Cls K C ∧ NoAttr K C fn ∧ fd.length < 1000 ∧
  A.nx ρ (m2.set n (.ins C (putD fn y fd)))) A.ex) A.ex
theorem ds_fld {fn : Str} (ho : DE X W o fo) (hv : DE X W e fv) (hs : swapsWith e (some (.Attribute o fn pos')) pos.line X.env = pure false := by rfl) {K : PySem.W.Frag} (hK : X.K = K := by rfl) : DS X W (.Assign [.Attribute o fn pos'] e pos) (sStF fn K fv fo) := by
  subst hK
  refine ⟨fun ρ μ A B h q => hv.mono ρ μ _ _ _ _ (fun y m z => ho.mono ρ m _ _ _ _ (fun d m2 ⟨n, C, fd, e1, e2, e3, e4, e5, z⟩ => ⟨n, C, fd, e1, e2, e3, e4, e5, h.nx _ _ z⟩) (fun _ _ _ z => h.ex _ _ _ _ z) z) (fun _ _ _ z => h.ex _ _ _ _ z) q,
    PS.imp (ps_fld ho.run hv.run hs) fun D σ H ⟨ι, ρ, μ, r, l, q⟩ => chS hv.mono rfl r l q fun y μ1 ι1 H1 v z g1 r1 l1 a1 => ?_⟩
  refine chS (De := D) (A := KV X.K W ι1 H1 D) ho.mono rfl r1 l1 (ho.mono ρ μ1 _ _ _ _ (fun _ _ z => z) (fun _ _ _ z => WV.gr g1 z) z) fun d μ2 ι2 H2 u z g2 r2 l2 a2 => ?_
  obtain ⟨n, C, fd, rfl, e2, e3, e4, e5, z⟩ := z
  cases a2 with
  | @cell a _ hn =>
    obtain ⟨dx, fv', h1, h2⟩ := r2.at_ n a _ hn e2
    refine ⟨a, C, dx, fv', rfl, h1, e3, e4, by rw [h2.length]; exact e5, ?_⟩
    have gc := Gr.chg (H := H2) (o := .ins C dx (putF fn v fv')) (List.mem_of_getElem? hn)
    exact z ι2 _ σ ((g1.trans g2).trans gc) (r2.chg hn ⟨dx, _, upd_same, Pts.put ((a1.gr g2).gr gc) (h2.gr gc)⟩) (l2.gr gc)

/-! ### subscripts -/
def ixD : G2 := fun x y μ Q => match x with
  | .str z => ∃ i c, y = .int i ∧ z.length ≤ sizeLine ∧ atI z.cps.toList i = some c ∧ Q (.str ⟨#[c]⟩) μ
  | x => ∃ ds i d, asS μ x = some ds ∧ y = .int i ∧ atI ds i = some d ∧ Q d μ
theorem ixD_mono : MonG ixD := fun x y μ Q Q' h q => by
  cases x with
  | str z => obtain ⟨i, c, e1, e2, e3, q⟩ := q; exact ⟨i, c, e1, e2, e3, h _ _ q⟩
  | _ => obtain ⟨i, c, e1, e2, e3, e4, q⟩ := q; exact ⟨i, c, e1, e2, e3, e4, h _ _ q⟩
theorem Ats.atI {K : PySem.W.Frag} {ι : Io} {H : Hp} {vs : List V} {ds : List D} {i : Int} {d : D} (r : Ats K ι H vs ds) (h : L2.atI ds i = some d) : ∃ v, L2.atI vs i = some v ∧ At K ι H v d := by
  unfold L2.atI at h ⊢
  rw [r.1]
  cases e : ixN ds.length i with
  | none => rw [e] at h; cases h
  | some j => rw [e] at h; exact r.get h
theorem de_ix (ha : DE X W a fa) (hb : DE X W b fb) (hs : PlainIx b := by exact fun _ _ => rfl) : DE X W (.Subscript a b pos) (fOp ixD fa fb) :=
  ⟨mOp ixD_mono ha.mono hb.mono, PE.imp (pe_ix ix_seq ha.run hb.run hs) fun σ H Q h => rdOp ixD_mono ha.mono hb.mono (fun ι H μ x y dx dy Q r a b q => by
    have seq : ∀ {ds i d}, asS μ dx = some ds → dy = .int i → atI ds i = some d → QV X.K ι H Q d μ → rIx X.K x y H Q := fun {ds i d} e1 e2 e3 qq => by
      subst e2
      cases b
      obtain ⟨p, vs, rfl, h1, h2⟩ := asS_at r a e1
      obtain ⟨v, e4, av⟩ := h2.atI e3
      have fin := qq ι H v (Gr.refl _ _) r av
      rcases h1 with h1 | h1
      · exact .inl ⟨p, vs, i, v, rfl, rfl, h1, e4, fin⟩
      · exact .inr (.inl ⟨p, vs, i, v, rfl, rfl, h1, e4, fin⟩)
    cases dx with
    | str z =>
      obtain ⟨i, c, rfl, e2, e3, q⟩ := q
      cases a; cases b
      exact .inr (.inr ⟨z, i, c, rfl, rfl, e2, e3, q ι H _ (Gr.refl _ _) r (.str _)⟩)
    | _ => obtain ⟨ds, i, d, e1, e2, e3, q⟩ := q; exact seq e1 e2 e3 q) h⟩
/-- d[k] -/
def dgD : G2 := fun x y μ Q => ∃ kd k d, asD μ x = some kd ∧ kD y = some k ∧ valD kd k = some d ∧ Q d μ
theorem dgD_mono : MonG dgD := fun x y μ Q Q' h ⟨kd, k, d, e1, e2, e3, q⟩ => ⟨kd, k, d, e1, e2, e3, h _ _ q⟩
theorem dget_of {K : PySem.W.Frag} {ι : Io} {H : Hp} {μ : Sto} {vx vy : V} {dx dy : D} {kd : List (Key × D)} {k : Key} (r : Rep K ι μ H) (a : At K ι H vx dx) (b : At K ι H vy dy) (e1 : asD μ dx = some kd) (e2 : kD dy = some k) :
    ∃ p kv, vx = .ref p ∧ Pts K ι H kv kd ∧ Rd H p (.dK kv) ∧ DGet H p vy (valV kv k) ∧ OAt K ι H (valV kv k) (valD kd k) := by
  obtain ⟨p, kv, rfl, h1, h2⟩ := asD_at r a e1
  exact ⟨p, kv, rfl, h2, h1, .inl ⟨kv, k, h1, kD_at b e2, rfl⟩, h2.val⟩
theorem de_dget (hu : X.A.units + 1 < cLine) (ha : DE X W a fa) (hb : DE X W b fb) (hs : NoSl b := by rfl) : DE X W (.Subscript a b pos) (fOp dgD fa fb) :=
  ⟨mOp dgD_mono ha.mono hb.mono, PE.imp (pe_dget hu ha.run hb.run hs) fun σ H Q h => rdOp (r := fun x y H2 Q => ∃ a v, x = .ref a ∧ DGet H2 a y (some v) ∧ Q v H2) dgD_mono ha.mono hb.mono (fun ι H μ x y dx dy Q r a b ⟨kd, k, d, e1, e2, e3, q⟩ => by
    obtain ⟨p, kv, rfl, _, _, g, oa⟩ := dget_of r a b e1 e2
    rw [e3] at oa
    cases ev : valV kv k with
    | none => rw [ev] at oa; exact oa.elim
    | some v => rw [ev] at oa g; exact ⟨p, v, rfl, g, q ι H v (Gr.refl _ _) r oa⟩) h⟩
/-- d.get(k), d.get(k, x) -/
def fDGet (fo fa fb : FE) : FE := fun ρ μ Q E => fo ρ μ (fun x m1 => ∃ kd1, asD m1 x = some kd1 ∧ fa ρ m1 (fun y m2 => fb ρ m2 (fun z m3 => ∃ kd k, asD m3 x = some kd ∧ kD y = some k ∧ Q ((valD kd k).getD z) m3) E) E) E
theorem mDGet (mo : MonE fo) (ma : MonE fa) (mb : MonE fb) : MonE (fDGet fo fa fb) := fun ρ μ Q Q' E E' h he q => mo ρ μ _ _ E E' (fun x m1 ⟨kd1, e, z⟩ => ⟨kd1, e, ma ρ m1 _ _ E E' (fun y m2 z => mb ρ m2 _ _ E E' (fun w m3 ⟨kd, k, e1, e2, z⟩ => ⟨kd, k, e1, e2, h _ _ z⟩) he z) he z⟩) he q
theorem OAt.getD {K : PySem.W.Frag} {ι : Io} {H : Hp} {v : Option V} {d : Option D} {v0 : V} {d0 : D} (h : OAt K ι H v d) (a : At K ι H v0 d0) : At K ι H (v.getD v0) (d.getD d0) := by
  cases v <;> cases d <;> first | exact a | exact h | exact h.elim
theorem isD_of {H : Hp} {p : Addr} {kv : List (Key × V)} (h : Rd H p (.dK kv)) : IsD H p := .inl ⟨kv, h⟩
theorem de_get2 (hu : X.A.units + 1 < cLine) (ho : DE X W o fo) (ha : DE X W a fa) (hb : DE X W b fb) (m : M2 X o "get" apos a b cpos := by exact ⟨rfl, rfl, rfl, rfl⟩) :
    DE X W (.Call (.Attribute o "get" apos) [a, b] [] cpos) (fDGet fo fa fb) :=
  ⟨mDGet ho.mono ha.mono hb.mono, PE.imp (pe_dget2 hu ho.run ha.run hb.run m) fun σ H Q ⟨ι, ρ, μ, r, l, q⟩ => chain1 ho.mono r l q fun x μ1 ι1 H1 v z g1 r1 l1 a1 => by
    obtain ⟨kd1, e, z⟩ := z
    obtain ⟨p, kv1, rfl, h1, _⟩ := asD_at r1 a1 e
    refine ⟨p, rfl, isD_of h1, chain1 ha.mono r1 l1 (ha.mono ρ μ1 _ _ _ _ (fun _ _ z => z) (fun _ _ _ z => EW.gr g1 z) z) fun y μ2 ι2 H2 u z g2 r2 l2 a2 => ?_⟩
    refine chain1 hb.mono r2 l2 (hb.mono ρ μ2 _ _ _ _ (fun _ _ z => z) (fun _ _ _ z => EW.gr (g1.trans g2) z) z) fun w μ3 ι3 H3 t z g3 r3 l3 a3 => ?_
    obtain ⟨kd, k, e1, e2, z⟩ := z
    obtain ⟨p', kv, ep, _, _, g, oa⟩ := dget_of r3 ((a1.gr g2).gr g3) (a2.gr g3) e1 e2
    cases ep
    exact ⟨_, g, z ι3 H3 _ ((g1.trans g2).trans g3) r3 (oa.getD a3)⟩⟩
/-- d[k] = v, d a cell -/
def sDPutD (fv fo fa : FE) : FS := fun A ρ μ => fv ρ μ (fun v m1 => fo ρ m1 (fun x m2 => fa ρ m2 (fun y m3 => ∃ n kd k, x = .cell n ∧ m3[n]? = some (.dct kd) ∧ kD y = some k ∧ kd.length < sizeLine ∧
  A.nx ρ (m3.set n (.dct (putKD kd k v)))) A.ex) A.ex) A.ex
theorem ds_dput (hu : X.A.units + 1 < cLine) (ho : DE X W o fo) (ha : DE X W a fa) (hv : DE X W e fv) (hs : swapsWith e (some (.Subscript o a pos')) pos.line X.env = pure false := by rfl) :
    DS X W (.Assign [.Subscript o a pos'] e pos) (sDPutD fv fo fa) := by
  refine ⟨fun ρ μ A B h q => hv.mono ρ μ _ _ _ _ (fun v m1 z => ho.mono ρ m1 _ _ _ _ (fun x m2 z => ha.mono ρ m2 _ _ _ _ (fun y m3 ⟨n, kd, k, e1, e2, e3, e4, z⟩ => ⟨n, kd, k, e1, e2, e3, e4, h.nx _ _ z⟩) (fun _ _ _ z => h.ex _ _ _ _ z) z) (fun _ _ _ z => h.ex _ _ _ _ z) z) (fun _ _ _ z => h.ex _ _ _ _ z) q,
    PS.imp (ps_dput hu ho.run ha.run hv.run hs) fun D σ H ⟨ι, ρ, μ, r, l, q⟩ => chS hv.mono rfl r l q fun y μ1 ι1 H1 v z g1 r1 l1 a1 => ?_⟩
  refine chS (De := D) (A := KV X.K W ι1 H1 D) ho.mono rfl r1 l1 (ho.mono ρ μ1 _ _ _ _ (fun _ _ z => z) (fun _ _ _ z => WV.gr g1 z) z) fun x μ2 ι2 H2 u z g2 r2 l2 a2 => ?_
  refine chS (De := D) (A := KV X.K W ι2 H2 D) ha.mono rfl r2 l2 (ha.mono ρ μ2 _ _ _ _ (fun _ _ z => z) (fun _ _ _ z => WV.gr (g1.trans g2) z) z) fun w μ3 ι3 H3 t z g3 r3 l3 a3 => ?_
  obtain ⟨n, kd, k, rfl, e2, e3, e4, z⟩ := z
  have a2' := a2.gr g3
  cases a2' with
  | @cell a _ hn =>
    obtain ⟨kv, h1, h2⟩ := r3.at_ n a _ hn e2
    refine ⟨a, _, (by cases a2; rename_i h; exact congrArg V.ref (Option.some.inj ((g3.pre _ _ h).symm.trans hn))), .inl ⟨kv, k, h1, kD_at a3 e3, by rw [h2.length]; exact e4, rfl⟩, ?_⟩
    have gc := Gr.chg (H := H3) (o := .dK (L2.putK kv k v)) (List.mem_of_getElem? hn)
    exact z ι3 _ σ (((g1.trans g2).trans g3).trans gc) (r3.chg hn ⟨_, upd_same, Pts.putK (((a1.gr g2).gr g3).gr gc) (h2.gr gc)⟩) (l3.gr gc)

/-! ### x in a list or a tuple of flat things -/
def flatD : D → Bool
  | .non => true
  | .bl _ => true
  | .int _ => true
  | .str _ => true
  | _ => false
def eqDD : D → D → Bool
  | .non, .non => true
  | .bl a, .bl b => a == b
  | .bl a, .int b => (if a then 1 else 0) == b
  | .int a, .bl b => a == (if b then 1 else 0)
  | .int a, .int b => a == b
  | .str a, .str b => a == b
  | _, _ => false
def inDD (x : D) (ds : List D) : Bool := ds.any fun y => eqDD y x
theorem flat_at {K : PySem.W.Frag} {ι : Io} {H : Hp} {v : V} {d : D} (a : At K ι H v d) (h : flatD d = true) : flatV v = true := by cases a <;> first | rfl | cases h
theorem eq_at {K : PySem.W.Frag} {ι : Io} {H : Hp} {v u : V} {d c : D} (a : At K ι H v d) (b : At K ι H u c) (h : flatD d = true) (h' : flatD c = true) : eqV v u = eqDD d c := by
  cases a <;> first | cases h | skip
  all_goals (cases b <;> first | rfl | cases h')
theorem Ats.flat {K : PySem.W.Frag} {ι : Io} {H : Hp} : ∀ {vs : List V} {ds : List D}, Ats K ι H vs ds → ds.all flatD = true → vs.all flatV = true ∧ ∀ {u c}, At K ι H u c → flatD c = true → inV u vs = inDD c ds
  | vs, [], r, _ => by cases Ats.unnil r; exact ⟨rfl, fun _ _ => rfl⟩
  | vs, d :: ds, r, h => by
    obtain ⟨v, vs', rfl, a1, r'⟩ := r.uncons
    rw [List.all_cons, Bool.and_eq_true] at h
    obtain ⟨i1, i2⟩ := Ats.flat r' h.2
    refine ⟨by rw [List.all_cons, flat_at a1 h.1, i1]; rfl, fun {u c} au hc => ?_⟩
    unfold inV inDD
    rw [List.any_cons, List.any_cons, eq_at a1 au h.1 hc]
    exact congrArg _ (i2 au hc)
def inD (neg : Bool) : G2 := fun x y μ Q => ∃ ds, asS μ y = some ds ∧ flatD x = true ∧ ds.all flatD = true ∧ Q (.bl (if neg then !inDD x ds else inDD x ds)) μ
theorem inD_mono {neg : Bool} : MonG (inD neg) := fun x y μ Q Q' h ⟨ds, e1, e2, e3, q⟩ => ⟨ds, e1, e2, e3, h _ _ q⟩
theorem inD_run {neg : Bool} : ∀ ι H μ x y dx dy Q, Rep X.K ι μ H → At X.K ι H x dx → At X.K ι H y dy → inD neg dx dy μ (QV X.K ι H Q) → rIn X.K neg x y H Q := fun ι H μ x y dx dy Q r a b ⟨ds, e1, e2, e3, q⟩ => by
  obtain ⟨p, vs, rfl, h1, h2⟩ := asS_at r b e1
  obtain ⟨i1, i2⟩ := h2.flat e3
  exact ⟨p, vs, rfl, h1, flat_at a e2, i1, by rw [i2 a e2]; exact q ι H _ (Gr.refl _ _) r (.bl _)⟩
theorem opd_in : OpD X (compareOp .In) (inD false) := ⟨inD_mono, _, op_in_seq, inD_run⟩
theorem opd_notin : OpD X (compareOp .NotIn) (inD true) := ⟨inD_mono, _, op_notIn_seq, inD_run⟩
/-- x is None -/
def isNonD : D → Bool
  | .non => true
  | _ => false
def isND (neg : Bool) : G2 := fun x y μ Q => y = .non ∧ Q (.bl (if neg then !isNonD x else isNonD x)) μ
theorem non_at {K : PySem.W.Frag} {ι : Io} {H : Hp} {v : V} {d : D} (a : At K ι H v d) : decide (v = .non) = isNonD d := by cases a <;> rfl
theorem opd_isN : OpD X (compareOp .Is) (isND false) := ⟨fun x y μ Q Q' h ⟨e, q⟩ => ⟨e, h _ _ q⟩, _, op_isN, fun ι H μ x y dx dy Q r a b ⟨e, q⟩ => by
  subst e; cases b; exact ⟨rfl, by rw [non_at a]; exact q ι H _ (Gr.refl _ _) r (.bl _)⟩⟩
theorem opd_notN : OpD X (compareOp .IsNot) (isND true) := ⟨fun x y μ Q Q' h ⟨e, q⟩ => ⟨e, h _ _ q⟩, _, op_notN, fun ι H μ x y dx dy Q r a b ⟨e, q⟩ => by
  subst e; cases b; exact ⟨rfl, by rw [non_at a]; exact q ι H _ (Gr.refl _ _) r (.bl _)⟩⟩
/-- a < b < c -/
def fChain (g g' : G2) (fa fb fc : FE) : FE := fun ρ μ Q E => fa ρ μ (fun x m1 => fb ρ m1 (fun y m2 => g x y m2 (fun z m3 => ∃ k, z = .bl k ∧ if k = true then fc ρ m3 (fun w m4 => g' y w m4 Q) E else Q (.bl false) m3)) E) E
theorem mChain {g g' : G2} (mg : MonG g) (mg' : MonG g') (ma : MonE fa) (mb : MonE fb) (mc : MonE fc) : MonE (fChain g g' fa fb fc) := fun ρ μ Q Q' E E' h he q =>
  ma ρ μ _ _ E E' (fun x m1 z => mb ρ m1 _ _ E E' (fun y m2 z => mg x y m2 _ _ (fun d m3 ⟨k, e, z⟩ => ⟨k, e, by
    cases k with
    | true => exact mc ρ m3 _ _ E E' (fun w m4 z => mg' y w m4 _ _ h z) he z
    | false => exact h _ _ z⟩) z) he z) he q
theorem de_chain {op op' : CmpOp} {g g' : G2} (o1 : OpD X (compareOp op) g) (o2 : OpD X (compareOp op') g') (ha : DE X W a fa) (hb : DE X W b fb) (hc : DE X W c fc) (hm : lastMarks [op, op'] [b, c] = false := by rfl) : DE X W (.Compare a [op, op'] [b, c] pos) (fChain g g' fa fb fc) := by
  obtain ⟨r1, p1, k1⟩ := o1.run
  obtain ⟨r2, p2, k2⟩ := o2.run
  refine ⟨mChain o1.mono o2.mono ha.mono hb.mono hc.mono, PE.imp (pe_chain p1 p2 ha.run hb.run hc.run hm) fun σ H Q ⟨ι, ρ, μ, r, l, q⟩ => chain1 ha.mono r l q fun x μ1 ι1 H1 v z g1 r1 l1 a1 => ?_⟩
  refine chain1 hb.mono r1 l1 (hb.mono ρ μ1 _ _ _ _ (fun _ _ z => z) (fun _ _ _ z => EW.gr g1 z) z) fun y μ2 ι2 H2 u z g2 r2 l2 a2 => ?_
  refine k1 ι2 H2 μ2 v u x y _ r2 (a1.gr g2) a2 (o1.mono _ _ _ _ _ (fun d m3 z => ?_) z)
  intro ι3 H3 t g3 r3 a3
  obtain ⟨k, rfl, z⟩ := z
  cases a3
  refine ⟨k, rfl, ?_⟩
  have gg := (g1.trans g2).trans g3
  cases k with
  | true =>
    refine chain1 hc.mono r3 (l2.gr g3) (hc.mono ρ m3 _ _ _ _ (fun _ _ z => z) (fun _ _ _ z => EW.gr gg z) z) fun w μ4 ι4 H4 s z g4 r4 l4 a4 => ?_
    exact k2 ι4 H4 μ4 u s y w Q r4 ((a2.gr g3).gr g4) a4 (o2.mono _ _ _ _ _ (fun d m z => QV.gr (gg.trans g4) z) z)
  | false => exact z ι3 H3 _ gg r3 (.bl _)

/-! ### calls of builtins by values -/
abbrev GC := List D → Sto → QD → Prop
def MonC (g : GC) : Prop := ∀ xs μ (Q Q' : QD), (∀ d m, Q d m → Q' d m) → g xs μ Q → g xs μ Q'
structure CaD (X : Cx) (f : Value) (g : GC) : Prop where
  mono : MonC g
  run : ∃ r, CallR X f r ∧ ∀ ι H μ vs ds Q, Rep X.K ι μ H → Ats X.K ι H vs ds → g ds μ (QV X.K ι H Q) → r vs H Q
def fCB (g : GC) (fl : FA) : FE := fun ρ μ Q E => fl ρ μ (fun ds m => g ds m Q) E
theorem mCB {g : GC} (mg : MonC g) (m : MonA fl) : MonE (fCB g fl) := fun ρ μ Q Q' E E' h he q => m ρ μ _ _ E E' (fun ds mm z => mg ds mm Q Q' h z) he q
theorem rdCB {g : GC} {r : List V → Hp → VK → Prop} (mg : MonC g) (m : MonA fl) (k : ∀ ι H μ vs ds Q, Rep X.K ι μ H → Ats X.K ι H vs ds → g ds μ (QV X.K ι H Q) → r vs H Q) {H : Hp} {Q : VK} (h : rdE X.K W (fCB g fl) σ H Q) : tCB r (rdA X.K W fl) σ H Q := by
  obtain ⟨ι, ρ, μ, rp, l, q⟩ := h
  exact chainA m rp l q fun ds μ1 ι1 H1 vs z g1 r1 l1 a1 => k ι1 H1 μ1 vs ds Q r1 a1 (mg _ _ _ _ (fun d m z => QV.gr g1 z) z)
theorem de_callB {id : String} {g : GC} (c : CaD X (.builtin id) g) (hg : Gl X x) (hm : X.mg x = none) (hv : bootBuiltins x = some (.builtin id)) (ha : DA X W (e :: es) fl) (hn : x ≠ "__name__" := by decide) (hdb : (x == ("__debug__" : Str)) = false := by decide)
    (he : starEach (e :: es) X.env = (false, eval e X.env) :: starEach es X.env := by rfl) (hpl : (backTo pos (starEach es X.env)).any (·.1) = false := by rfl) : DE X W (.Call (.Name x p) (e :: es) [] pos) (fCB g fl) := by
  obtain ⟨r, cr, k⟩ := c.run
  exact ⟨mCB c.mono ha.mono, PE.imp (pe_callB cr hg hm hv ha.run hn hdb he hpl) fun σ H Q h => rdCB c.mono ha.mono k h⟩
theorem de_callTy {T : String} {g : GC} (c : CaD X (.type T) g) (hg : Gl X x) (hm : X.mg x = none) (hv : bootBuiltins x = some (.type T)) (ha : DA X W (e :: es) fl) (hn : x ≠ "__name__" := by decide) (hdb : (x == ("__debug__" : Str)) = false := by decide)
    (he : starEach (e :: es) X.env = (false, eval e X.env) :: starEach es X.env := by rfl) (hpl : (backTo pos (starEach es X.env)).any (·.1) = false := by rfl) : DE X W (.Call (.Name x p) (e :: es) [] pos) (fCB g fl) := by
  obtain ⟨r, cr, k⟩ := c.run
  exact ⟨mCB c.mono ha.mono, PE.imp (pe_callTy cr hg hm hv ha.run hn hdb he hpl) fun σ H Q h => rdCB c.mono ha.mono k h⟩
theorem CaD.or {f : Value} {g g' : GC} (h : CaD X f g) (h' : CaD X f g') : CaD X f (fun xs μ Q => g xs μ Q ∨ g' xs μ Q) := by
  obtain ⟨r, o, k⟩ := h.run
  obtain ⟨r', o', k'⟩ := h'.run
  refine ⟨fun xs μ Q Q' m q => q.imp (h.mono xs μ Q Q' m) (h'.mono xs μ Q Q' m), fun xs H Q => r xs H Q ∨ r' xs H Q, fun pins s σ H xs us Q I rx q => ?_, fun ι H μ vs ds Q r a q => q.imp (k ι H μ vs ds Q r a) (k' ι H μ vs ds Q r a)⟩
  exact q.elim (o pins s σ H xs us Q I rx) (o' pins s σ H xs us Q I rx)
theorem Ats.one {K : PySem.W.Frag} {ι : Io} {H : Hp} {vs : List V} {d : D} (r : Ats K ι H vs [d]) : ∃ v, vs = [v] ∧ At K ι H v d := by
  obtain ⟨v, vs', rfl, a, r'⟩ := r.uncons
  cases Ats.unnil r'
  exact ⟨v, rfl, a⟩
theorem cad_len : CaD X (.builtin "len") (fun xs μ Q => (∃ s, xs = [.str s] ∧ s.length ≤ sizeLine ∧ Q (.int s.length) μ) ∨ (∃ d ds, xs = [d] ∧ asS μ d = some ds ∧ Q (.int ds.length) μ)) :=
  ⟨fun xs μ Q Q' h q => q.imp (fun ⟨s, e, e2, q⟩ => ⟨s, e, e2, h _ _ q⟩) (fun ⟨d, ds, e, e2, q⟩ => ⟨d, ds, e, e2, h _ _ q⟩), _, call_len, fun ι H μ vs ds Q r a q => by
    rcases q with ⟨s, rfl, e2, q⟩ | ⟨d, xs, rfl, e2, q⟩
    · obtain ⟨v, rfl, a1⟩ := a.one
      cases a1
      exact ⟨_, s.length, rfl, show s.length ≤ sizeLine ∧ s.length = s.length from ⟨e2, rfl⟩, q ι H _ (Gr.refl _ _) r (.int _)⟩
    · obtain ⟨v, rfl, a1⟩ := a.one
      obtain ⟨p, vs, rfl, h1, h2⟩ := asS_at r a1 e2
      refine ⟨_, xs.length, rfl, ?_, q ι H _ (Gr.refl _ _) r (.int _)⟩
      rcases h1 with h1 | h1
      · exact .inl ⟨vs, h1, h2.1.symm⟩
      · exact .inr ⟨vs, h1, h2.1.symm⟩⟩
/-- list(x) of a list, a tuple; of a dict -/
theorem cad_list : CaD X (.type "list") (fun xs μ Q => ∃ d ds, xs = [d] ∧ asS μ d = some ds ∧ gNewL ds μ Q) :=
  ⟨fun xs μ Q Q' h ⟨d, ds, e, e2, q⟩ => ⟨d, ds, e, e2, gNewL_mono h q⟩, _, call_list_of, fun ι H μ vs ds Q r a ⟨d, xs, e, e2, q⟩ => by
    subst e
    obtain ⟨v, rfl, a1⟩ := a.one
    obtain ⟨p, vs, rfl, h1, h2⟩ := asS_at r a1 e2
    exact ⟨p, vs, rfl, h1, fun l hl => newL_ok r h2 q l hl⟩⟩
theorem Pts.keys {K : PySem.W.Frag} {ι : Io} {H : Hp} {kv : List (Key × V)} {kd : List (Key × D)} (p : Pts K ι H kv kd) : Ats K ι H (kv.map fun q => kV q.1) (kd.map fun q => kOf q.1) := by
  refine ⟨by simp [p.length], fun i v d h1 h2 => ?_⟩
  rw [List.getElem?_map, Option.map_eq_some_iff] at h1 h2
  obtain ⟨x, hx, rfl⟩ := h1
  obtain ⟨y, hy, rfl⟩ := h2
  have z := congrArg (fun l => l[i]?) p.1
  simp only [List.getElem?_map, hx, hy, Option.map_some] at z
  rw [Option.some.inj z]
  exact kOf_at
/-- a new dict: data, or a cell -/
def gNewD (kd : List (Key × D)) (μ : Sto) (Q : QD) : Prop := Q (.dct kd) μ ∨ Q (.cell μ.length) (μ ++ [.dct kd])
theorem gNewD_mono {kd : List (Key × D)} {μ : Sto} {Q Q' : QD} (h : ∀ d m, Q d m → Q' d m) (q : gNewD kd μ Q) : gNewD kd μ Q' := q.imp (h _ _) (h _ _)
theorem newD_ok {K : PySem.W.Frag} {ι : Io} {H : Hp} {μ : Sto} {kv : List (Key × V)} {kd : List (Key × D)} {Q : VK} (r : Rep K ι μ H) (a : Pts K ι H kv kd) (q : gNewD kd μ (QV K ι H Q)) (p : Addr) (h : H p = none) : Q (.ref p) (upd H p (.dK kv)) := by
  have n := r.free h
  rcases q with q | q
  · have g := Gr.new (o := .dK kv) h n
    exact q ι _ _ g (r.new h) (.dct (.inl upd_same) n a.1 fun i x y e1 e2 => (a.2 i x y e1 e2).gr g)
  · have g := Gr.cellNew (o := .dK kv) h n
    exact q _ _ _ g (r.cellNew h ⟨kv, upd_same, a.gr g⟩) (.cell (by rw [List.getElem?_append_right (by rw [r.len]; exact Nat.le_refl _), r.len, Nat.sub_self]; rfl))
theorem cad_dictD : CaD X (.type "dict") (fun xs μ Q => ∃ d kd, xs = [d] ∧ asD μ d = some kd ∧ gNewD kd μ Q) :=
  ⟨fun xs μ Q Q' h ⟨d, ds, e, e2, q⟩ => ⟨d, ds, e, e2, gNewD_mono h q⟩, _, call_dictD, fun ι H μ vs ds Q r a ⟨d, kd, e, e2, q⟩ => by
    subst e
    obtain ⟨v, rfl, a1⟩ := a.one
    obtain ⟨p, kv, rfl, h1, h2⟩ := asD_at r a1 e2
    exact ⟨p, kv, rfl, h1, fun l hl => newD_ok r h2 q l hl⟩⟩
/-- {} -/
def fDict0 : FE := fun _ μ Q _ => gNewD [] μ Q
theorem de_dict0 : DE X W (.Dict [] [] pos) fDict0 := ⟨fun ρ μ Q Q' E E' h _ q => gNewD_mono h q, PE.imp pe_dnewK fun σ H Q ⟨ι, ρ, μ, r, l, q⟩ => fun p hp => newD_ok r Pts.nil q p hp⟩
end
end Dl

namespace Dl
open PySem PySem.Spec L2
open PyProof.Rows hiding St Binds

def NE : ED := fun _ _ _ _ => False
section
variable {K : PySem.W.Frag} {ι : Io} {H : Hp} {vs : List V} {ds : List D}
theorem NE.ew {W : WX} {σ : L2.St} {c : Value} {l : List (Str × D)} {ρ : Rho} {m : Sto} (h : NE c l ρ m) : EW K ι H W σ c l ρ m := h.elim
theorem Ats.set {v : V} {d : D} (r : Ats K ι H vs ds) (a : At K ι H v d) (j : Nat) : Ats K ι H (vs.set j v) (ds.set j d) := by
  refine ⟨by simp [r.1], fun i x y h1 h2 => ?_⟩
  by_cases hj : j = i
  · subst hj
    have l1 : j < vs.length := by have := (List.getElem?_eq_some_iff.mp h1).1; simpa using this
    rw [List.getElem?_set_self l1] at h1
    rw [List.getElem?_set_self (by rw [← r.1]; exact l1)] at h2
    cases h1; cases h2; exact a
  · rw [List.getElem?_set_ne hj] at h1 h2
    exact r.2 i x y h1 h2
theorem Ats.erase (r : Ats K ι H vs ds) (j : Nat) : Ats K ι H (vs.eraseIdx j) (ds.eraseIdx j) := by
  refine ⟨by simp [List.length_eraseIdx, r.1], fun i x y h1 h2 => ?_⟩
  rw [List.getElem?_eraseIdx] at h1 h2
  split at h1
  · rename_i hh
    rw [if_pos hh] at h2
    exact r.2 i x y h1 h2
  · rename_i hh
    rw [if_neg hh] at h2
    exact r.2 _ x y h1 h2
theorem Ats.drop (r : Ats K ι H vs ds) (n : Nat) : Ats K ι H (vs.drop n) (ds.drop n) := by
  refine ⟨by simp [r.1], fun i x y h1 h2 => ?_⟩
  rw [List.getElem?_drop] at h1 h2
  exact r.2 _ x y h1 h2
theorem Ats.take (r : Ats K ι H vs ds) (n : Nat) : Ats K ι H (vs.take n) (ds.take n) := by
  refine ⟨by simp [r.1], fun i x y h1 h2 => ?_⟩
  rw [List.getElem?_take] at h1 h2
  split at h1
  · rename_i hh
    rw [if_pos hh] at h2
    exact r.2 i x y h1 h2
  · cases h1
theorem Ats.last (r : Ats K ι H vs ds) : Ats K ι H vs.dropLast ds.dropLast := by
  rw [List.dropLast_eq_take, List.dropLast_eq_take, r.1]
  exact r.take _
end

section
variable {X : Cx} {W : WX} {a b c e o i : Expr} {es : List Expr} {fa fb fc f fo fi fv : FE} {ft : FT} {fl : FA} {pos p apos cpos pos' : Pos} {σ : L2.St} {x : Str}

/-! ### o[i] = v, o a cell with a list -/
def tgIxL (fo fi : FE) : FG := fun v ρ μ N => fo ρ μ (fun x m1 => fi ρ m1 (fun y m2 => ∃ n ds k j, x = .cell n ∧ m2[n]? = some (.lst ds) ∧ y = .int k ∧ ixN ds.length k = some j ∧ N ρ (m2.set n (.lst (ds.set j v)))) NE) NE
theorem mIxL (mo : MonE fo) (mi : MonE fi) : MonTg (tgIxL fo fi) := fun v ρ μ N N' h q => mo ρ μ _ _ _ _ (fun x m1 z => mi ρ m1 _ _ _ _ (fun y m2 ⟨n, ds, k, j, e1, e2, e3, e4, z⟩ => ⟨n, ds, k, j, e1, e2, e3, e4, h _ _ z⟩) (fun _ _ _ z => z) z) (fun _ _ _ z => z) q
theorem dg_ixL (ho : DE X W o fo) (hi : DE X W i fi)
    (ha : ∀ v, assign (.Subscript o i pos) X.env v = (do
      let ov ← holding [v] (eval o X.env)
      let iv ← holding [v, ov] (eval i X.env)
      standAt pos
      holding [v, ov, iv] (setItem ov iv v)
      release [v, ov, iv] []) := by intro _; rfl) : DG X (.Subscript o i pos) (tgIxL fo fi) := by
  refine ⟨mIxL ho.mono hi.mono, _, pg_sub ho.run hi.run set_list ha, fun ι H σ ρ μ v d N r l a q => ?_⟩
  refine chain1 ho.mono r l (ho.mono ρ μ _ _ _ _ (fun _ _ z => z) (fun _ _ _ z => NE.ew z) q) fun x μ1 ι1 H1 u q1 g1 r1 l1 a1 => ?_
  refine chain1 hi.mono r1 l1 (hi.mono ρ μ1 _ _ _ _ (fun _ _ z => z) (fun _ _ _ z => NE.ew z) q1) fun y μ2 ι2 H2 w q2 g2 r2 l2 a2 => ?_
  obtain ⟨n, ds, k, j, rfl, e2, rfl, e4, z⟩ := q2
  have a1' := a1.gr g2
  cases a2
  cases a1 with
  | @cell p _ hn0 =>
    have hn := g2.pre _ _ hn0
    obtain ⟨vs, h1, h2⟩ := r2.at_ n p _ hn e2
    have gc := Gr.chg (H := H2) (o := .lst (vs.set j v)) (List.mem_of_getElem? hn)
    exact ⟨p, vs, k, j, rfl, rfl, h1, by rw [h2.1]; exact e4, z ι2 _ σ ((g1.trans g2).trans gc) (r2.chg hn ⟨_, upd_same, ((h2.gr gc).set (((a.gr g1).gr g2).gr gc) j)⟩) (l2.gr gc)⟩

/-! ### methods of lists -/
abbrev GM := D → List D → Sto → QD → Prop
def MonM (g : GM) : Prop := ∀ x ds μ (Q Q' : QD), (∀ d m, Q d m → Q' d m) → g x ds μ Q → g x ds μ Q'
structure MtD (X : Cx) (id : String) (g : GM) : Prop where
  mono : MonM g
  run : ∃ r, MtR X id r ∧ ∀ ι H μ x vs dx ds Q, Rep X.K ι μ H → At X.K ι H x dx → Ats X.K ι H vs ds → g dx ds μ (QV X.K ι H Q) → r x vs H Q
def fBL (g : GM) (fo : FE) (fl : FA) : FE := fun ρ μ Q E => fo ρ μ (fun x m1 => (∃ ds, asL m1 x = some ds) ∧ fl ρ m1 (fun ds m2 => g x ds m2 Q) E) E
theorem mBL {g : GM} (mg : MonM g) (mo : MonE fo) (ml : MonA fl) : MonE (fBL g fo fl) := fun ρ μ Q Q' E E' h he q =>
  mo ρ μ _ _ E E' (fun x m1 ⟨e, z⟩ => ⟨e, ml ρ m1 _ _ E E' (fun ds m2 z => mg x ds m2 _ _ h z) he z⟩) he q
theorem de_bmL {g : GM} {id : String} {name : Str} (pa : PlainAttrs "list") (slot : Slot "list" name id) (hty : typeOf (.builtin id) = pure (.type "method_descriptor")) (hm : MtD X id g) (ho : DE X W o fo) (ha : DA X W (e :: es) fl)
    (hbase : attributeBase o name X.env (eval o X.env) = eval o X.env := by rfl)
    (hfew : ((backTo cpos (starEach (e :: es) X.env)).all (fun x => !x.1) && (backToKw cpos (keywordEach [] X.env)).all (fun x => x.1.isSome)
      && decide ((e :: es).length + ([] : List Keyword).length + (if ([] : List Keyword).isEmpty then 0 else 1) < 30)) = true := by rfl)
    (hline : (apos.endLine == cpos.line) = true := by rfl) (hs : starEach (e :: es) X.env = (false, eval e X.env) :: starEach es X.env := by rfl) (hplain : (backTo cpos (starEach es X.env)).any (·.1) = false := by rfl) :
    DE X W (.Call (.Attribute o name apos) (e :: es) [] cpos) (fBL g fo fl) := by
  obtain ⟨r, hr, k⟩ := hm.run
  refine ⟨mBL hm.mono ho.mono ha.mono, PE.imp (pe_bm pa slot hty hr ho.run ha.run hbase hfew hline hs hplain) fun σ H Q ⟨ι, ρ, μ, rp, l, q⟩ => chain1 ho.mono rp l q fun x μ1 ι1 H1 v q1 g1 r1 l1 a1 => ?_⟩
  obtain ⟨⟨ds0, e0⟩, z⟩ := q1
  obtain ⟨p, vs0, rfl, h1, h2⟩ := asL_at r1 a1 e0
  refine ⟨.inl ⟨rfl, vs0, SqL.of h1⟩, ?_⟩
  refine chainA ha.mono r1 l1 (ha.mono ρ μ1 _ _ _ _ (fun _ _ z => z) (fun _ _ _ z => EW.gr g1 z) z) fun ds μ2 ι2 H2 vs q2 g2 r2 l2 a2 => ?_
  exact k ι2 H2 μ2 _ vs x ds Q r2 (a1.gr g2) a2 (hm.mono _ _ _ _ _ (fun d m z => QV.gr (g1.trans g2) z) q2)
def gApp : GM := fun x ds μ Q => ∃ n xs y, x = .cell n ∧ ds = [y] ∧ μ[n]? = some (.lst xs) ∧ xs.length < sizeLine ∧ Q .non (μ.set n (.lst (xs ++ [y])))
theorem cell_at {K : PySem.W.Frag} {ι : Io} {H : Hp} {v : V} {n : Nat} (a : At K ι H v (.cell n)) : ∃ p, v = .ref p ∧ ι[n]? = some p := by cases a with | cell h => exact ⟨_, rfl, h⟩
theorem mtd_append : MtD X "list.append" gApp := by
  refine ⟨fun x ds μ Q Q' h ⟨n, xs, y, e1, e2, e3, e4, q⟩ => ⟨n, xs, y, e1, e2, e3, e4, h _ _ q⟩, rAppend, mt_append, fun ι H μ x vs dx ds Q r a as ⟨n, xs, y, e1, e2, e3, e4, q⟩ => ?_⟩
  subst e1; subst e2
  obtain ⟨u, rfl, au⟩ := as.one
  obtain ⟨p, rfl, hn⟩ := cell_at a
  obtain ⟨ws, h1, h2⟩ := r.at_ n p _ hn e3
  have gc := Gr.chg (H := H) (o := .lst (ws ++ [u])) (List.mem_of_getElem? hn)
  exact ⟨p, ws, u, rfl, rfl, h1, by rw [h2.1]; exact e4, q ι _ _ gc (r.chg hn ⟨_, upd_same, (h2.gr gc).app (Ats.cons (au.gr gc) Ats.nil)⟩) .non⟩
def gPopAt : GM := fun x ds μ Q => ∃ n xs i k y, x = .cell n ∧ ds = [.int i] ∧ μ[n]? = some (.lst xs) ∧ -(2 ^ 63) ≤ i ∧ i < 2 ^ 63 ∧ seqIndex? i xs.length = some k ∧ xs[k]? = some y ∧ Q y (μ.set n (.lst (xs.eraseIdx k)))
theorem mtd_popAt : MtD X "list.pop" gPopAt := by
  refine ⟨fun x ds μ Q Q' h ⟨n, xs, i, k, y, e1, e2, e3, e4, e5, e6, e7, q⟩ => ⟨n, xs, i, k, y, e1, e2, e3, e4, e5, e6, e7, h _ _ q⟩, rPopAt, mt_popAt, fun ι H μ x vs dx ds Q r a as ⟨n, xs, i, k, y, e1, e2, e3, e4, e5, e6, e7, q⟩ => ?_⟩
  subst e1; subst e2
  obtain ⟨u, rfl, au⟩ := as.one
  cases au
  obtain ⟨p, rfl, hn⟩ := cell_at a
  obtain ⟨ws, h1, h2⟩ := r.at_ n p _ hn e3
  obtain ⟨w, hw, aw⟩ := h2.get e7
  have gc := Gr.chg (H := H) (o := .lst (ws.eraseIdx k)) (List.mem_of_getElem? hn)
  exact ⟨p, ws, i, k, w, rfl, rfl, h1, e4, e5, by rw [h2.1]; exact e6, hw, q ι _ _ gc (r.chg hn ⟨_, upd_same, (h2.gr gc).erase k⟩) (aw.gr gc)⟩

/-! ### slices -/
abbrev FO := Rho → Sto → (Option Int → Sto → Prop) → ED → Prop
theorem PO.imp {X : Cx} {e : Option Expr} {t t' : TO} (h : PO X e t) (k : ∀ σ H Q, t' σ H Q → t σ H Q) : PO X e t' := ⟨fun pins s σ H Q I q => h.run pins s σ H Q I (k σ H Q q)⟩
def oNo : FO := fun _ μ Q _ => Q none μ
def oYes (f : FE) : FO := fun ρ μ Q E => f ρ μ (fun d m => ∃ i, d = .int i ∧ Q (some i) m) E
def cutD (ds : List D) (lo hi : Option Int) : List D := (ds.drop (HT.sIx ds.length 0 lo)).take (HT.sIx ds.length ds.length hi - HT.sIx ds.length 0 lo)
def fSlL (fo : FE) (flo fhi : FO) : FE := fun ρ μ Q E => fo ρ μ (fun x m1 => flo ρ m1 (fun lo m2 => fhi ρ m2 (fun hi m3 => ∃ ds, asL m3 x = some ds ∧ gNewL (cutD ds lo hi) m3 Q) E) E) E
/-! ### s.join(xs) -/
theorem strs_at {K : PySem.W.Frag} {ι : Io} {H : Hp} : ∀ {vs : List V} {ys : List Str}, Ats K ι H vs (ys.map D.str) → vs = ys.map V.str
  | vs, [], r => Ats.unnil r
  | vs, y :: ys, r => by
    obtain ⟨v, vs', rfl, a, r'⟩ := Ats.uncons (ds := ys.map D.str) (d := .str y) r
    cases a
    rw [strs_at r']
    rfl
def fJoin (fo fe : FE) : FE := fun ρ μ Q E => fo ρ μ (fun x m1 => ∃ a, x = .str a ∧ fe ρ m1 (fun d m2 => ∃ ys : List Str, asS m2 d = some (ys.map D.str) ∧ (ys.map (·.length)).sum + ys.length * a.length ≤ 16777216 ∧ Q (.str (Txt.join a ys)) m2) E) E
theorem de_join (ho : DE X W o fo) (he : DE X W e f) (hs : starEach [e] X.env = [(false, eval e X.env)] := by rfl) (hbase : attributeBase o "join" X.env (eval o X.env) = eval o X.env := by rfl) (hline : (apos.endLine == pos.line) = true := by rfl) :
    DE X W (.Call (.Attribute o "join" apos) [e] [] pos) (fJoin fo f) := by
  refine ⟨fun ρ μ Q Q' E E' h hE q => ho.mono ρ μ _ _ E E' (fun x m1 ⟨a, e1, z⟩ => ⟨a, e1, he.mono ρ m1 _ _ E E' (fun d m2 ⟨ys, e2, e3, z⟩ => ⟨ys, e2, e3, h _ _ z⟩) hE z⟩) hE q,
    PE.imp (pe_join ho.run he.run hs hbase hline) fun σ H Q ⟨ι, ρ, μ, r, l, q⟩ => chain1 ho.mono r l q fun x μ1 ι1 H1 v q1 g1 r1 l1 a1 => ?_⟩
  obtain ⟨a, rfl, z⟩ := q1
  cases a1
  refine ⟨⟨a, rfl⟩, chain1 he.mono r1 l1 (he.mono ρ μ1 _ _ _ _ (fun _ _ z => z) (fun _ _ _ z => EW.gr g1 z) z) fun d μ2 ι2 H2 u q2 g2 r2 l2 a2 => ?_⟩
  obtain ⟨ys, e2, e3, z⟩ := q2
  obtain ⟨p, vs, rfl, h1, h2⟩ := asS_at r2 a2 e2
  cases strs_at h2
  exact ⟨a, p, ys, rfl, rfl, h1, e3, z ι2 H2 _ (g1.trans g2) r2 (.str _)⟩

/-! ### range -/
theorem walks_rng {K : PySem.W.Frag} {ι : Io} {H : Hp} {lo : Int} {n : Nat} {st : Sto → Prop} : Walks K (Itr lo n) ι H ((List.range n).map fun (i : Nat) => D.int (lo + (i : Int))) st := by
  refine ⟨fun ι' H' μ' i x g r s hx => ?_, fun ι' H' μ' i g r s hx0 => have hx := Nat.le_of_eq hx0; (show n ≤ i by simpa using hx)⟩
  rw [List.getElem?_map, Option.map_eq_some_iff] at hx
  obtain ⟨j, hj, rfl⟩ := hx
  have hi : i < n := by have := (List.getElem?_eq_some_iff.mp hj).1; simpa using this
  have e : j = i := by rw [List.getElem?_range hi] at hj; exact (Option.some.inj hj).symm
  subst e
  refine ⟨hi, fun v H2 hy => ?_⟩
  obtain ⟨rfl, rfl⟩ := hy
  exact ⟨Gr.refl _ _, r, .int _⟩
def iRg1 (fl : FA) : FI := fun ρ μ Q E => fl ρ μ (fun ds m => ∃ j : Int, ds = [.int j] ∧ -(2 ^ 62) ≤ j ∧ j < 2 ^ 62 ∧ Q ((List.range j.toNat).map fun (i : Nat) => D.int (0 + (i : Int))) (fun _ => True) m) E
theorem ints_at1 {K : PySem.W.Frag} {ι : Io} {H : Hp} {vs : List V} {j : Int} (a : Ats K ι H vs [.int j]) : vs = [.int j] := by
  obtain ⟨v, rfl, a1⟩ := a.one
  cases a1
  rfl
theorem di_rng1 {tg : Expr} (hg : Gl X "range") (hm : X.mg "range" = none) (ha : DA X W [a] fl) (hs : starEach [a] X.env = [(false, eval a X.env)] := by rfl) : DI X W tg (.Call (.Name "range" p) [a] [] pos) (iRg1 fl) :=
  ⟨fun ρ μ Q Q' E E' h he q => ha.mono ρ μ _ _ E E' (fun ds m ⟨j, e1, e2, e3, z⟩ => ⟨j, e1, e2, e3, h _ _ _ z⟩) he q,
   PI.imp (pi_range1 hg hm ha.run hs) fun σ H R ⟨ι, ρ, μ, r, l, q⟩ => chainA ha.mono r l q fun ds μ1 ι1 H1 vs q1 g1 r1 l1 a1 => by
    obtain ⟨j, rfl, e2, e3, z⟩ := q1
    cases ints_at1 a1
    exact ⟨j, rfl, e2, e3, z ι1 H1 _ g1 r1 walks_rng⟩⟩
end
end Dl

namespace Dl
open PySem PySem.Spec L2
open PyProof.Rows hiding St Binds

def NW : WX := fun _ _ _ _ => False
def wipeD (ρ : Rho) : List Nat → Rho
  | [] => ρ
  | v :: vs => (wipeD ρ vs).set v none
section
variable {K : PySem.W.Frag} {ι : Io} {H : Hp} {σ σ' : L2.St} {ρ : Rho}
theorem Loc.unset (h : Loc K ι H σ ρ) (i : Nat) : Loc K ι H (σ.set i none) (ρ.set i none) := by
  refine ⟨by simp [h.1], fun j e q => ?_⟩
  by_cases hj : i = j
  · subst hj
    have hl : i < ρ.length := by
      have := (List.getElem?_eq_some_iff.mp q).1
      simpa using this
    rw [List.getElem?_set_self hl] at q
    cases q
  · rw [List.getElem?_set_ne hj] at q
    obtain ⟨w, e1, a1⟩ := h.2 j e q
    exact ⟨w, by rw [List.getElem?_set_ne hj]; exact e1, a1⟩
theorem Loc.wipe (h : Loc K ι H σ ρ) : ∀ vs : List Nat, Loc K ι H (wipe σ vs) (wipeD ρ vs)
  | [] => h
  | v :: vs => (h.wipe vs).unset v
def Out (js : List Nat) (σ σ' : L2.St) : Prop := σ'.length = σ.length ∧ ∀ i, i ∉ js → σ'[i]? = σ[i]?
theorem Out.refl {js : List Nat} : Out js σ σ := ⟨rfl, fun _ _ => rfl⟩
theorem Out.trans {js : List Nat} {σ1 σ2 σ3 : L2.St} (a : Out js σ1 σ2) (b : Out js σ2 σ3) : Out js σ1 σ3 := ⟨b.1.trans a.1, fun i h => (b.2 i h).trans (a.2 i h)⟩
theorem Out.set {js : List Nat} {j : Nat} {v : Option V} (h : j ∈ js) : Out js σ (σ.set j v) :=
  ⟨by simp, fun i hi => List.getElem?_set_ne (show j ≠ i from fun e => hi (e ▸ h))⟩
theorem wipe_in : ∀ {vs : List Nat} {i : Nat}, i ∈ vs → i < σ.length → (L2.wipe σ vs)[i]? = some none
  | v :: vs, i, h, hl => by
    unfold L2.wipe
    by_cases e : v = i
    · subst e; exact List.getElem?_set_self (by rw [wipe_length]; exact hl)
    · rw [List.getElem?_set_ne e]
      exact wipe_in (by rcases List.mem_cons.mp h with z | z; exact absurd z.symm e; exact z) hl
theorem wipe_out : ∀ {vs : List Nat} {i : Nat}, i ∉ vs → (L2.wipe σ vs)[i]? = σ[i]?
  | [], _, _ => rfl
  | v :: vs, i, h => by
    unfold L2.wipe
    rw [List.getElem?_set_ne (show v ≠ i from fun e => h (e ▸ List.mem_cons_self))]
    exact wipe_out fun z => h (List.mem_cons_of_mem _ z)
theorem Out.wipe {vs : List Nat} (o : Out vs (L2.wipe σ vs) σ') : L2.wipe σ' vs = L2.wipe σ vs := by
  have hl : σ'.length = σ.length := by rw [o.1, wipe_length]
  refine List.ext_getElem? fun i => ?_
  by_cases h : i ∈ vs
  · by_cases hi : i < σ.length
    · rw [wipe_in h hi, wipe_in h (by rw [hl]; exact hi)]
    · rw [List.getElem?_eq_none (by rw [wipe_length, hl]; omega), List.getElem?_eq_none (by rw [wipe_length]; omega)]
  · rw [wipe_out h, o.2 i h]
end

/-- a target whose slots are among js -/
def SV1 (K : PySem.W.Frag) (ι : Io) (H : Hp) (js : List Nat) (σ : L2.St) (N : L2.St → Hp → Prop) : Rho → Sto → Prop := fun ρ μ => ∀ ι' H' σ', Gr ι H ι' H' → Rep K ι' μ H' → Loc K ι' H' σ' ρ → Out js σ σ' → N σ' H'
def rdG (K : PySem.W.Frag) (js : List Nat) (g : FG) : TG := fun v σ H N => ∃ ι ρ μ d, Rep K ι μ H ∧ Loc K ι H σ ρ ∧ At K ι H v d ∧ g d ρ μ (SV1 K ι H js σ N)
def rdGs (K : PySem.W.Frag) (js : List Nat) (g : FGs) : TGs := fun vs σ H N => ∃ ι ρ μ ds, Rep K ι μ H ∧ Loc K ι H σ ρ ∧ Ats K ι H vs ds ∧ g ds ρ μ (SV1 K ι H js σ N)
structure DGw (X : Cx) (tg : Expr) (js : List Nat) (g : FG) : Prop where
  mono : MonTg g
  run : PG X tg (rdG X.K js g)
structure DGsw (X : Cx) (tgs : List Expr) (js : List Nat) (g : FGs) : Prop where
  mono : MonTgs g
  run : PGs X tgs (rdGs X.K js g)
theorem PG.imp {X : Cx} {tg : Expr} {t t' : TG} (h : PG X tg t) (k : ∀ v σ H N, t' v σ H N → t v σ H N) : PG X tg t' := ⟨fun pins s σ H v u Q I r q => h.run pins s σ H v u Q I r (k v σ H Q q)⟩
theorem PGs.imp {X : Cx} {tg : List Expr} {t t' : TGs} (h : PGs X tg t) (k : ∀ v σ H N, t' v σ H N → t v σ H N) : PGs X tg t' := ⟨fun pins s σ H v u Q I r q => h.run pins s σ H v u Q I r (k v σ H Q q)⟩
section
variable {X : Cx} {js : List Nat} {pos : Pos}
theorem dgw_name {i : Nat} {x : Str} (hN : X.N.Nodup) (hi : X.N[i]? = some x) (hx : L2.Loc X.env.scope x) (hj : i ∈ js)
    (hf : X.fn x = true ∨ X.env.scope.names.lookup x = some .local := by first | exact .inl rfl | exact .inr rfl | assumption) : DGw X (.Name x pos) js (tgName i) :=
  ⟨fun d ρ μ N N' h q => h _ _ q, PG.imp (pg_name hN hi hx hf) fun v σ H N ⟨ι, ρ, μ, d, r, l, a, q⟩ => q ι H _ (Gr.refl _ _) r (l.set a i) (Out.set hj)⟩
theorem dgsw_nil : DGsw X [] js tgNil := ⟨fun ds ρ μ N N' h ⟨e, q⟩ => ⟨e, h _ _ q⟩, PGs.imp pgs_nil fun vs σ H N ⟨ι, ρ, μ, ds, r, l, a, e, q⟩ => by
  subst e
  exact ⟨Ats.unnil a, q ι H _ (Gr.refl _ _) r l Out.refl⟩⟩
theorem dgsw_cons {t : Expr} {ts : List Expr} {g : FG} {h : FGs} (h1 : DGw X t js g) (h2 : DGsw X ts js h)
    (hs : (assignEach (t :: ts) X.env).map (·.2) = assign t X.env :: (assignEach ts X.env).map (·.2) := by rfl) : DGsw X (t :: ts) js (tgCons g h) := by
  refine ⟨fun ds ρ μ N N' hh ⟨d, r, e, q⟩ => ⟨d, r, e, h1.mono _ _ _ _ _ (fun ρ' μ' z => h2.mono _ _ _ _ _ hh z) q⟩, PGs.imp (pgs_cons h1.run h2.run hs) fun vs σ H N ⟨ι, ρ, μ, ds, r, l, a, d, rr, e, q⟩ => ?_⟩
  subst e
  obtain ⟨v, vs', rfl, a1, a2⟩ := a.uncons
  refine ⟨v, vs', rfl, ι, ρ, μ, d, r, l, a1, h1.mono _ _ _ _ _ (fun ρ' μ' z => ?_) q⟩
  intro ι1 H1 σ1 g1 r1 l1 o1
  exact ⟨ι1, ρ', μ', rr, r1, l1, a2.gr g1, h2.mono _ _ _ _ _ (fun ρ2 μ2 z => fun ι2 H2 σ2 g2 r2 l2 o2 => z ι2 H2 σ2 (g1.trans g2) r2 l2 (o1.trans o2)) z⟩
theorem dgw_tup {ts : List Expr} {k n : Nat} {h : FGs} (hc : X.calm = true) (hh : DGsw X ts js h)
    (hn : (assignEach ts X.env).length = n := by rfl) (hst : (assignEach ts X.env).findIdx? (·.1) = none := by rfl) : DGw X (.Tuple ts k pos) js (tgTup n h) := by
  refine ⟨fun d ρ μ N N' m ⟨ds, e, c, q⟩ => ⟨ds, e, c, hh.mono _ _ _ _ _ m q⟩, PG.imp (pg_tup hc hh.run hn hst) fun v σ H N ⟨ι, ρ, μ, d, r, l, a, ds, e, c, q⟩ => ?_⟩
  subst e
  obtain ⟨b, vs, rfl, h1, h2⟩ := tup_at a
  exact ⟨b, vs, rfl, h1, by rw [h2.1]; exact c, ι, ρ, μ, ds, r, l, h2, q⟩
/-- a clause's tests -/
structure DTs (X : Cx) (ifs : List Expr) (f : FT) : Prop where
  mono : MonT f
  run : PTs X ifs (rdT X.K NW f)
def tTrue : FT := fun _ μ Q _ => Q true μ
theorem dts_nil : DTs X [] tTrue := ⟨fun ρ μ Q Q' E E' h _ q => h _ _ q, ⟨fun pins s σ H Q I ⟨ι, ρ, μ, r, l, q⟩ => pts_nil.run pins s σ H Q I (q ι H (Gr.refl _ _) r)⟩⟩
theorem dts_one {c : Expr} {f : FT} (h : DT X NW c f) : DTs X [c] f := ⟨h.mono, pts_one h.run⟩
end

/-! ### [elt for tg in iter if ..] -/
def fLc (fi : FI) (g : FG) (ft : FT) (fe : FE) (vs : List Nat) : FE := fun ρ μ Q E => fi ρ μ (fun xs st m => ∃ I : Nat → Sto → Prop, I 0 (m ++ [.lst []]) ∧ (∀ i μ', I i μ' → st μ') ∧
  (∀ i x μ', xs[i]? = some x → I i μ' → g x (wipeD ρ vs) μ' (fun ρ2 μ2 => ft ρ2 μ2 (fun b m3 =>
    if b = true then fe ρ2 m3 (fun y m4 => ∃ acc, m4[m.length]? = some (.lst acc) ∧ acc.length < sizeLine ∧ I (i + 1) (m4.set m.length (.lst (acc ++ [y])))) NE else I (i + 1) m3) NE)) ∧
  ∀ μ', I xs.length μ' → ∃ d2 μ2, Fz m.length (.cell m.length) μ' d2 μ2 ∧ Q d2 μ2) E
section
variable {X : Cx} {W : WX} {elt tg iter : Expr} {ifs : List Expr} {scope : Scope} {own : List (Str × Nat)} {pos spos py : Pos} {fi : FI} {g : FG} {ft : FT} {fe : FE} {σ : L2.St} {H : Hp} {Q : VK} {vs : List Nat}
theorem mLc (mi : MonI fi) : MonE (fLc fi g ft fe vs) := fun ρ μ Q Q' E E' h he q => mi ρ μ _ _ E E' (fun xs st m ⟨I, h0, h1, h2, h3⟩ => ⟨I, h0, h1, h2, fun μ' z => let ⟨d2, μ2, e, q⟩ := h3 μ' z; ⟨d2, μ2, e, h _ _ q⟩⟩) he q
theorem rdLc {K : PySem.W.Frag} (mi : MonI fi) (mg : MonTg g) (mt : MonT ft) (me : MonE fe) (h : rdE K W (fLc fi g ft fe vs) σ H Q) :
    tLc (rdI K W fi) (rdG K vs g) (rdT K NW ft) (rdE K NW fe) vs σ H Q := by
  obtain ⟨ι, ρ, μ, r, l, q⟩ := h
  refine ⟨ι, ρ, μ, r, l, mi ρ μ _ _ _ _ (fun xs st m z => ?_) (fun _ _ _ z => z) q⟩
  intro ι1 H1 J g1 r1 wk D hD
  obtain ⟨I, h0, hst, ht, hd⟩ := z
  have gN := Gr.cellNew (o := .lst []) hD (r1.free hD)
  have rN := r1.cellNew (o := .lst []) (c := .lst []) hD ⟨[], upd_same, Ats.nil⟩
  have lN := (l.gr g1).gr gN
  have dN : (ι1 ++ [D])[m.length]? = some D := by rw [List.getElem?_append_right (by rw [r1.len]; exact Nat.le_refl _), r1.len, Nat.sub_self]; rfl
  refine ⟨fun i n H' => n = xs.length - i ∧ i ≤ xs.length ∧ ∃ ι' μ', Gr (ι1 ++ [D]) (upd H1 D (.lst [])) ι' H' ∧ Rep K ι' μ' H' ∧ I i μ', ⟨xs.length, by simp, Nat.zero_le _, _, _, Gr.refl _ _, rN, h0⟩, ?_⟩
  rintro i n H' ⟨rfl, hle, ι', μ', g', r', hI⟩
  by_cases hlt : i < xs.length
  · have hx : xs[i]? = some xs[i] := List.getElem?_eq_getElem hlt
    obtain ⟨w1, w2⟩ := wk.go ι' H' μ' i _ (gN.trans g') r' (hst i μ' hI) hx
    refine .inr ⟨w1, fun H2 => ∃ ι2 μ2, Gr (ι1 ++ [D]) (upd H1 D (.lst [])) ι2 H2 ∧ Rep K ι2 μ2 H2 ∧ I (i + 1) μ2, fun H2 z => ⟨xs.length - (i + 1), by omega, rfl, hlt, z⟩, fun v H2 hy => ?_⟩
    obtain ⟨gy, ry, ay⟩ := w2 v H2 hy
    refine ⟨ι', wipeD ρ vs, μ', _, ry, ((lN.gr g').gr gy).wipe vs, ay, mg _ _ _ _ _ (fun ρ2 μ2 z => ?_) (ht i _ μ' hx hI)⟩
    intro ι3 H3 σ3 g3 r3 l3 o3
    refine ⟨o3.wipe, ?_⟩
    refine chainT mt r3 l3 (mt ρ2 μ2 _ _ _ _ (fun _ _ z => z) (fun _ _ _ z => NE.ew z) z) fun b μ4 ι4 H4 z g4 r4 l4 => ?_
    have gg := ((g'.trans gy).trans g3).trans g4
    cases b with
    | false => exact ⟨ι4, μ4, gg, r4, z⟩
    | true =>
      refine chain1 me r4 l4 (me ρ2 μ4 _ _ _ _ (fun _ _ z => z) (fun _ _ _ z => NE.ew z) z) fun y μ5 ι5 H5 u z g5 r5 l5 a5 => ?_
      obtain ⟨acc, e1, e2, z⟩ := z
      have d5 := (gg.trans g5).pre _ _ dN
      obtain ⟨ws, h1, h2⟩ := r5.at_ _ D _ d5 e1
      have gc := Gr.chg (H := H5) (o := .lst (ws ++ [u])) (List.mem_of_getElem? d5)
      exact ⟨ws, h1, by rw [h2.1]; exact e2, ι5, _, (gg.trans g5).trans gc, r5.chg (c := .lst (acc ++ [y])) d5 ⟨_, upd_same, (h2.gr gc).app (Ats.cons (a5.gr gc) Ats.nil)⟩, z⟩
  · have e : i = xs.length := by omega
    subst e
    obtain ⟨d2, μ2, fz, q⟩ := hd μ' hI
    obtain ⟨ι2, s1, s2, s3⟩ := fz.sound (ι0 := ι1) (H0 := H1) r1.len r' (.cell (g'.pre _ _ dN)) (gN.trans g')
    exact .inl ⟨wk.stop ι' H' μ' _ (gN.trans g') r' (hst _ μ' hI) rfl, q ι2 H' _ (g1.trans s3) s1 s2⟩
theorem de_lc (hc : X.calm = true) (hN : X.N.Nodup) (hi : DI X W tg iter fi) (ok : BlkOk X.N X.env.scope scope own)
    (hg : ∀ (s : Shared) (H : Hp) (C : Addr) (cl : List (Str × Addr)) (fp : List Addr), DGw (X.blk s H scope (compEnvC scope cl C X.env) fp) tg (own.map (·.2)) g)
    (ht : ∀ (s : Shared) (H : Hp) (C : Addr) (cl : List (Str × Addr)) (fp : List Addr), DTs (X.blk s H scope (compEnvC scope cl C X.env) fp) ifs ft)
    (he : ∀ (s : Shared) (H : Hp) (C : Addr) (cl : List (Str × Addr)) (fp : List Addr), DE (X.blk s H scope (compEnvC scope cl C X.env) fp) NW elt fe)
    (hs : ∀ x, foldedSetIterable iter X.env x = pure x := by intro _; rfl) : DE X W (.ListComp elt [⟨tg, iter, ifs, 0⟩] scope pos) (fLc fi g ft fe (own.map (·.2))) :=
  ⟨mLc hi.mono, PE.imp (pe_lc hc hN hi.run ok (fun s H C cl fp => (hg s H C cl fp).run) (fun s H C cl fp => (ht s H C cl fp).run) (fun s H C cl fp => (he s H C cl fp).run) hs)
    fun σ H Q h => rdLc hi.mono (hg X.s_0 X.H_0 0 [] []).mono (ht X.s_0 X.H_0 0 [] []).mono (he X.s_0 X.H_0 0 [] []).mono h⟩
end
end Dl

namespace Dl
open PySem PySem.Spec L2
open PyProof.Rows hiding St Binds

/-! ### a def's body -/
def startD (n : Nat) (ds : List D) : Rho := ds.map some ++ List.replicate (n - ds.length) none
theorem Loc.start {K : PySem.W.Frag} {ι : Io} {H : Hp} {N : List Str} {vs : List V} {ds : List D} (a : Ats K ι H vs ds) : Loc K ι H (L2.start N vs) (startD N.length ds) := by
  unfold L2.start startD
  refine ⟨by simp [a.1], fun i d h => ?_⟩
  by_cases hi : i < ds.length
  · rw [List.getElem?_append_left (by simpa using hi), List.getElem?_map, Option.map_eq_some_iff] at h
    obtain ⟨d', e, e2⟩ := h
    cases e2
    obtain ⟨v, hv, av⟩ := a.get e
    refine ⟨v, ?_, av⟩
    rw [List.getElem?_append_left (by rw [List.length_map, a.1]; exact hi), List.getElem?_map, hv]
    rfl
  · rw [List.getElem?_append_right (by simpa using hi)] at h
    have := List.mem_of_getElem? h
    rw [List.mem_replicate] at this
    cases this.2
/-- the wishes of a body's end, by those of the call -/
def endK (n : Nat) (Q : QD) (E : XD) : DK where
  nx := fun _ m => ∃ d2 μ2, Fz n .non m d2 μ2 ∧ Q d2 μ2
  rt := fun d m => ∃ d2 μ2, Fz n d m d2 μ2 ∧ Q d2 μ2
  ex := fun c l _ m => ∃ m2 mx, m = m2 ++ mx ∧ n ≤ m2.length ∧ bdF m2.length l = true ∧ bdS m2.length m2 = true ∧ E c l m2
section
variable {P : Program} {w : World} {K : PySem.W.Frag} {mg : Str → Option Value} {base : Heap} {x qual : Str} {st : Stmt} {f : Addr} {fd : FuncData} {N ps : List Str} {k : Nat} {F : FD} {fs : FS}
theorem fn_body (Fu : FunA K x qual st f fd) (S : FnScope N ps (defScope st)) (len : ∀ ds μ Q E, F ds μ Q E → ds.length = ps.length)
    (body : ∀ (cdv : Value) (A : Around) (outer : List Env) (s : Shared) (H : Hp) (E : XK), (A.deeper (envOfC qual (defScope st) s.heap.objs.size f cdv)).guards = some [] → Room k (A.deeper (envOfC qual (defScope st) s.heap.objs.size f cdv)) →
      DB (cxOf (L2.CX P w) P w K mg base N qual (defScope st) f cdv A outer s H E) (fun c d _ H' => E c d H') (defBody st) fs)
    (sem : ∀ ds μ Q E, F ds μ Q E → fs (endK μ.length Q E) (startD N.length ds) μ) : FnG P w K mg base (L2.CX P w) (k + 1) f fd ps (spD K F) := by
  refine gfunX Fu S (fun vs H Q E h => ?_) (fun cdv A outer s H vs Q E hG hr h => ?_)
  · obtain ⟨ι, μ, ds, r, a, q⟩ := h
    rw [a.1]; exact len _ _ _ _ q
  · obtain ⟨ι, μ, ds, r, a, q⟩ := h
    have B := body cdv A outer s H E hG hr
    refine ⟨_, B.run, ι, _, μ, r, Loc.start a, B.mono _ _ (endK μ.length (QV K ι H Q) (XV K ι H E)) _ ⟨fun ρ m z => ?_, fun d m z => ?_, fun c l ρ m z => ?_, fun ρ m z => (show False from z).elim, fun ρ m z => (show False from z).elim⟩ (sem _ _ _ _ q)⟩
    · intro ι' H' σ' g r' l'
      obtain ⟨d2, μ2, fz, q2⟩ := z
      obtain ⟨ι2, s1, s2, s3⟩ := fz.sound (ι0 := ι) (H0 := H) r.len r' .non g
      exact q2 ι2 H' .non s3 s1 s2
    · intro ι' H' v g r' a'
      obtain ⟨d2, μ2, fz, q2⟩ := z
      obtain ⟨ι2, s1, s2, s3⟩ := fz.sound (ι0 := ι) (H0 := H) r.len r' a' g
      exact q2 ι2 H' v s3 s1 s2
    · intro ι' H' dd fv σ' g r' hd p l'
      obtain ⟨m2, mx, rfl, ll, b1, b2, q2⟩ := z
      obtain ⟨ι1, ext, rfl, l1, _⟩ := split_io r'
      exact q2 ι1 H' dd fv (g.trunc (by rw [l1, r.len]; exact ll)) (r'.trunc l1 b2) hd ⟨p.1, fun i x y e1 e2 => (p.2 i x y e1 e2).trunc (by rw [l1]; exact bdF_get b1 e2)⟩
theorem cal_fun (Fu : Fun K x qual st f fd) (S : FnScope N ps (defScope st)) (hm : mg x = some (.ref f)) (hk : PySem.W.keepIn K (.ref f) = true) (hb : L2.Binds K fd ps []) (mono : MonF F) (len : ∀ ds μ Q E, F ds μ Q E → ds.length = ps.length)
    (body : ∀ (cdv : Value) (A : Around) (outer : List Env) (s : Shared) (H : Hp) (E : XK), (A.deeper (envOfC qual (defScope st) s.heap.objs.size f cdv)).guards = some [] → Room k (A.deeper (envOfC qual (defScope st) s.heap.objs.size f cdv)) →
      DB (cxOf (L2.CX P w) P w K mg base N qual (defScope st) f cdv A outer s H E) (fun c d _ H' => E c d H') (defBody st) fs)
    (sem : ∀ ds μ Q E, F ds μ Q E → fs (endK μ.length Q E) (startD N.length ds) μ) : Cal P w K mg base (k + 1) x F [] :=
  ⟨mono, f, fd, ps, [], [], fn_body (anyFun Fu) S len body sem, hm, hk, hb, .nil, fun _ _ => Ats.nil⟩
end

/-! ### repr -/
def okR (p : PyData) : Prop := p.showable = true ∧ p.hasDict = false ∧ p.shown.length ≤ sizeLine ∧ p.depth < 60
def gRepr : GC := fun xs μ Q => ∃ d p, xs = [d] ∧ pyS μ d = some p ∧ okR p ∧ Q (.str p.shown) μ
theorem cr_repr {X : Cx} (hG : X.A.guards = some []) (hu : X.A.units + 64 < cLine) : CallR X (.builtin "repr") (fun xs H Q => ∃ v p, xs = [v] ∧ Dp X.K H v p ∧ okR p ∧ Q (.str p.shown) H) := by
  intro pins s σ H xs us Q I rv h
  obtain ⟨v, p, rfl, hd, ⟨o1, o2, o3, o4⟩, q⟩ := h
  obtain ⟨u, rfl, ru⟩ := rv.one
  obtain ⟨as, rd⟩ := Dp.reads I p v u hd ru
  have fin : ∀ h' t tk, (∀ b o, s.heap.get? b = some o → h'.get? b = some o) → EP X pins σ Q (.str p.shown t) { s with heap := h', toks := tk } := fun h' t tk kp =>
    ⟨.str p.shown, H, I.kept (t' := tk) kp, ⟨t, rfl⟩, q⟩
  have tok : EP X pins σ Q (.str p.shown s.toks) { s with toks := s.toks + 1 } := fin s.heap s.toks (s.toks + 1) fun _ _ e => e
  cases hd with
  | non => cases ru; simp only [PyData.shown] at tok; exact PySem.P.repr_of_none tok
  | bl b => cases ru; simp only [PyData.shown] at tok; exact PySem.P.repr_of_bool tok
  | int i =>
    obtain ⟨t, rfl⟩ := ru
    simp only [PyData.shown] at tok
    exact PySem.P.repr_of_int (by simpa [PyData.showable] using o1) tok
  | str z =>
    obtain ⟨t, rfl⟩ := ru
    simp only [PyData.shown] at tok o3
    exact PySem.P.repr_of_str tok o3
  | lst h1 h2 => cases ru; exact repr_of_reads' rd o1 (PyData.noDict_hsm o2) hG (by omega) (fun _ _ e => e) fin o3
  | tup h1 h2 => cases ru; exact repr_of_reads' rd o1 (PyData.noDict_hsm o2) hG (by omega) (fun _ _ e => e) fin o3
/-! ### lists and tuples of lists that may still grow -/
def pyAllS (μ : Sto) : List D → Option (List PyData)
  | [] => some []
  | d :: ds => match pyS μ d, pyAllS μ ds with | some p, some ps => some (p :: ps) | _, _ => none
def pyT (μ : Sto) : D → Option PyData
  | .lst ds => (pyAllS μ ds).map .list
  | .tup ds => (pyAllS μ ds).map .tuple
  | d => pyS μ d
theorem pyAllS_cons {μ : Sto} {d : D} {ds : List D} {ps : List PyData} (h : pyAllS μ (d :: ds) = some ps) : ∃ p qs, pyS μ d = some p ∧ pyAllS μ ds = some qs ∧ ps = p :: qs := by
  unfold pyAllS at h
  split at h
  · rename_i e1 e2
    exact ⟨_, _, e1, e2, (Option.some.inj h).symm⟩
  · cases h
section
variable {K : PySem.W.Frag} {ι : Io} {H : Hp} {μ : Sto}
theorem dpAllS_of (r : Rep K ι μ H) : ∀ {ds : List D} {vs : List V} {ps : List PyData}, Ats K ι H vs ds → pyAllS μ ds = some ps → DpAll K H vs ps
  | [], vs, ps, a, h => by
    unfold pyAllS at h
    cases Option.some.inj h
    cases Ats.unnil a
    exact .nil
  | d :: ds, vs, ps, a, h => by
    obtain ⟨p, qs, e1, e2, rfl⟩ := pyAllS_cons h
    obtain ⟨v, vs', rfl, a1, a2⟩ := a.uncons
    exact .cons (dpS_of r a1 e1) (dpAllS_of r a2 e2)
theorem dpT_of {d : D} {v : V} {p : PyData} (r : Rep K ι μ H) (a : At K ι H v d) (h : pyT μ d = some p) : Dp K H v p := by
  cases d with
  | lst ds =>
    obtain ⟨ps, e, rfl⟩ := Option.map_eq_some_iff.mp h
    cases a with
    | lst h1 n l q => exact .lst (SqL.of h1) (dpAllS_of r ⟨l, q⟩ e)
  | tup ds =>
    obtain ⟨ps, e, rfl⟩ := Option.map_eq_some_iff.mp h
    cases a with
    | tup h1 n l q => exact .tup (.inl h1) (dpAllS_of r ⟨l, q⟩ e)
    | ktup h1 l q => exact .tup (h1 H) (dpAllS_of r ⟨l, q⟩ e)
  | _ => exact dpS_of r a h
end
def gReprT : GC := fun xs μ Q => ∃ d p, xs = [d] ∧ pyT μ d = some p ∧ okR p ∧ Q (.str p.shown) μ
theorem cad_reprT {X : Cx} (hG : X.A.guards = some []) (hu : X.A.units + 64 < cLine) : CaD X (.builtin "repr") gReprT := by
  refine ⟨fun xs μ Q Q' h ⟨d, p, e, e2, o, q⟩ => ⟨d, p, e, e2, o, h _ _ q⟩, _, cr_repr hG hu, fun ι H μ vs ds Q r a ⟨d, p, e, e2, o, q⟩ => ?_⟩
  subst e
  obtain ⟨v, rfl, a1⟩ := a.one
  exact ⟨v, p, rfl, dpT_of r a1 e2, o, q ι H _ (Gr.refl _ _) r (.str _)⟩
end Dl

namespace Dl
open PySem PySem.Spec L2
open PyProof.Rows hiding St Binds

theorem takesNW {X : Cx} : Takes X NW := fun u s' ⟨_, _, _, _, _, _, _, _, _, _, _, _, _, _, _, _, z⟩ => False.elim z
section
variable {X : Cx} {W : WX} {a b e : Expr} {f fa fb : FE} {fl : FA} {pos p : Pos}
/-- list(x) of the script: a new cell -/
def gListZ : GC := fun xs μ Q => ∃ ds, xs = [.fzl ds] ∧ ds.length ≤ sizeLine ∧ Q (.cell μ.length) (μ ++ [.lst ds])
theorem cad_listZ : CaD X (.type "list") gListZ :=
  ⟨fun xs μ Q Q' h ⟨ds, e, e2, q⟩ => ⟨ds, e, e2, h _ _ q⟩, _, call_list_of, fun ι H μ vs ds Q r a ⟨xs, e, e2, q⟩ => by
    subst e
    obtain ⟨v, rfl, a1⟩ := a.one
    cases a1 with
    | @fzl p ws _ h l rr => exact ⟨p, ws, rfl, .inl (h.elim (fun ⟨o, e, _⟩ => .inl (.inr ⟨o, e⟩)) fun k => k H), fun q' hq => newL_ok r ⟨l, rr⟩ ⟨e2, .inr q⟩ q' hq⟩⟩
/-- int(x) -/
def gInt : GC := fun xs μ Q => (∃ i, xs = [.int i] ∧ Q (.int i) μ) ∨ ∃ k, xs = [.bl k] ∧ Q (.int (if k then 1 else 0)) μ
theorem cad_int : CaD X (.type "int") gInt :=
  ⟨fun xs μ Q Q' h q => q.imp (fun ⟨i, e, q⟩ => ⟨i, e, h _ _ q⟩) (fun ⟨i, e, q⟩ => ⟨i, e, h _ _ q⟩), _, call_int1, fun ι H μ vs ds Q r a q => by
    rcases q with ⟨i, rfl, q⟩ | ⟨k, rfl, q⟩
    · obtain ⟨v, rfl, a1⟩ := a.one; cases a1; exact .inl ⟨i, rfl, q ι H _ (Gr.refl _ _) r (.int _)⟩
    · obtain ⟨v, rfl, a1⟩ := a.one; cases a1; exact .inr ⟨k, rfl, q ι H _ (Gr.refl _ _) r (.int _)⟩⟩
/-- tuple(x) of a list or a tuple -/
def gTupOf : GC := fun xs μ Q => ∃ d ds, xs = [d] ∧ asS μ d = some ds ∧ Q (.tup ds) μ
/-- all(x), any(x) of a list of bools -/
def gAll : GC := fun xs μ Q => ∃ (d : D) (bs : List Bool), xs = [d] ∧ asL μ d = some (bs.map D.bl) ∧ Q (.bl (bs.all id)) μ
theorem bls_at {K : PySem.W.Frag} {ι : Io} {H : Hp} : ∀ {vs : List V} {ys : List Bool}, Ats K ι H vs (ys.map D.bl) → vs = ys.map V.bl
  | vs, [], r => Ats.unnil r
  | vs, y :: ys, r => by
    obtain ⟨v, vs', rfl, a, r'⟩ := Ats.uncons (ds := ys.map D.bl) (d := .bl y) r
    cases a
    rw [bls_at r']
    rfl
theorem cad_all (hc : X.calm = true) : CaD X (.builtin "all") gAll :=
  ⟨fun xs μ Q Q' h ⟨d, ds, e, e2, q⟩ => ⟨d, ds, e, e2, h _ _ q⟩, _, cr_all hc, fun ι H μ vs ds Q r a ⟨d, bs, e, e2, q⟩ => by
    subst e
    obtain ⟨v, rfl, a1⟩ := a.one
    obtain ⟨p, ws, rfl, h1, h2⟩ := asL_at r a1 e2
    cases bls_at h2
    exact ⟨p, bs, rfl, SqL.of h1, q ι H _ (Gr.refl _ _) r (.bl _)⟩⟩
/-- -a -/
def fNeg (f : FE) : FE := fun ρ μ Q E => f ρ μ (fun d m => ∃ i, d = .int i ∧ Q (.int (-i)) m) E
/-- for c in s -/
def iStrD (f : FE) : FI := fun ρ μ Q E => f ρ μ (fun d m => ∃ x : Str, d = .str x ∧ Q (x.cps.toList.map fun c => D.str ⟨#[c]⟩) (fun _ => True) m) E
theorem walks_str {K : PySem.W.Frag} {ι : Io} {H : Hp} {x : Str} {st : Sto → Prop} : Walks K (Its x) ι H (x.cps.toList.map fun c => D.str ⟨#[c]⟩) st := by
  refine ⟨fun ι' H' μ' i y g r s hx => ?_, fun ι' H' μ' i g r s hx0 => have hx := Nat.le_of_eq hx0; (show x.cps.size ≤ i by simpa using hx)⟩
  rw [List.getElem?_map, Option.map_eq_some_iff] at hx
  obtain ⟨c, hc, rfl⟩ := hx
  have hc' : x.cps[i]? = some c := by simpa using hc
  refine ⟨(Array.getElem?_eq_some_iff.mp hc').1, fun v H2 hy => ?_⟩
  obtain ⟨rfl, c', e, rfl⟩ := hy
  rw [hc'] at e; cases e
  exact ⟨Gr.refl _ _, r, .str _⟩
theorem di_str {tg : Expr} (h : DE X W e f) : DI X W tg e (iStrD f) :=
  ⟨fun ρ μ Q Q' E E' hq he q => h.mono ρ μ _ _ E E' (fun d m ⟨x, e, z⟩ => ⟨x, e, hq _ _ _ z⟩) he q, PI.imp (pi_str h.run) fun σ H R ⟨ι, ρ, μ, r, l, q⟩ => chain1 h.mono r l q fun d μ1 ι1 H1 v q1 g1 r1 l1 a1 => by
    obtain ⟨x, rfl, z⟩ := q1
    cases a1
    exact ⟨x, rfl, z ι1 H1 _ g1 r1 walks_str⟩⟩
/-- x, y = a, b -/
def sPar (i j : Nat) (fl : FA) : FS := fun A ρ μ => fl ρ μ (fun ds m => ∃ x y, ds = [x, y] ∧ A.nx ((ρ.set i (some x)).set j (some y)) m) A.ex
theorem ds_par {i j : Nat} {x y : Str} {px py pt : Pos} {kt k2 pt2} (hc : X.calm = true) (hN : X.N.Nodup) (hi : X.N[i]? = some x) (hj : X.N[j]? = some y) (hij : i ≠ j)
    (hx : X.env.scope.names.lookup x = some .local) (hy : X.env.scope.names.lookup y = some .local) (ha : DA X W [a, b] fl)
    (hw : swappedStores [.Tuple [.Name x px, .Name y py] kt pt] (.Tuple [a, b] k2 pt2) X.env = pure (some [x, y]) := by rfl)
    (hs : swapsWithSole [.Tuple [.Name x px, .Name y py] kt pt] (.Tuple [a, b] k2 pt2) pos.line X.env = pure false := by rfl) :
    DS X W (.Assign [.Tuple [.Name x px, .Name y py] kt pt] (.Tuple [a, b] k2 pt2) pos) (sPar i j fl) :=
  ⟨fun ρ μ A B h q => ha.mono ρ μ _ _ _ _ (fun ds m ⟨x, y, e, z⟩ => ⟨x, y, e, h.nx _ _ z⟩) (fun _ _ _ z => h.ex _ _ _ _ z) q,
   PS.imp (ps_par hc hN hi hj hij hx hy ha.run hw hs) fun D σ H ⟨ι, ρ, μ, r, l, q⟩ => chainA ha.mono r l (ha.mono ρ μ _ _ _ _ (fun _ _ z => z) (fun _ _ _ z => WV.ew l z) q) fun ds μ1 ι1 H1 vs q1 g1 r1 l1 a1 => by
    obtain ⟨x, y, rfl, z⟩ := q1
    obtain ⟨v, vs', rfl, av, a2⟩ := a1.uncons
    obtain ⟨u, rfl, au⟩ := a2.one
    exact ⟨v, u, rfl, z ι1 H1 _ g1 r1 ((l1.set av i).set au j)⟩⟩
end
/-- the builtins' names are not the module's -/
structure NoB (mg : Str → Option Value) : Prop where
  len : mg "len" = none
  list : mg "list" = none
  tuple : mg "tuple" = none
  int : mg "int" = none
  repr : mg "repr" = none
  range : mg "range" = none
  all : mg "all" = none
  zip : mg "zip" = none
  enumerate : mg "enumerate" = none
  isinstance : mg "isinstance" = none
  str : mg "str" = none
  bool : mg "bool" = none
  dict : mg "dict" = none
  any : mg "any" = none
  min : mg "min" = none
  sorted : mg "sorted" = none
  set : mg "set" = none
  max : mg "max" = none
  sum : mg "sum" = none
end Dl

namespace Dl
open PySem PySem.Spec L2
open PyProof.Rows hiding St Binds

/-! ### where a new list is to be data, or a cell -/
theorem DE.weak {X : Cx} {W : WX} {e : Expr} {f f' : FE} (h : DE X W e f) (m : MonE f') (k : ∀ ρ μ Q E, f' ρ μ Q E → f ρ μ Q E) : DE X W e f' :=
  ⟨m, PE.imp h.run fun σ H Q ⟨ι, ρ, μ, r, l, q⟩ => ⟨ι, ρ, μ, r, l, k _ _ _ _ q⟩⟩
def gD (ds : List D) (μ : Sto) (Q : QD) : Prop := ds.length ≤ sizeLine ∧ Q (.lst ds) μ
def gC (ds : List D) (μ : Sto) (Q : QD) : Prop := ds.length ≤ sizeLine ∧ Q (.cell μ.length) (μ ++ [.lst ds])
theorem gD_mono {ds : List D} {Q Q' : QD} (h : ∀ d m, Q d m → Q' d m) {m : Sto} (q : gD ds m Q) : gD ds m Q' := ⟨q.1, h _ _ q.2⟩
theorem gC_mono {ds : List D} {Q Q' : QD} (h : ∀ d m, Q d m → Q' d m) {m : Sto} (q : gC ds m Q) : gC ds m Q' := ⟨q.1, h _ _ q.2⟩
theorem gD_new {ds : List D} {Q : QD} {m : Sto} (q : gD ds m Q) : gNewL ds m Q := ⟨q.1, .inl q.2⟩
theorem gC_new {ds : List D} {Q : QD} {m : Sto} (q : gC ds m Q) : gNewL ds m Q := ⟨q.1, .inr q.2⟩
section
variable {X : Cx} {W : WX} {a b e o : Expr} {es : List Expr} {f fa fb fo : FE} {fl : FA} {pos p p2 : Pos}
def fLstD (g : FA) : FE := fun ρ μ Q E => g ρ μ (fun ds m => gD ds m Q) E
def fLstC (g : FA) : FE := fun ρ μ Q E => g ρ μ (fun ds m => gC ds m Q) E
theorem de_lstD (h : DA X W es fl) : DE X W (.List es pos) (fLstD fl) :=
  (de_lst h).weak (fun ρ μ Q Q' E E' hq he q => h.mono ρ μ _ _ E E' (fun _ _ z => gD_mono hq z) he q) fun ρ μ Q E q => h.mono ρ μ _ _ E E (fun _ _ z => gD_new z) (fun _ _ _ z => z) q
theorem de_lstC (h : DA X W es fl) : DE X W (.List es pos) (fLstC fl) :=
  (de_lst h).weak (fun ρ μ Q Q' E E' hq he q => h.mono ρ μ _ _ E E' (fun _ _ z => gC_mono hq z) he q) fun ρ μ Q E q => h.mono ρ μ _ _ E E (fun _ _ z => gC_new z) (fun _ _ _ z => z) q
def gListD : GC := fun xs μ Q => ∃ d ds, xs = [d] ∧ asS μ d = some ds ∧ gD ds μ Q
def gListC : GC := fun xs μ Q => ∃ d ds, xs = [d] ∧ asS μ d = some ds ∧ gC ds μ Q
theorem CaD.weak {v : Value} {g g' : GC} (h : CaD X v g) (m : MonC g') (k : ∀ xs μ Q, g' xs μ Q → g xs μ Q) : CaD X v g' := by
  obtain ⟨r, c, q⟩ := h.run
  exact ⟨m, r, c, fun ι H μ vs ds Q rp a z => q ι H μ vs ds Q rp a (k _ _ _ z)⟩
theorem cad_listC' : CaD X (.type "list") gListC := cad_list.weak (fun xs μ Q Q' h ⟨d, ds, e, e2, q⟩ => ⟨d, ds, e, e2, gC_mono h q⟩) fun xs μ Q ⟨d, ds, e, e2, q⟩ => ⟨d, ds, e, e2, gC_new q⟩
/-- lists joined -/
def catD : G2 := fun x y μ Q => ∃ xs ys, asL μ x = some xs ∧ asL μ y = some ys ∧ gD (xs ++ ys) μ Q
theorem opd_catD : OpD X (binaryOp .Add) catD := opd_catL.imp (fun x y μ Q Q' h ⟨xs, ys, e1, e2, q⟩ => ⟨xs, ys, e1, e2, gD_mono h q⟩) fun x y μ Q ⟨xs, ys, e1, e2, q⟩ => ⟨xs, ys, e1, e2, gD_new q⟩
def strAdd : G2 := fun x y μ Q => ∃ s t : Str, x = .str s ∧ y = .str t ∧ addD (.str s) (.str t) μ Q
theorem strAdd_ok : OpD X (binaryOp .Add) strAdd := opd_add.imp (fun x y μ Q Q' h ⟨s, t, e1, e2, q⟩ => ⟨s, t, e1, e2, opd_add (X := X) |>.mono _ _ _ _ _ h q⟩) fun x y μ Q ⟨s, t, e1, e2, q⟩ => by subst e1; subst e2; exact q
/-- ints -/
def addI : G2 := fun x y μ Q => ∃ i j, x = .int i ∧ y = .int j ∧ Q (.int (i + j)) μ
theorem opd_addI : OpD X (binaryOp .Add) addI := opd_ii0 (gd := fun i j => .int (i + j)) op_add fun _ _ _ _ _ => .int _
def mulI : G2 := fun x y μ Q => ∃ i j, x = .int i ∧ y = .int j ∧ CMulW i j ∧ Q (.int (i * j)) μ
theorem opd_mulI : OpD X (binaryOp .Mult) mulI := opd_ii (gd := fun i j => .int (i * j)) op_mulW fun _ _ _ _ _ => .int _
def eqI : G2 := fun x y μ Q => ∃ i j, x = .int i ∧ y = .int j ∧ Q (.bl (decide (i = j))) μ
def eqS : G2 := fun x y μ Q => ∃ i j : Str, x = .str i ∧ y = .str j ∧ Q (.bl (decide (i = j))) μ
def neI : G2 := fun x y μ Q => ∃ i j, x = .int i ∧ y = .int j ∧ Q (.bl (!decide (i = j))) μ
def neS : G2 := fun x y μ Q => ∃ i j : Str, x = .str i ∧ y = .str j ∧ Q (.bl (!decide (i = j))) μ
theorem opd_eqI : OpD X (compareOp .Eq) eqI := opd_eqs.imp (fun x y μ Q Q' h ⟨i, j, e1, e2, q⟩ => ⟨i, j, e1, e2, h _ _ q⟩) fun x y μ Q z => .inl z
theorem opd_eqS : OpD X (compareOp .Eq) eqS := opd_eqs.imp (fun x y μ Q Q' h ⟨i, j, e1, e2, q⟩ => ⟨i, j, e1, e2, h _ _ q⟩) fun x y μ Q z => .inr (.inl z)
theorem opd_neI : OpD X (compareOp .NotEq) neI := opd_nes.imp (fun x y μ Q Q' h ⟨i, j, e1, e2, q⟩ => ⟨i, j, e1, e2, h _ _ q⟩) fun x y μ Q z => .inl z
theorem opd_neS : OpD X (compareOp .NotEq) neS := opd_nes.imp (fun x y μ Q Q' h ⟨i, j, e1, e2, q⟩ => ⟨i, j, e1, e2, h _ _ q⟩) fun x y μ Q z => .inr (.inl z)
def neP : G2 := fun x y μ Q => ∃ p q, pyS μ x = some p ∧ pyS μ y = some q ∧ SeqAt.shaped p = true ∧ SeqAt.shaped q = true ∧ Q (.bl (!PyData.eqv p q)) μ
theorem opd_neP' (hu : X.A.units + 64 < cLine) : OpD X (compareOp .NotEq) neP := opd_neP hu
def eqP : G2 := fun x y μ Q => ∃ p q, pyS μ x = some p ∧ pyS μ y = some q ∧ SeqAt.shaped p = true ∧ SeqAt.shaped q = true ∧ Q (.bl (PyData.eqv p q)) μ
theorem opd_eqP' (hu : X.A.units + 64 < cLine) : OpD X (compareOp .Eq) eqP := opd_eqP hu
def ixL : G2 := fun x y μ Q => ∃ ds i d, asS μ x = some ds ∧ y = .int i ∧ atI ds i = some d ∧ Q d μ
theorem de_ixL (ha : DE X W a fa) (hb : DE X W b fb) (hs : PlainIx b := by exact fun _ _ => rfl) : DE X W (.Subscript a b pos) (fOp ixL fa fb) :=
  (de_ix ha hb hs).weak (mOp (fun x y μ Q Q' h ⟨ds, i, d, e1, e2, e3, q⟩ => ⟨ds, i, d, e1, e2, e3, h _ _ q⟩) ha.mono hb.mono) fun ρ μ Q E q => ha.mono ρ μ _ _ E E (fun x m z => hb.mono ρ m _ _ E E (fun y m2 ⟨ds, i, d, e1, e2, e3, q⟩ => by
    cases x with
    | str s => cases e1
    | _ => exact ⟨ds, i, d, e1, e2, e3, q⟩) (fun _ _ _ z => z) z) (fun _ _ _ z => z) q
def ixT : G2 := fun x y μ Q => ∃ (z : Str) (i : Int) (c : Nat), x = .str z ∧ y = .int i ∧ z.length ≤ sizeLine ∧ atI z.cps.toList i = some c ∧ Q (.str ⟨#[c]⟩) μ
theorem de_ixT (ha : DE X W a fa) (hb : DE X W b fb) (hs : PlainIx b := by exact fun _ _ => rfl) : DE X W (.Subscript a b pos) (fOp ixT fa fb) :=
  (de_ix ha hb hs).weak (mOp (fun x y μ Q Q' h ⟨z, i, c, e0, e1, e2, e3, q⟩ => ⟨z, i, c, e0, e1, e2, e3, h _ _ q⟩) ha.mono hb.mono) fun ρ μ Q E q => ha.mono ρ μ _ _ E E (fun x m z => hb.mono ρ m _ _ E E (fun y m2 ⟨z, i, c, e0, e1, e2, e3, q⟩ => by
    subst e0
    exact ⟨i, c, e1, e2, e3, q⟩) (fun _ _ _ z => z) z) (fun _ _ _ z => z) q
/-- a slice of a list, as data -/
def fSlD (fo : FE) (flo fhi : FO) : FE := fun ρ μ Q E => fo ρ μ (fun x m1 => flo ρ m1 (fun lo m2 => fhi ρ m2 (fun hi m3 => ∃ ds, asL m3 x = some ds ∧ gD (cutD ds lo hi) m3 Q) E) E) E
end
end Dl

namespace Dl
open PySem PySem.Spec L2
open PyProof.Rows hiding St Binds

/-! ### the readings, as rows of a rewriting -/
section
variable {ρ : Rho} {μ : Sto} {Q : QD} {E : ED} {f fa fb fo : FE} {ft fu : FT} {fl : FA} {A : DK} {fs gs : FS} {g : FG} {g2 : G2} {gc : GC} {gm : GM} {N : Rho → Sto → Prop} {QT : Bool → Sto → Prop} {QA : List D → Sto → Prop}
@[simp] theorem z_var {i : Nat} : fVar i ρ μ Q E ↔ ∃ d, ρ[i]? = some (some d) ∧ Q d μ := Iff.rfl
@[simp] theorem z_c {d : D} : fC d ρ μ Q E ↔ Q d μ := Iff.rfl
@[simp] theorem z_op : fOp g2 fa fb ρ μ Q E ↔ fa ρ μ (fun x m => fb ρ m (fun y m2 => g2 x y m2 Q) E) E := Iff.rfl
@[simp] theorem z_b : fB f ρ μ QT E ↔ f ρ μ (fun d m => ∃ b, d = .bl b ∧ QT b m) E := Iff.rfl
@[simp] theorem z_not : fNot ft ρ μ QT E ↔ ft ρ μ (fun b m => QT (!b) m) E := Iff.rfl
@[simp] theorem z_and : fAnd ft fu ρ μ QT E ↔ ft ρ μ (fun b m => if b = true then fu ρ m QT E else QT false m) E := Iff.rfl
@[simp] theorem z_or : fOr ft fu ρ μ QT E ↔ ft ρ μ (fun b m => if b = true then QT true m else fu ρ m QT E) E := Iff.rfl
@[simp] theorem z_if : fIf ft fa fb ρ μ Q E ↔ ft ρ μ (fun b m => if b = true then fa ρ m Q E else fb ρ m Q E) E := Iff.rfl
@[simp] theorem z_nil : fNil ρ μ QA E ↔ QA [] μ := Iff.rfl
@[simp] theorem z_cons : fCons f fl ρ μ QA E ↔ f ρ μ (fun d m => fl ρ m (fun ds m2 => QA (d :: ds) m2) E) E := Iff.rfl
@[simp] theorem z_lstD : fLstD fl ρ μ Q E ↔ fl ρ μ (fun ds m => gD ds m Q) E := Iff.rfl
@[simp] theorem z_lstC : fLstC fl ρ μ Q E ↔ fl ρ μ (fun ds m => gC ds m Q) E := Iff.rfl
@[simp] theorem z_tup : fTup fl ρ μ Q E ↔ fl ρ μ (fun ds m => ds.length ≤ sizeLine ∧ Q (.tup ds) m) E := Iff.rfl
@[simp] theorem z_gD {ds : List D} : gD ds μ Q ↔ ds.length ≤ sizeLine ∧ Q (.lst ds) μ := Iff.rfl
@[simp] theorem z_gC {ds : List D} : gC ds μ Q ↔ ds.length ≤ sizeLine ∧ Q (.cell μ.length) (μ ++ [.lst ds]) := Iff.rfl
@[simp] theorem z_cb : fCB gc fl ρ μ Q E ↔ fl ρ μ (fun ds m => gc ds m Q) E := Iff.rfl
@[simp] theorem z_bl : fBL gm fo fl ρ μ Q E ↔ fo ρ μ (fun x m1 => (∃ ds, asL m1 x = some ds) ∧ fl ρ m1 (fun ds m2 => gm x ds m2 Q) E) E := Iff.rfl
@[simp] theorem z_call {F : FD} {dds : List D} : fCall F dds fl ρ μ Q E ↔ fl ρ μ (fun ds m => F (ds ++ dds) m Q (fun c l m' => E c l ρ m')) E := Iff.rfl
@[simp] theorem z_slL {lo hi : FO} : fSlL fo lo hi ρ μ Q E ↔ fo ρ μ (fun x m1 => lo ρ m1 (fun l m2 => hi ρ m2 (fun h m3 => ∃ ds, asL m3 x = some ds ∧ gNewL (cutD ds l h) m3 Q) E) E) E := Iff.rfl
@[simp] theorem z_slD {lo hi : FO} : fSlD fo lo hi ρ μ Q E ↔ fo ρ μ (fun x m1 => lo ρ m1 (fun l m2 => hi ρ m2 (fun h m3 => ∃ ds, asL m3 x = some ds ∧ gD (cutD ds l h) m3 Q) E) E) E := Iff.rfl
@[simp] theorem z_oNo {QO : Option Int → Sto → Prop} : oNo ρ μ QO E ↔ QO none μ := Iff.rfl
@[simp] theorem z_oYes {QO : Option Int → Sto → Prop} : oYes f ρ μ QO E ↔ f ρ μ (fun d m => ∃ i, d = .int i ∧ QO (some i) m) E := Iff.rfl
@[simp] theorem z_neP {x y : D} : neP x y μ Q ↔ ∃ p q, pyS μ x = some p ∧ pyS μ y = some q ∧ SeqAt.shaped p = true ∧ SeqAt.shaped q = true ∧ Q (.bl (!PyData.eqv p q)) μ := Iff.rfl
@[simp] theorem z_strAdd {x y : D} : strAdd x y μ Q ↔ ∃ s t : Str, x = .str s ∧ y = .str t ∧ addD (.str s) (.str t) μ Q := Iff.rfl
@[simp] theorem z_join {fe : FE} : fJoin fo fe ρ μ Q E ↔ fo ρ μ (fun x m1 => ∃ a, x = .str a ∧ fe ρ m1 (fun d m2 => ∃ ys : List Str, asS m2 d = some (ys.map D.str) ∧ (ys.map (·.length)).sum + ys.length * a.length ≤ 16777216 ∧ Q (.str (Txt.join a ys)) m2) E) E := Iff.rfl
@[simp] theorem z_neg : fNeg f ρ μ Q E ↔ f ρ μ (fun d m => ∃ i, d = .int i ∧ Q (.int (-i)) m) E := Iff.rfl
-- statements
@[simp] theorem z_seq : sSeq fs gs A ρ μ ↔ fs { A with nx := fun ρ' μ' => gs A ρ' μ' } ρ μ := Iff.rfl
@[simp] theorem z_next : sNext A ρ μ ↔ A.nx ρ μ := Iff.rfl
@[simp] theorem z_break : sBreak A ρ μ ↔ A.bk ρ μ := Iff.rfl
@[simp] theorem z_cont : sCont A ρ μ ↔ A.ct ρ μ := Iff.rfl
@[simp] theorem z_drop : sDrop f A ρ μ ↔ f ρ μ (fun _ m => A.nx ρ m) A.ex := Iff.rfl
@[simp] theorem z_ret : sRet f A ρ μ ↔ f ρ μ A.rt A.ex := Iff.rfl
@[simp] theorem z_ifS : sIf ft fs gs A ρ μ ↔ ft ρ μ (fun b m => if b = true then fs A ρ m else gs A ρ m) A.ex := Iff.rfl
@[simp] theorem z_asg : sAsg f g A ρ μ ↔ f ρ μ (fun d m => g d ρ m A.nx) A.ex := Iff.rfl
@[simp] theorem z_par {i j : Nat} : sPar i j fl A ρ μ ↔ fl ρ μ (fun ds m => ∃ x y, ds = [x, y] ∧ A.nx ((ρ.set i (some x)).set j (some y)) m) A.ex := Iff.rfl
@[simp] theorem z_tgn {i : Nat} {d : D} : tgName i d ρ μ N ↔ N (ρ.set i (some d)) μ := Iff.rfl
@[simp] theorem z_tgT {n : Nat} {h : FGs} {d : D} : tgTup n h d ρ μ N ↔ ∃ ds, d = .tup ds ∧ ds.length = n ∧ h ds ρ μ N := Iff.rfl
@[simp] theorem z_tgC {h : FGs} {ds : List D} : tgCons g h ds ρ μ N ↔ ∃ d r, ds = d :: r ∧ g d ρ μ (fun ρ' μ' => h r ρ' μ' N) := Iff.rfl
@[simp] theorem z_tgN {ds : List D} : tgNil ds ρ μ N ↔ ds = [] ∧ N ρ μ := Iff.rfl
@[simp] theorem z_tgL {fi : FE} {d : D} : tgIxL fo fi d ρ μ N ↔ fo ρ μ (fun x m1 => fi ρ m1 (fun y m2 => ∃ n ds k j, x = .cell n ∧ m2[n]? = some (.lst ds) ∧ y = .int k ∧ ixN ds.length k = some j ∧ N ρ (m2.set n (.lst (ds.set j d)))) NE) NE := Iff.rfl
-- operators
@[simp] theorem z_addI {x y : D} : addI x y μ Q ↔ ∃ i j, x = .int i ∧ y = .int j ∧ Q (.int (i + j)) μ := Iff.rfl
@[simp] theorem z_subI {x y : D} : subD x y μ Q ↔ ∃ i j, x = .int i ∧ y = .int j ∧ Q (.int (i - j)) μ := Iff.rfl
@[simp] theorem z_mulI {x y : D} : mulI x y μ Q ↔ ∃ i j, x = .int i ∧ y = .int j ∧ CMulW i j ∧ Q (.int (i * j)) μ := Iff.rfl
@[simp] theorem z_modI {x y : D} : modD x y μ Q ↔ ∃ i j, x = .int i ∧ y = .int j ∧ 0 < j ∧ Q (.int (i % j)) μ := Iff.rfl
@[simp] theorem z_fdiv {x y : D} : fdivD x y μ Q ↔ ∃ i j, x = .int i ∧ y = .int j ∧ CDivW i j ∧ Q (.int (i / j)) μ := Iff.rfl
@[simp] theorem z_pow {x y : D} : powD x y μ Q ↔ ∃ i j, x = .int i ∧ y = .int j ∧ CPow i j ∧ Q (.int (i ^ j.toNat)) μ := Iff.rfl
@[simp] theorem z_catD {x y : D} : catD x y μ Q ↔ ∃ xs ys, asL μ x = some xs ∧ asL μ y = some ys ∧ gD (xs ++ ys) μ Q := Iff.rfl
@[simp] theorem z_eqI {x y : D} : eqI x y μ Q ↔ ∃ i j, x = .int i ∧ y = .int j ∧ Q (.bl (decide (i = j))) μ := Iff.rfl
@[simp] theorem z_eqS {x y : D} : eqS x y μ Q ↔ ∃ i j : Str, x = .str i ∧ y = .str j ∧ Q (.bl (decide (i = j))) μ := Iff.rfl
@[simp] theorem z_neI {x y : D} : neI x y μ Q ↔ ∃ i j, x = .int i ∧ y = .int j ∧ Q (.bl (!decide (i = j))) μ := Iff.rfl
@[simp] theorem z_neS {x y : D} : neS x y μ Q ↔ ∃ i j : Str, x = .str i ∧ y = .str j ∧ Q (.bl (!decide (i = j))) μ := Iff.rfl
@[simp] theorem z_ixL {x y : D} : ixL x y μ Q ↔ ∃ ds i d, asS μ x = some ds ∧ y = .int i ∧ atI ds i = some d ∧ Q d μ := Iff.rfl
@[simp] theorem z_ixT {x y : D} : ixT x y μ Q ↔ ∃ (z : Str) (i : Int) (c : Nat), x = .str z ∧ y = .int i ∧ z.length ≤ sizeLine ∧ atI z.cps.toList i = some c ∧ Q (.str ⟨#[c]⟩) μ := Iff.rfl
@[simp] theorem z_in {b : Bool} {x y : D} : inD b x y μ Q ↔ ∃ ds, asS μ y = some ds ∧ flatD x = true ∧ ds.all flatD = true ∧ Q (.bl (if b then !inDD x ds else inDD x ds)) μ := Iff.rfl
@[simp] theorem z_lt {i j : Int} : ltD (.int i) (.int j) μ Q ↔ Q (.bl (decide (i < j))) μ := Iff.rfl
@[simp] theorem z_le {i j : Int} : leD (.int i) (.int j) μ Q ↔ Q (.bl (decide (i ≤ j))) μ := Iff.rfl
@[simp] theorem z_gt {x y : D} : gtD x y μ Q ↔ ∃ i j, x = .int i ∧ y = .int j ∧ Q (.bl (decide (j < i))) μ := Iff.rfl
@[simp] theorem z_ge {x y : D} : geD x y μ Q ↔ ∃ i j, x = .int i ∧ y = .int j ∧ Q (.bl (decide (j ≤ i))) μ := Iff.rfl
-- builtins
@[simp] theorem z_int {xs : List D} : gInt xs μ Q ↔ (∃ i, xs = [.int i] ∧ Q (.int i) μ) ∨ ∃ k, xs = [.bl k] ∧ Q (.int (if k then 1 else 0)) μ := Iff.rfl
@[simp] theorem z_listD {xs : List D} : gListD xs μ Q ↔ ∃ d ds, xs = [d] ∧ asS μ d = some ds ∧ gD ds μ Q := Iff.rfl
@[simp] theorem z_listC {xs : List D} : gListC xs μ Q ↔ ∃ d ds, xs = [d] ∧ asS μ d = some ds ∧ gC ds μ Q := Iff.rfl
@[simp] theorem z_tupO {xs : List D} : gTupOf xs μ Q ↔ ∃ d ds, xs = [d] ∧ asS μ d = some ds ∧ Q (.tup ds) μ := Iff.rfl
@[simp] theorem z_popAt {x : D} {ds : List D} : gPopAt x ds μ Q ↔ ∃ n xs i k y, x = .cell n ∧ ds = [.int i] ∧ μ[n]? = some (.lst xs) ∧ -(2 ^ 63) ≤ i ∧ i < 2 ^ 63 ∧ seqIndex? i xs.length = some k ∧ xs[k]? = some y ∧ Q y (μ.set n (.lst (xs.eraseIdx k))) := Iff.rfl
@[simp] theorem z_app {x : D} {ds : List D} : gApp x ds μ Q ↔ ∃ n xs y, x = .cell n ∧ ds = [y] ∧ μ[n]? = some (.lst xs) ∧ xs.length < sizeLine ∧ Q .non (μ.set n (.lst (xs ++ [y]))) := Iff.rfl
@[simp] theorem z_repr {xs : List D} : gRepr xs μ Q ↔ ∃ d p, xs = [d] ∧ pyS μ d = some p ∧ okR p ∧ Q (.str p.shown) μ := Iff.rfl
@[simp] theorem z_asS_t {ds : List D} : asS μ (.tup ds) = some ds := rfl
@[simp] theorem z_asS_l {ds : List D} : asS μ (.lst ds) = some ds := rfl
@[simp] theorem z_asL_l {ds : List D} : asL μ (.lst ds) = some ds := rfl
@[simp] theorem z_asL_c {n : Nat} {ds : List D} : asL μ (.cell n) = some ds ↔ μ[n]? = some (.lst ds) := by
  unfold asL
  dsimp only
  split
  · rename_i e; rw [e]; simp
  · rename_i h; constructor
    · intro z; cases z
    · intro z; exact absurd z (h ds)
@[simp] theorem z_asS_c {n : Nat} {ds : List D} : asS μ (.cell n) = some ds ↔ μ[n]? = some (.lst ds) := z_asL_c
end
theorem atI_nn {α : Type} (xs : List α) {i : Int} (h : 0 ≤ i) : atI xs i = xs[i.toNat]? := by
  unfold atI ixN
  rw [if_pos h]
  split
  · rfl
  · rw [List.getElem?_eq_none (by omega)]; rfl
@[simp] theorem atI_0 {α : Type} (xs : List α) : atI xs 0 = xs[0]? := atI_nn xs (by decide)
@[simp] theorem atI_1 {α : Type} (xs : List α) : atI xs 1 = xs[1]? := atI_nn xs (by decide)
@[simp] theorem atI_2 {α : Type} (xs : List α) : atI xs 2 = xs[2]? := atI_nn xs (by decide)
@[simp] theorem atI_3 {α : Type} (xs : List α) : atI xs 3 = xs[3]? := atI_nn xs (by decide)
end Dl

namespace Dl
open PySem PySem.Spec L2
open PyProof.Rows hiding St Binds

theorem seq_cut {fs gs : FS} {A : DK} {ρ : Rho} {μ : Sto} (P : Rho → Sto → Prop) (h2 : ∀ ρ' μ', P ρ' μ' → gs A ρ' μ') (h1 : ∀ N : Rho → Sto → Prop, (∀ ρ' μ', P ρ' μ' → N ρ' μ') → fs { A with nx := N } ρ μ) : sSeq fs gs A ρ μ := h1 _ h2
theorem ite_b {p : Prop} [Decidable p] {a b : Prop} (h1 : p → a) (h2 : ¬ p → b) : if decide p = true then a else b := by
  by_cases h : p
  · rw [if_pos (decide_eq_true h)]; exact h1 h
  · rw [if_neg (by simp [h])]; exact h2 h
theorem ite_n {p : Prop} [Decidable p] {a b : Prop} (h1 : ¬ p → a) (h2 : p → b) : if (!decide p) = true then a else b := by
  by_cases h : p
  · rw [if_neg (by simp [h])]; exact h2 h
  · rw [if_pos (by simp [h])]; exact h1 h
theorem ite_c {c : Bool} {a b : Prop} (h1 : c = true → a) (h2 : c = false → b) : if c = true then a else b := by
  cases c
  · rw [if_neg (by simp)]; exact h2 rfl
  · rw [if_pos rfl]; exact h1 rfl
theorem pyAll_ints : ∀ ns : List Int, pyAll (ns.map D.int) = some (ns.map PyData.int)
  | [] => rfl
  | n :: ns => by simp only [List.map_cons, pyAll, D.py, pyAll_ints ns]
theorem lay_ints : ∀ ns : List Int, PyData.canLayAll0 (ns.map PyData.int) = true
  | [] => by simp [PyData.canLayAll0]
  | n :: ns => by simp [PyData.canLayAll0, PyData.canLay0, lay_ints ns]
theorem depth_ints : ∀ ns : List Int, PyData.depthAll (ns.map PyData.int) ≤ 1
  | [] => by simp [PyData.depthAll]
  | n :: ns => by
    have := depth_ints ns
    simp only [List.map_cons, PyData.depthAll, PyData.depth]
    omega
theorem shaped_ints (ns : List Int) : SeqAt.shaped (.list (ns.map PyData.int)) = true := by
  have := depth_ints ns
  have h2 := lay_ints ns
  unfold SeqAt.shaped
  rw [show (PyData.list (ns.map PyData.int)).canLay0 = true by simp only [PyData.canLay0]; exact h2, Bool.true_and, decide_eq_true_eq]
  show PyData.depthAll _ + 1 ≤ 64
  omega
end Dl

namespace Dl
open PySem PySem.Spec L2
open PyProof.Rows hiding St Binds

mutual
theorem bd_mono {n m : Nat} (h : n ≤ m) : ∀ {d : D}, d.bd n = true → d.bd m = true
  | .non, _ => rfl
  | .bl _, _ => rfl
  | .int _, _ => rfl
  | .str _, _ => rfl
  | .lst ds, b => by unfold D.bd at b ⊢; exact bdL_mono h b
  | .tup ds, b => by unfold D.bd at b ⊢; exact bdL_mono h b
  | .dct ds, b => by unfold D.bd at b ⊢; exact bdK_mono h b
  | .ins _ ds, b => by unfold D.bd at b ⊢; exact bdF_mono h b
  | .cell k, b => by unfold D.bd at b ⊢; exact decide_eq_true (Nat.lt_of_lt_of_le (of_decide_eq_true b) h)
  | .ref _, _ => rfl
  | .ty _, _ => rfl
  | .fzl ds, b => by unfold D.bd at b ⊢; exact bdL_mono h b
theorem bdL_mono {n m : Nat} (h : n ≤ m) : ∀ {ds : List D}, bdL n ds = true → bdL m ds = true
  | [], _ => rfl
  | d :: ds, b => by unfold bdL at b ⊢; rw [Bool.and_eq_true] at b ⊢; exact ⟨bd_mono h b.1, bdL_mono h b.2⟩
theorem bdK_mono {n m : Nat} (h : n ≤ m) : ∀ {ds : List (Key × D)}, bdK n ds = true → bdK m ds = true
  | [], _ => rfl
  | (_, d) :: ds, b => by unfold bdK at b ⊢; rw [Bool.and_eq_true] at b ⊢; exact ⟨bd_mono h b.1, bdK_mono h b.2⟩
theorem bdF_mono {n m : Nat} (h : n ≤ m) : ∀ {ds : List (Str × D)}, bdF n ds = true → bdF m ds = true
  | [], _ => rfl
  | (_, d) :: ds, b => by unfold bdF at b ⊢; rw [Bool.and_eq_true] at b ⊢; exact ⟨bd_mono h b.1, bdF_mono h b.2⟩
end
theorem ctbd_mono {n m : Nat} (h : n ≤ m) {c : CT} (b : c.bd n = true) : c.bd m = true := by
  cases c with
  | lst ds => exact bdL_mono h b
  | dct ds => exact bdK_mono h b
  | lck ob kv ds => exact bdK_mono h b
  | ins C ds => exact bdF_mono h b
theorem bdS_mono {n m : Nat} (h : n ≤ m) {μ : Sto} (b : bdS n μ = true) : bdS m μ = true := by
  unfold bdS at b ⊢
  rw [List.all_eq_true] at b ⊢
  exact fun c hc => ctbd_mono h (b c hc)
theorem bdS_app {n : Nat} {μ ν : Sto} : bdS n (μ ++ ν) = (bdS n μ && bdS n ν) := List.all_append
theorem bdL_all {n : Nat} {ds : List D} : bdL n ds = true ↔ ∀ d ∈ ds, d.bd n = true := by
  induction ds with
  | nil => exact ⟨fun _ _ h => absurd h (by simp), fun _ => rfl⟩
  | cons d ds ih =>
    unfold bdL
    rw [Bool.and_eq_true, ih]
    exact ⟨fun ⟨a, b⟩ x h => (List.mem_cons.mp h).elim (fun e => e ▸ a) (b x), fun h => ⟨h d List.mem_cons_self, fun x hx => h x (List.mem_cons_of_mem _ hx)⟩⟩
theorem bdL_strs {n : Nat} (ss : List Str) : bdL n (ss.map D.str) = true := bdL_all.mpr fun d h => by
  obtain ⟨s, _, rfl⟩ := List.mem_map.mp h
  rfl
theorem bdL_ints {n : Nat} (ss : List Int) : bdL n (ss.map D.int) = true := bdL_all.mpr fun d h => by
  obtain ⟨s, _, rfl⟩ := List.mem_map.mp h
  rfl

/-- the stream of the draws -/
structure Dr where
  ns : List Int
  a : Int
  t : Int
  c : Int
structure Dr.ok (S : Dr) : Prop where
  a0 : 0 ≤ S.a
  t0 : 0 ≤ S.t
  c0 : 0 ≤ S.c
  c1 : S.c < 2147483647
abbrev Dr.sto (S : Dr) (rest : Sto) : Sto := .lst (S.ns.map .int) :: .lst [.cell 0, .int S.a, .int S.t, .int S.c] :: rest
/-- the cells behind the stream hold no reference to newer ones -/
def okRest (rest : Sto) : Prop := bdS (rest.length + 2) rest = true
theorem okRest.add {rest : Sto} {c : CT} (h : okRest rest) (b : c.bd (rest.length + 2) = true) : okRest (rest ++ [c]) := by
  unfold okRest at h ⊢
  rw [bdS_app, Bool.and_eq_true, List.length_append]
  refine ⟨bdS_mono (by omega) h, ?_⟩
  unfold bdS
  rw [List.all_cons, List.all_nil, Bool.and_true]
  exact ctbd_mono (by omega) b
theorem okRest.sto {S : Dr} {rest : Sto} (h : okRest rest) : bdS (S.sto rest).length (S.sto rest) = true := by
  unfold bdS
  show (CT.bd _ _ && (CT.bd _ _ && List.all rest _)) = true
  rw [Bool.and_eq_true, Bool.and_eq_true]
  refine ⟨bdL_ints _, ?_, h⟩
  show bdL _ _ = true
  simp [bdL, D.bd]
section
variable {S : Dr} {rest : Sto} {a b c : CT} {n : Nat}
theorem sto_app : S.sto rest ++ [a] = S.sto (rest ++ [a]) := rfl
theorem sto_app2 : S.sto (rest ++ [a]) ++ [b] = S.sto (rest ++ [a, b]) := by show CT.lst _ :: CT.lst _ :: (rest ++ [a] ++ [b]) = _; rw [List.append_assoc]; rfl
theorem sto_len : (S.sto rest).length = rest.length + 2 := rfl
theorem get_a (h : n = rest.length + 2) : (S.sto (rest ++ [a]))[n]? = some a := by subst h; simp
theorem get_ab (h : n = rest.length + 2) : (S.sto (rest ++ [a, b]))[n]? = some a := by subst h; simp
theorem get_bb (h : n = rest.length + 3) : (S.sto (rest ++ [a, b]))[n]? = some b := by
  subst h
  show (rest ++ [a, b])[rest.length + 1]? = _
  rw [List.getElem?_append_right (by omega)]
  simp
theorem set_a (h : n = rest.length + 2) : (S.sto (rest ++ [a])).set n c = S.sto (rest ++ [c]) := by
  subst h
  show CT.lst _ :: CT.lst _ :: (rest ++ [a]).set rest.length c = _
  rw [List.set_append_right _ _ (by omega)]
  simp
theorem set_ab (h : n = rest.length + 2) : (S.sto (rest ++ [a, b])).set n c = S.sto (rest ++ [c, b]) := by
  subst h
  show CT.lst _ :: CT.lst _ :: (rest ++ [a, b]).set rest.length c = _
  rw [List.set_append_right _ _ (by omega)]
  simp
theorem set_bb (h : n = rest.length + 3) : (S.sto (rest ++ [a, b])).set n c = S.sto (rest ++ [a, c]) := by
  subst h
  show CT.lst _ :: CT.lst _ :: (rest ++ [a, b]).set (rest.length + 1) c = _
  rw [List.set_append_right _ _ (by omega)]
  simp
theorem asS_of {n : Nat} {μ : Sto} {ds : List D} (h : μ[n]? = some (.lst ds)) : asS μ (.cell n) = some ds := z_asL_c.mpr h
theorem asL_of {n : Nat} {μ : Sto} {ds : List D} (h : μ[n]? = some (.lst ds)) : asL μ (.cell n) = some ds := z_asL_c.mpr h
end
theorem bd_lst {n : Nat} {ds : List D} (h : bdL n ds = true) : (D.lst ds).bd n = true := by unfold D.bd; exact h
theorem ix_nn {i : Int} {n : Nat} (h : 0 ≤ i) (h2 : i < n) : seqIndex? i n = some i.toNat := by
  unfold seqIndex?
  simp only [show ¬ i < 0 by omega, if_false]
  rw [if_pos (by simp [h, h2])]
/-! ### comprehensions in the sight of what they make -/
section
variable {g : FG} {ft : FT} {fe : FE} {ρ : Rho} {vs : List Nat} {Q : QD}
/-- the store stays: each item gives one, or none -/
theorem lc_pure {xs : List D} {st : Sto → Prop} {m : Sto} (p : D → Option D) (hst : ∀ c, st (m ++ [.lst c]))
    (turn : ∀ x, x ∈ xs → ∀ (acc : List D) (NX : D → Sto → Prop) (N0 : Sto → Prop), (∀ y, p x = some y → NX y (m ++ [.lst acc])) → (p x = none → N0 (m ++ [.lst acc])) →
      g x (wipeD ρ vs) (m ++ [.lst acc]) (fun ρ2 μ2 => ft ρ2 μ2 (fun b m3 => if b = true then fe ρ2 m3 NX NE else N0 m3) NE))
    (hl : xs.length ≤ sizeLine) (bd : bdL m.length (xs.filterMap p) = true) (bm : bdS m.length m = true) (q : Q (.lst (xs.filterMap p)) m) :
    ∃ I : Nat → Sto → Prop, I 0 (m ++ [.lst []]) ∧ (∀ i μ', I i μ' → st μ') ∧
      (∀ i x μ', xs[i]? = some x → I i μ' → g x (wipeD ρ vs) μ' (fun ρ2 μ2 => ft ρ2 μ2 (fun b m3 =>
        if b = true then fe ρ2 m3 (fun y m4 => ∃ acc, m4[m.length]? = some (.lst acc) ∧ acc.length < sizeLine ∧ I (i + 1) (m4.set m.length (.lst (acc ++ [y])))) NE else I (i + 1) m3) NE)) ∧
      ∀ μ', I xs.length μ' → ∃ d2 μ2, Fz m.length (.cell m.length) μ' d2 μ2 ∧ Q d2 μ2 := by
  have fl : ∀ l : List D, (l.filterMap p).length ≤ l.length := fun l => List.length_filterMap_le p l
  refine ⟨fun i μ' => μ' = m ++ [.lst ((xs.take i).filterMap p)], rfl, fun i μ' e => by rw [e]; exact hst _, ?_, ?_⟩
  · rintro i x μ' hx rfl
    have ht : xs.take (i + 1) = xs.take i ++ [x] := by rw [List.take_add_one, hx]; rfl
    refine turn x (List.mem_of_getElem? hx) _ _ _ (fun y hy => ⟨(xs.take i).filterMap p, by simp, ?_, ?_⟩) (fun hn => ?_)
    · have h1 := fl (xs.take i)
      have h2 : (xs.take i).length ≤ i := by rw [List.length_take]; omega
      have h3 := (List.getElem?_eq_some_iff.mp hx).1
      omega
    · dsimp only
      rw [List.set_append_right _ _ (Nat.le_refl _), Nat.sub_self, ht, List.filterMap_append]
      simp [hy]
    · dsimp only
      rw [ht, List.filterMap_append]
      simp [hn]
  · rintro μ' rfl
    rw [List.take_length]
    exact ⟨_, _, .lst (Nat.le_refl _) bd bm .refl, q⟩
/-- draws on the way -/
theorem lc_draw {xs : List D} {st : Sto → Prop} {S : Dr} {rest : Sto} (cost : Int) (R : Nat → List D → Prop) (ok : S.ok) (okr : okRest rest) (hst : ∀ (S' : Dr) c, st (S'.sto (rest ++ [.lst c]))) (R0 : R 0 [])
    (turn : ∀ (i : Nat) x (acc : List D) (S' : Dr), xs[i]? = some x → i < xs.length → S'.ok → S.t ≤ S'.t → S'.t ≤ S.t + i * cost → R i acc → ∀ (NX : D → Sto → Prop) (N0 : Sto → Prop),
      (∀ y (S2 : Dr), S2.ok → S'.t ≤ S2.t → S2.t ≤ S'.t + cost → R (i + 1) (acc ++ [y]) → NX y (S2.sto (rest ++ [.lst acc]))) →
      (∀ (S2 : Dr), S2.ok → S'.t ≤ S2.t → S2.t ≤ S'.t + cost → R (i + 1) acc → N0 (S2.sto (rest ++ [.lst acc]))) →
      g x (wipeD ρ vs) (S'.sto (rest ++ [.lst acc])) (fun ρ2 μ2 => ft ρ2 μ2 (fun b m3 => if b = true then fe ρ2 m3 NX NE else N0 m3) NE))
    (hR : ∀ i acc, R i acc → acc.length ≤ i) (hl : xs.length ≤ sizeLine) (bd : ∀ acc, R xs.length acc → bdL (rest.length + 2) acc = true)
    (q : ∀ acc (S' : Dr), R xs.length acc → S'.ok → S.t ≤ S'.t → S'.t ≤ S.t + xs.length * cost → Q (.lst acc) (S'.sto rest)) :
    ∃ I : Nat → Sto → Prop, I 0 (S.sto rest ++ [.lst []]) ∧ (∀ i μ', I i μ' → st μ') ∧
      (∀ i x μ', xs[i]? = some x → I i μ' → g x (wipeD ρ vs) μ' (fun ρ2 μ2 => ft ρ2 μ2 (fun b m3 =>
        if b = true then fe ρ2 m3 (fun y m4 => ∃ acc, m4[(S.sto rest).length]? = some (.lst acc) ∧ acc.length < sizeLine ∧ I (i + 1) (m4.set (S.sto rest).length (.lst (acc ++ [y])))) NE else I (i + 1) m3) NE)) ∧
      ∀ μ', I xs.length μ' → ∃ d2 μ2, Fz (S.sto rest).length (.cell (S.sto rest).length) μ' d2 μ2 ∧ Q d2 μ2 := by
  have step : ∀ (i : Nat) (a b : Int), a ≤ S.t + i * cost → b ≤ a + cost → b ≤ S.t + (i + 1 : Nat) * cost := fun i a b h1 h2 => by
    have e : ((i + 1 : Nat) : Int) * cost = i * cost + cost := by rw [Int.natCast_add, Int.add_mul]; simp
    omega
  refine ⟨fun i μ' => ∃ (S' : Dr) (acc : List D), S'.ok ∧ S.t ≤ S'.t ∧ S'.t ≤ S.t + i * cost ∧ R i acc ∧ μ' = S'.sto (rest ++ [.lst acc]), ⟨S, [], ok, Int.le_refl _, by simp, R0, rfl⟩, ?_, ?_, ?_⟩
  · rintro i μ' ⟨S', acc, _, _, _, _, rfl⟩; exact hst S' acc
  · rintro i x μ' hx ⟨S', acc, ok', t1, t2, hr, rfl⟩
    have hi := (List.getElem?_eq_some_iff.mp hx).1
    refine turn i x acc S' hx hi ok' t1 t2 hr _ _ (fun y S2 ok2 u1 u2 hr2 => ⟨acc, get_a sto_len, by have := hR _ _ hr; omega, ?_⟩) (fun S2 ok2 u1 u2 hr2 => ⟨S2, acc, ok2, by omega, step i _ _ t2 u2, hr2, rfl⟩)
    exact ⟨S2, acc ++ [y], ok2, by omega, step i _ _ t2 u2, hr2, set_a sto_len⟩
  · rintro μ' ⟨S', acc, ok', t1, t2, hr, rfl⟩
    exact ⟨_, _, .lst (μ := S'.sto rest) (Nat.le_refl _) (bd acc hr) okr.sto .refl, q acc S' hr ok' t1 t2⟩
end
theorem eqDD_str {a b : Str} : eqDD (.str a) (.str b) = decide (a = b) := by
  show (a == b) = _
  rfl
theorem inDD_strs {s : Str} {tk : List Str} : inDD (.str s) (tk.map .str) = decide (s ∈ tk) := by
  unfold inDD
  rw [List.any_map]
  rw [Bool.eq_iff_iff]
  simp only [List.any_eq_true, decide_eq_true_eq, Function.comp, eqDD_str]
  exact ⟨fun ⟨x, h, e⟩ => e ▸ h, fun h => ⟨s, h, rfl⟩⟩
theorem flat_strs (tk : List Str) : (tk.map D.str).all flatD = true := by
  rw [List.all_eq_true]
  intro d h
  obtain ⟨s, _, rfl⟩ := List.mem_map.mp h
  rfl
theorem nodup_le : ∀ {l tk : List Str}, l.Nodup → (∀ x ∈ l, x ∈ tk) → l.length ≤ tk.length
  | [], _, _, _ => Nat.zero_le _
  | x :: l, tk, hn, h => by
    obtain ⟨h1, h2⟩ := List.nodup_cons.mp hn
    have hx := h x List.mem_cons_self
    have ih := nodup_le (tk := tk.erase x) h2 fun y hy => (List.mem_erase_of_ne (show y ≠ x from fun e => h1 (e ▸ hy))).mpr (h y (List.mem_cons_of_mem _ hy))
    rw [List.length_erase_of_mem hx] at ih
    have := List.length_pos_of_mem hx
    show l.length + 1 ≤ _
    omega
theorem app_chars (a b : Str) : (a ++ b).cps.toList = a.cps.toList ++ b.cps.toList := by
  show (a.cps ++ b.cps).toList = _
  simp
theorem join_chars (cs : List Nat) : (Txt.join (Str.ofString "") (cs.map fun c => (⟨#[c]⟩ : Str))).cps.toList = cs := by
  show (Builtin.Str.glued _ _).cps.toList = cs
  rw [StrLaws.glued_eq_join]
  have e0 : (Str.ofString "").cps.toList = [] := by decide
  have key : ∀ cs : List Nat, (Str.join (Str.ofString "") (cs.map fun c => (⟨#[c]⟩ : Str))).cps.toList = cs := by
    intro cs
    induction cs with
    | nil => rfl
    | cons c cs ih =>
      cases cs with
      | nil => rfl
      | cons d r =>
        show ((⟨#[c]⟩ : Str) ++ Str.ofString "" ++ Str.join (Str.ofString "") ((d :: r).map fun c => (⟨#[c]⟩ : Str))).cps.toList = _
        rw [app_chars, app_chars, e0, ih]
        rfl
  exact key cs
/-- a name: 1 to 8 small letters, none of the words -/
def Reserved : List Str := ["and", "or", "not", "always", "never"]
structure NameOk (s : Str) : Prop where
  pos : 1 ≤ s.cps.toList.length
  le : s.cps.toList.length ≤ 8
  low : ∀ c ∈ s.cps.toList, 97 ≤ c ∧ c ≤ 122
  res : s ∉ Reserved
def abc : List Nat := (Str.ofString "abcdefghijklmnopqrstuvwxyz").cps.toList
theorem abc_low : ∀ c ∈ abc, 97 ≤ c ∧ c ≤ 122 := by decide +kernel
theorem abc_len : abc.length = 26 := by decide +kernel
def qs : List Str := (Str.ofString "abcdefghijklmnopqrst").cps.toList.map fun c => (Str.ofString "q" ++ ⟨#[c]⟩ : Str)
theorem qs_len : qs.length = 20 := by decide +kernel
theorem qs_nodup : qs.Nodup := by decide +kernel
theorem qs_ok : ∀ s ∈ qs, NameOk s := by
  have h : ∀ s ∈ qs, 1 ≤ s.cps.toList.length ∧ s.cps.toList.length ≤ 8 ∧ (∀ c ∈ s.cps.toList, 97 ≤ c ∧ c ≤ 122) ∧ s ∉ Reserved := by decide +kernel
  exact fun s hs => ⟨(h s hs).1, (h s hs).2.1, (h s hs).2.2.1, (h s hs).2.2.2⟩
theorem sum_ones : ∀ cs : List Nat, ((cs.map fun c => (⟨#[c]⟩ : Str)).map (·.length)).sum = cs.length
  | [] => rfl
  | c :: cs => by
    rw [List.map_cons, List.map_cons, List.sum_cons, sum_ones cs]
    show 1 + _ = cs.length + 1
    omega
def pQ : D → Option D
  | .str t => some (.str (Str.ofString "q" ++ t))
  | _ => none
def pN (tk : List Str) : D → Option D
  | .str t => if t ∈ tk then none else some (.str t)
  | _ => none
theorem pN_map (tk : List Str) : ∀ l : List Str, (l.map D.str).filterMap (pN tk) = (l.filter fun t => decide (t ∉ tk)).map D.str
  | [] => rfl
  | t :: l => by
    rw [List.map_cons, List.filterMap_cons, pN_map tk l, List.filter_cons]
    by_cases h : t ∈ tk
    · simp [pN, h]
    · simp [pN, h]
theorem qs_some {tk : List Str} (h : tk.length ≤ 15) : ∃ s l, (qs.filter fun t => decide (t ∉ tk)) = s :: l ∧ s ∈ qs ∧ s ∉ tk := by
  cases e : qs.filter fun t => decide (t ∉ tk) with
  | nil =>
    have := nodup_le (tk := tk) qs_nodup fun x hx => by
      rw [List.filter_eq_nil_iff] at e
      have := e x hx
      simpa using this
    rw [qs_len] at this
    omega
  | cons s l =>
    have : s ∈ qs.filter fun t => decide (t ∉ tk) := by rw [e]; exact List.mem_cons_self
    rw [List.mem_filter] at this
    exact ⟨s, l, rfl, this.1, by simpa using this.2⟩
end Dl

namespace Dl
open PySem PySem.Spec L2
open PyProof.Rows hiding St Binds

/-- the law's call, where nothing that guards against itself is under way -/
theorem callG {P : Program} {w : World} {K : W.Frag} {mg mb : Str → Option Value} {k : Nat} {fa a : Addr} {fd : FuncData} {x : Str} {sp : Sp} {s : Shared} {us : List Value} {ns : List Int}
    (inK : K.In s.heap) (gns : s.heap.Ns mainGlobals mg) (bns : s.heap.Ns builtinsNs mb) (boot : ∀ y : Str, y ≠ "__name__" → mb y = bootBuiltins y) (nl : s.heap.NoLimit) (ng : s.gens = #[])
    (at_a : s.heap.get? a = some { cls := .type "list", data := .seq us.toArray }) (allInt : IntsAre us ns) (few : ns.length ≤ sizeLine) (room : Room k callerA)
    (F : ∀ base : Heap, K.In base → base.Ns mainGlobals mg → FnG P w K mg base (L2.CX P w) k fa fd [x] sp) (bind : ∀ (s : Shared) (u : Value), BindsTo s fd ⟨[u], []⟩ [(x, u)])
    (wish : ∀ H : Hp, Only H → SqL K H a (ns.map V.int) → sp [.ref a] H (fun v _ => v = .bl true) fun _ _ _ => False) :
    codeAny (model P w) callerA (.call (.ref fa) ⟨[.ref a], []⟩) (fun r s' => r = .ok (.ret (.bool true)) ∧ OldK s.heap s'.heap ∧ s'.os = s.os ∧ AllBare s'.gens) s := by
  have many := allInt.length
  have vals := vals_ints allInt
  suffices run : ∀ H : Hp, Only H → SqL K H a (ns.map V.int) → HOk P w H s.heap → (∀ b, b ≠ a → H b = none) → (K.lookup a ≠ none → H a = none) →
      codeAny (model P w) callerA (.call (.ref fa) ⟨[.ref a], []⟩) (fun r s' => r = .ok (.ret (.bool true)) ∧ OldK s.heap s'.heap ∧ s'.os = s.os ∧ AllBare s'.gens) s by
    cases own : K.lookup a with
    | none =>
      let O : Obj := { cls := .type "list", data := .seq us.toArray }
      let H1 : Hp := fun b => if b = a then some (.frz O (.lst (ns.map V.int))) else none
      have H1a : H1 a = some (.frz O (.lst (ns.map V.int))) := if_pos rfl
      have H1b : ∀ b, b ≠ a → H1 b = none := fun b n => if_neg n
      refine run H1 (fun b => ?_) (.inl (.inr ⟨O, H1a⟩)) (fun b u e => ?_) H1b fun n => absurd own n
      · by_cases e : b = a
        · exact .inr ⟨O, _, e ▸ H1a⟩
        · exact .inl (H1b b e)
      · by_cases eb : b = a
        · subst eb
          rw [H1a] at e; cases e
          exact ⟨at_a, by rw [List.length_map]; exact few, us, _, vals, at_a⟩
        · rw [H1b b eb] at e; cases e
    | some o =>
      have eo := inK a o own
      rw [at_a] at eo
      cases eo
      exact run (fun _ => none) (fun _ => .inl rfl) (.inr ⟨_, us.toArray, _, own, rfl, rfl, rfl, by rw [List.size_toArray, many]; exact few, by simpa using vals⟩) (fun b u e => nomatch (show (none : Option HO) = some u from e))
        (fun _ _ => rfl) fun _ => rfl
  intro H only seq hok elsewhere ownA
  have dictFree : ∀ {b : Addr} {o : Obj} {es : Array DictEntry} {ep : Nat}, s.heap.get? b = some o → o.data = .dict es ep → H b = none := by
    intro b o es ep e d
    by_cases eb : b = a
    · subst eb
      rw [at_a] at e; cases e
      exact nomatch (show Data.seq us.toArray _ = Data.dict es ep from d)
    · exact elsewhere b eb
  have nsOf : ∀ {b : Addr} {m : Str → Option Value}, s.heap.Ns b m → (hidT s.heap H).Ns b m := by
    rintro b m ⟨o, es, ep, e, d, r⟩
    exact ⟨o, es, ep, hidT_get e (dictFree e d), d, r⟩
  have KB : K.In (hidT s.heap H) := by
    intro b o e
    refine hidT_get (inK b o e) ?_
    by_cases eb : b = a
    · subst eb; exact ownA (by rw [e]; simp)
    · exact elsewhere b eb
  have limB : (hidT s.heap H).NoLimit := by
    obtain ⟨mc, n1, n2⟩ := nl
    exact ⟨mc, nsOf n1, n2⟩
  have none_in : ∀ b : Addr, b ∉ ([] : List Addr) := fun b => by simp
  have E0 : Env0 P w K mg (hidT s.heap H) callerA [] s H :=
    ⟨rfl, ⟨KB, nsOf gns, ⟨mb, nsOf bns, boot⟩, limB⟩, fun b o e => of_hidT e, Nat.le_of_eq (hidT_size _ _), trivial, fun b hb => absurd hb (none_in b), hok, .of_eq ng⟩
  have ran := (F _ KB (nsOf gns)).go callerA [] s H ⟨[.ref a], []⟩ [.ref a] [.ref a] _ _ rfl room E0 (bind s (.ref a)) (.cons rfl .nil) (wish H only seq)
  refine codeAny_mono ran fun r s' q => ?_
  match r, q with
  | .error e, q =>
    obtain ⟨_, _, _, _, _, _, _, _, _, _, _, _, z⟩ := q
    exact z.elim
  | .ok .next, q => exact False.elim q
  | .ok .brk, q => exact False.elim q
  | .ok .cont, q => exact False.elim q
  | .ok (.ret u), q =>
    obtain ⟨v, H2, os, bare, un, hok2, rel, ev⟩ := q
    cases (show v = .bl true from ev)
    cases (show u = Value.bool true from rel)
    refine ⟨rfl, OldK.of_keep fun b o e => ?_, os, bare⟩
    rcases only b with n | ⟨ob, ys, f⟩
    · exact un.keep b o e n (fun z => none_in b z) (none_in b)
    · obtain ⟨o1, _⟩ := hok b _ f
      obtain ⟨o2, _⟩ := hok2 b _ (un.frzs b ob _ f)
      rw [e] at o1; cases o1
      exact o2
end Dl

namespace Dl
open PySem PySem.Spec L2
open PyProof.Rows hiding St Binds

/-! ### the law's end over it -/
theorem walkY {l : PySem.W.OpenLaw} {n k : Nat} {q : Program} {loose : List Str} {XP : (Str → Option Value) → Heap → Prop} {YP : World → Heap → Prop} {d : DefRec} {F : FD} {x : Str}
    (most : l.most = some n) (few : n ≤ sizeLine) (nod : d.params.defaults = []) (room : Room k callerA)
    (G : ∀ (w : World) (mg : Str → Option Value) (fa : Addr) (h : Heap), YP w h → h.Ns mainGlobals mg → mg d.name = some (.ref fa) →
      ∃ K : PySem.W.Frag, K.In h ∧ ∃ fd : FuncData, (∀ (s : Shared) (u : Value), BindsTo s fd ⟨[u], []⟩ [(x, u)]) ∧
        ∀ base : Heap, K.In base → base.Ns mainGlobals mg → FnG l.prog w K mg base (L2.CX l.prog w) k fa fd [x] (spD K F))
    (law : ∀ (ns : List Int) (Q : QD) (E : XD), ns.length ≤ n → (∀ μ, Q (.bl true) μ) → F [.fzl (ns.map .int)] [] Q E) :
    PySem.W.WalkO q loose XP YP l.row.toRowW d [] (fun f vs => PySem.call f vs) := by
  refine Att.attach_call most nod fun w s0 s1 mg mb fa o pm cd doc a us ns T Y ho hd hcd hmg obj allInt len ng => ?_
  obtain ⟨K, inK, fd, bind, go⟩ := G w mg fa _ Y T.T.g hmg
  refine callG inK T.T.g T.T.b T.T.builtins T.T.nolimit ng obj allInt (Nat.le_trans len few) room go bind fun H only seq => ?_
  refine ⟨[], [], [.fzl (ns.map .int)], ⟨rfl, List.nodup_nil, fun n a c e => by simp at e⟩, Ats.cons ?_ Ats.nil, law ns _ _ len fun μ ι' H' v _ _ av => by cases av; rfl⟩
  have at_ : Ats K [] H (ns.map V.int) (ns.map D.int) := by
    refine ⟨by simp, fun i v d e1 e2 => ?_⟩
    rw [List.getElem?_map, Option.map_eq_some_iff] at e1 e2
    obtain ⟨m, h1, rfl⟩ := e1
    obtain ⟨m', h2, rfl⟩ := e2
    rw [h1] at h2; cases h2
    exact .int _
  refine .fzl ?_ at_.1 at_.2
  rcases seq with (e | ⟨ob, e⟩) | own
  · rcases only a with n | ⟨ob, ys, f⟩
    · rw [n] at e; cases e
    · rw [f] at e; cases e
  · exact .inl ⟨ob, e, by simp⟩
  · exact .inr fun _ => .inr own
end Dl

namespace Dl
open PySem PySem.Spec L2
open PyProof.Rows hiding St Binds

/-! ### a dict that is walked: locked meanwhile -/
def RdO (o u : HO) : Prop := o = u ∨ ∃ ob, o = .frz ob u
section
variable {K : PySem.W.Frag} {ι ι' : Io} {H H' : Hp} {a : Addr} {kv : List (Key × V)} {o' : HO} {v : V} {d : D} {μ : Sto} {σ : L2.St} {ρ : Rho}
theorem rd_ne (ha : Rd H a (.dK kv)) {b : Addr} {o : HO} (hb : H b = some o) (no : ∀ kv, ¬ RdO o (.dK kv)) : b ≠ a := fun e => by
  subst e
  rcases ha with h | ⟨ob, h⟩
  · rw [h] at hb; cases hb; exact no kv (.inl rfl)
  · rw [h] at hb; cases hb; exact no kv (.inr ⟨ob, rfl⟩)
theorem rd_tup_ne (ha : Rd H a (.dK kv)) {b : Addr} {vs : List V} (hb : Rd H b (.tup vs)) : b ≠ a := by
  rcases hb with h | ⟨ob, h⟩
  · exact rd_ne ha h fun kv z => by rcases z with z | ⟨_, z⟩ <;> cases z
  · exact rd_ne ha h fun kv z => by rcases z with z | ⟨_, z⟩ <;> cases z
theorem rd_same (ha : Rd H a (.dK kv)) {kv' : List (Key × V)} (hb : Rd H a (.dK kv')) : kv' = kv := by
  rcases ha with h | ⟨ob, h⟩ <;> rcases hb with h' | ⟨ob', h'⟩ <;> rw [h] at h' <;> cases h' <;> rfl
theorem rd_upd_ne {b : Addr} {u : HO} (h : Rd H b u) (n : b ≠ a) : Rd (upd H a o') b u := by
  rcases h with h | ⟨ob, h⟩
  · exact .inl (by rw [upd_ne n]; exact h)
  · exact .inr ⟨ob, by rw [upd_ne n]; exact h⟩
theorem rd_upd (ho : RdO o' (.dK kv)) : Rd (upd H a o') a (.dK kv) := by
  rcases ho with rfl | ⟨ob, rfl⟩
  · exact .inl upd_same
  · exact .inr ⟨ob, upd_same⟩
theorem no_lst {vs : List V} : ∀ kv, ¬ RdO (.lst vs) (.dK kv) := fun kv z => by rcases z with z | ⟨_, z⟩ <;> cases z
theorem no_ins {C dx : Addr} {fs : List (Str × V)} : ∀ kv, ¬ RdO (.ins C dx fs) (.dK kv) := fun kv z => by rcases z with z | ⟨_, z⟩ <;> cases z
theorem no_fzl {ob : Obj} {vs : List V} : ∀ kv, ¬ RdO (.frz ob (.lst vs)) (.dK kv) := fun kv z => by rcases z with z | ⟨_, z⟩ <;> cases z
theorem At.relock (ha : Rd H a (.dK kv)) (ho : RdO o' (.dK kv)) (h : At K ι H v d) : At K ι (upd H a o') v d := by
  induction h with
  | non => exact .non
  | bl b => exact .bl b
  | int i => exact .int i
  | str s => exact .str s
  | lst h n l _ ih => exact .lst (by rw [upd_ne (rd_ne ha h no_lst)]; exact h) n l ih
  | tup h n l _ ih => exact .tup (rd_upd_ne h (rd_tup_ne ha h)) n l ih
  | ktup h l _ ih => exact .ktup h l ih
  | @dct b kv' kd h n l _ ih =>
    by_cases e : b = a
    · subst e
      cases rd_same ha h
      exact .dct (rd_upd ho) n l ih
    · exact .dct (rd_upd_ne h e) n l ih
  | ins h n l _ ih => exact .ins (by rw [upd_ne (rd_ne ha h no_ins)]; exact h) n l ih
  | cell h => exact .cell h
  | ref a => exact .ref a
  | ty n => exact .ty n
  | fzl h l _ ih => exact .fzl (h.imp (fun ⟨o, e, n⟩ => ⟨o, by rw [upd_ne (rd_ne ha e no_fzl)]; exact e, n⟩) id) l ih
theorem Ats.relock {vs : List V} {ds : List D} (ha : Rd H a (.dK kv)) (ho : RdO o' (.dK kv)) (h : Ats K ι H vs ds) : Ats K ι (upd H a o') vs ds := ⟨h.1, fun i v d e1 e2 => (h.2 i v d e1 e2).relock ha ho⟩
theorem Pts.relock {κ : Type} {ks : List (κ × V)} {kd : List (κ × D)} (ha : Rd H a (.dK kv)) (ho : RdO o' (.dK kv)) (h : Pts K ι H ks kd) : Pts K ι (upd H a o') ks kd := ⟨h.1, fun i p q e1 e2 => (h.2 i p q e1 e2).relock ha ho⟩
theorem Loc.relock (ha : Rd H a (.dK kv)) (ho : RdO o' (.dK kv)) (h : Loc K ι H σ ρ) : Loc K ι (upd H a o') σ ρ := ⟨h.1, fun i d e => let ⟨v, e1, x⟩ := h.2 i d e; ⟨v, e1, x.relock ha ho⟩⟩
theorem Rep.relock (ha : Rd H a (.dK kv)) (ho : RdO o' (.dK kv)) (n : a ∉ ι) (h : Rep K ι μ H) : Rep K ι μ (upd H a o') := by
  refine ⟨h.len, h.nd, fun j b c e1 e2 => ?_⟩
  have ne : b ≠ a := fun e => n (e ▸ List.mem_of_getElem? e1)
  have z := h.at_ j b c e1 e2
  cases c with
  | lst ds => obtain ⟨vs, h1, h2⟩ := z; exact ⟨vs, by rw [upd_ne ne]; exact h1, h2.relock ha ho⟩
  | dct kd => obtain ⟨kv, h1, h2⟩ := z; exact ⟨kv, by rw [upd_ne ne]; exact h1, h2.relock ha ho⟩
  | lck ob kv kd => exact ⟨by rw [upd_ne ne]; exact z.1, z.2.relock ha ho⟩
  | ins C fd => obtain ⟨dx, fv, h1, h2⟩ := z; exact ⟨dx, fv, by rw [upd_ne ne]; exact h1, h2.relock ha ho⟩
theorem upd_id {o : HO} (h : H a = some o) : upd H a o = H := by
  funext b
  by_cases e : b = a
  · subst e; rw [upd_same, h]
  · rw [upd_ne e]
/-- what grew while it was locked, unlocked -/
theorem Gr.unlock {u o1 : HO} (h : H a = some u) (n : a ∉ ι) (g : Gr ι (upd H a o1) ι' H') : H' a = some o1 ∧ a ∉ ι' ∧ Gr ι H ι' (upd H' a u) := by
  obtain ⟨h1, n1⟩ := g.keep a o1 upd_same n
  refine ⟨h1, n1, g.pre, fun b o e m => ?_⟩
  by_cases eb : b = a
  · subst eb
    rw [h] at e; cases e
    exact ⟨upd_same, n1⟩
  · obtain ⟨h2, n2⟩ := g.keep b o (by rw [upd_ne eb]; exact e) m
    exact ⟨by rw [upd_ne eb]; exact h2, n2⟩
/-! walks -/
theorem walks_keys {kd : List (Key × D)} {ob : Obj} {st : Sto → Prop} (h : H a = some (.frz ob (.dK kv))) (n : a ∉ ι) (p : Pts K ι H kv kd) : Walks K (Itk a ob kv) ι H (kd.map fun q => kOf q.1) st := by
  refine ⟨fun ι' H' μ' i x g r s hx => ?_, fun ι' H' μ' i g r s hx0 => have hx := Nat.le_of_eq hx0; ⟨(g.keep _ _ h n).1, by rw [p.length]; simpa using hx⟩⟩
  rw [List.getElem?_map, Option.map_eq_some_iff] at hx
  obtain ⟨q, hq, rfl⟩ := hx
  have hi : i < kv.length := by rw [p.length]; exact (List.getElem?_eq_some_iff.mp hq).1
  refine ⟨⟨(g.keep _ _ h n).1, hi⟩, fun v H2 hy => ?_⟩
  obtain ⟨rfl, k, w, e, rfl⟩ := hy
  have z := congrArg (fun l => l[i]?) p.1
  simp only [List.getElem?_map, e, hq, Option.map_some] at z
  rw [← Option.some.inj z]
  exact ⟨Gr.refl _ _, r, kOf_at⟩
theorem walks_vals {kd : List (Key × D)} {ob : Obj} {st : Sto → Prop} (h : H a = some (.frz ob (.dK kv))) (n : a ∉ ι) (p : Pts K ι H kv kd) : Walks K (Itd a ob kv) ι H (kd.map fun q => q.2) st := by
  refine ⟨fun ι' H' μ' i x g r s hx => ?_, fun ι' H' μ' i g r s hx0 => have hx := Nat.le_of_eq hx0; ⟨(g.keep _ _ h n).1, by rw [p.length]; simpa using hx⟩⟩
  rw [List.getElem?_map, Option.map_eq_some_iff] at hx
  obtain ⟨q, hq, rfl⟩ := hx
  have hi : i < kv.length := by rw [p.length]; exact (List.getElem?_eq_some_iff.mp hq).1
  refine ⟨⟨(g.keep _ _ h n).1, hi⟩, fun v H2 hy => ?_⟩
  obtain ⟨rfl, k, e⟩ := hy
  exact ⟨Gr.refl _ _, r, (p.gr g).2 i _ _ e hq⟩
theorem walks_items {kd : List (Key × D)} {ob : Obj} {st : Sto → Prop} (h : H a = some (.frz ob (.dK kv))) (n : a ∉ ι) (p : Pts K ι H kv kd) : Walks K (Iti a ob kv) ι H (kd.map fun q => D.tup [kOf q.1, q.2]) st := by
  refine ⟨fun ι' H' μ' i x g r s hx => ?_, fun ι' H' μ' i g r s hx0 => have hx := Nat.le_of_eq hx0; ⟨(g.keep _ _ h n).1, by rw [p.length]; simpa using hx⟩⟩
  rw [List.getElem?_map, Option.map_eq_some_iff] at hx
  obtain ⟨q, hq, rfl⟩ := hx
  have hi : i < kv.length := by rw [p.length]; exact (List.getElem?_eq_some_iff.mp hq).1
  refine ⟨⟨(g.keep _ _ h n).1, hi⟩, fun v H2 hy => ?_⟩
  obtain ⟨T, k, w, e, rfl, hT, rfl⟩ := hy
  have z := congrArg (fun l => l[i]?) p.1
  simp only [List.getElem?_map, e, hq, Option.map_some] at z
  refine ⟨Gr.new hT (r.free hT), r.new hT, .newT hT (r.free hT) (Ats.cons ?_ (Ats.cons ((p.gr g).2 i _ _ e hq) Ats.nil))⟩
  have e' : k = q.1 := Option.some.inj z
  rw [e']
  exact kOf_at
end

/-- a dict that is found by a name, or by a name's attribute -/
structure Pth (X : Cx) (e : Expr) (g : Rho → Sto → Option (List (Key × D))) : Prop where
  run : ∃ td, PE X e td ∧ ∀ ι H σ ρ μ kd, Rep X.K ι μ H → Loc X.K ι H σ ρ → g ρ μ = some kd → ∃ a kv, Rd H a (.dK kv) ∧ a ∉ ι ∧ Pts X.K ι H kv kd ∧
    ∀ u, RdO u (.dK kv) → ∀ Q : VK, Q (.ref a) (upd H a u) → td σ (upd H a u) Q
def gVar (i : Nat) : Rho → Sto → Option (List (Key × D)) := fun ρ _ => match ρ[i]? with | some (some (.dct kd)) => some kd | _ => none
def gFld (i : Nat) (C : Addr) (f : Str) : Rho → Sto → Option (List (Key × D)) := fun ρ μ => match ρ[i]? with
  | some (some d) => match asI μ d with
    | some (C', fd) => if C' = C then match fd.lookup f with | some (.dct kd) => some kd | _ => none else none
    | none => none
  | _ => none
section
variable {X : Cx} {e : Expr} {g : Rho → Sto → Option (List (Key × D))} {pos p : Pos} {x : Str}
theorem pth_var (i : Nat) (hN : X.N[i]? = some x := by rfl) (hv : Vis X.env.scope x := by first | exact Or.inl rfl | exact Or.inr (Or.inl rfl) | exact Or.inr (Or.inr rfl))
    (hd : (x == ("__debug__" : Str)) = false := by decide) (hcd : (x == ("__classdict__" : Str)) = false := by decide) : Pth X (.Name x pos) (gVar i) := by
  refine ⟨_, pe_var hN hv hd hcd, fun ι H σ ρ μ kd r l h => ?_⟩
  unfold gVar at h
  split at h
  · rename_i kd' e1
    cases h
    obtain ⟨v, e2, at_⟩ := l.2 i _ e1
    cases at_ with
    | dct h n ll rr => exact ⟨_, _, h, n, ⟨ll, rr⟩, fun u _ Q q => ⟨_, e2, q⟩⟩
  · cases h
theorem pth_fld {C : Addr} {f : Str} (i : Nat) (c : Cls X.K C) (na : NoAttr X.K C f) (hb : attributeBase (.Name x p) f X.env (eval (.Name x p) X.env) = eval (.Name x p) X.env := by rfl) (hN : X.N[i]? = some x := by rfl)
    (hv : Vis X.env.scope x := by first | exact Or.inl rfl | exact Or.inr (Or.inl rfl) | exact Or.inr (Or.inr rfl))
    (hd : (x == ("__debug__" : Str)) = false := by decide) (hcd : (x == ("__classdict__" : Str)) = false := by decide) : Pth X (.Attribute (.Name x p) f pos) (gFld i C f) := by
  refine ⟨_, pe_fld (pe_var hN hv hd hcd) hb, fun ι H σ ρ μ kd r l h => ?_⟩
  unfold gFld at h
  split at h
  · rename_i d e1
    split at h
    · rename_i C' fd e2
      split at h
      · rename_i eC
        subst eC
        split at h
        · rename_i kd' e3
          cases h
          obtain ⟨v, e4, at_⟩ := l.2 i _ e1
          obtain ⟨b, dx, fv, rfl, hb', hp⟩ := asI_at r at_ e2
          obtain ⟨w, e5, aw⟩ := hp.lookup e3
          cases aw with
          | @dct a kv _ h n ll rr => exact ⟨_, _, h, n, ⟨ll, rr⟩, fun u _ Q q => ⟨_, e4, b, _, dx, fv, _, rfl, by rw [upd_ne (rd_ne h hb' no_ins)]; exact hb', c, na, e5, q⟩⟩
        · cases h
      · cases h
    · cases h
  · cases h
/-- what walks a dict -/
structure WD (X : Cx) (tg iter : Expr) (g : Rho → Sto → Option (List (Key × D))) (its : List (Key × D) → List D) : Prop where
  run : ∃ wi, PI X tg iter wi ∧ ∀ ι H σ ρ μ kd, Rep X.K ι μ H → Loc X.K ι H σ ρ → g ρ μ = some kd → ∃ a kv, Rd H a (.dK kv) ∧ a ∉ ι ∧
    ∀ ob, ∀ R : It → Hp → Prop, (∀ J, Walks X.K J ι (upd H a (.frz ob (.dK kv))) (its kd) (fun _ => True) → R J (upd H a (.frz ob (.dK kv)))) → wi σ (upd H a (.frz ob (.dK kv))) R
theorem wd_keys {tg : Expr} (pt : Pth X e g) : WD X tg e g (fun kd => kd.map fun q => kOf q.1) := by
  obtain ⟨td, he, k⟩ := pt.run
  refine ⟨_, pi_keys he, fun ι H σ ρ μ kd r l h => ?_⟩
  obtain ⟨a, kv, rd, n, p, q⟩ := k ι H σ ρ μ kd r l h
  exact ⟨a, kv, rd, n, fun ob R hR => q _ (.inr ⟨ob, rfl⟩) _ ⟨a, ob, rfl, .inl ⟨kv, upd_same, hR _ (walks_keys upd_same n (p.relock rd (.inr ⟨ob, rfl⟩)))⟩⟩⟩
theorem wd_vals {tg : Expr} {apos cpos : Pos} (pt : Pth X e g) (hbase : attributeBase e "values" X.env (eval e X.env) = eval e X.env := by rfl) (hline : (apos.endLine == cpos.line) = true := by rfl) :
    WD X tg (.Call (.Attribute e "values" apos) [] [] cpos) g (fun kd => kd.map fun q => q.2) := by
  obtain ⟨td, he, k⟩ := pt.run
  refine ⟨_, pi_values he hbase hline, fun ι H σ ρ μ kd r l h => ?_⟩
  obtain ⟨a, kv, rd, n, p, q⟩ := k ι H σ ρ μ kd r l h
  exact ⟨a, kv, rd, n, fun ob R hR => q _ (.inr ⟨ob, rfl⟩) _ ⟨a, ob, kv, rfl, upd_same, hR _ (walks_vals upd_same n (p.relock rd (.inr ⟨ob, rfl⟩)))⟩⟩
theorem wd_items {elts : List Expr} {kk : Nat} {tpos apos cpos : Pos} (pt : Pth X e g) (hbase : attributeBase e "items" X.env (eval e X.env) = eval e X.env := by rfl) (hline : (apos.endLine == cpos.line) = true := by rfl) :
    WD X (.Tuple elts kk tpos) (.Call (.Attribute e "items" apos) [] [] cpos) g (fun kd => kd.map fun q => D.tup [kOf q.1, q.2]) := by
  obtain ⟨td, he, k⟩ := pt.run
  refine ⟨_, pi_items he hbase hline, fun ι H σ ρ μ kd r l h => ?_⟩
  obtain ⟨a, kv, rd, n, p, q⟩ := k ι H σ ρ μ kd r l h
  exact ⟨a, kv, rd, n, fun ob R hR => q _ (.inr ⟨ob, rfl⟩) _ ⟨a, ob, kv, rfl, upd_same, hR _ (walks_items upd_same n (p.relock rd (.inr ⟨ob, rfl⟩)))⟩⟩
end

/-! ### for .. over a dict -/
section
variable {X : Cx} {W : WX} {tg iter : Expr} {sb : List Stmt} {g : Rho → Sto → Option (List (Key × D))} {its : List (Key × D) → List D} {tgf : FG} {fb : FS} {pos : Pos}
theorem for_core {ι1 : Io} {H1 : Hp} {σ : L2.St} {ρ : Rho} {m : Sto} {De : Ends} {J : It} {xs : List D} {st : Sto → Prop} {t : TG} {A : DK} (mg : MonTg tgf) (mb : MonS fb)
    (kk : ∀ ι H σ ρ μ v d N, Rep X.K ι μ H → Loc X.K ι H σ ρ → At X.K ι H v d → tgf d ρ μ (SV X.K ι H N) → t v σ H N)
    (r1 : Rep X.K ι1 m H1) (l1 : Loc X.K ι1 H1 σ ρ) (wk : Walks X.K J ι1 H1 xs st) (le : A.le (KV X.K W ι1 H1 De)) {I : Nat → Rho → Sto → Prop} (h0 : I 0 ρ m) (hst : ∀ i ρ' μ', I i ρ' μ' → st μ')
    (ht : ∀ i x ρ' μ', xs[i]? = some x → I i ρ' μ' → tgf x ρ' μ' (fun ρ2 μ2 => fb { A with nx := I (i + 1), ct := I (i + 1), bk := A.nx } ρ2 μ2)) (hd : ∀ ρ' μ', I xs.length ρ' μ' → A.nx ρ' μ') :
    ∃ Wm : Nat → Nat → L2.St → Hp → Prop, (∃ k, Wm 0 k σ H1) ∧ ∀ i k σ H, Wm i k σ H →
      (J.stop i H ∧ De.nx σ H) ∨ (J.go i H ∧ ∃ N : L2.St → Hp → Prop, (∀ σ' H', N σ' H' → ∃ k', k' < k ∧ Wm (i + 1) k' σ' H') ∧ ∀ x H', J.yld i H x H' → t x σ H' fun σ2 H2 => rdS X.K W fb { De with nx := N, ct := N, bk := De.nx } σ2 H2) := by
  refine ⟨fun i n σ' H' => n = xs.length - i ∧ i ≤ xs.length ∧ ∃ ι' ρ' μ', Gr ι1 H1 ι' H' ∧ Rep X.K ι' μ' H' ∧ Loc X.K ι' H' σ' ρ' ∧ I i ρ' μ', ⟨xs.length, by simp, Nat.zero_le _, ι1, ρ, m, Gr.refl _ _, r1, l1, h0⟩, ?_⟩
  rintro i n σ' H' ⟨rfl, hle, ι', ρ', μ', g', r', l', hI⟩
  by_cases hlt : i < xs.length
  · have hx : xs[i]? = some xs[i] := List.getElem?_eq_getElem hlt
    obtain ⟨w1, w2⟩ := wk.go ι' H' μ' i _ g' r' (hst i ρ' μ' hI) hx
    refine .inr ⟨w1, fun σ2 H2 => ∃ ι2 ρ2 μ2, Gr ι1 H1 ι2 H2 ∧ Rep X.K ι2 μ2 H2 ∧ Loc X.K ι2 H2 σ2 ρ2 ∧ I (i + 1) ρ2 μ2, fun σ2 H2 z => ⟨xs.length - (i + 1), by omega, rfl, hlt, z⟩, fun v H2 hy => ?_⟩
    obtain ⟨gy, ry, ay⟩ := w2 v H2 hy
    refine kk ι' H2 σ' ρ' μ' v _ _ ry (l'.gr gy) ay (mg _ _ _ _ _ (fun ρ2 μ2 z => ?_) (ht i _ ρ' μ' hx hI))
    intro ι3 H3 σ3 g3 r3 l3
    have gg : Gr ι1 H1 ι3 H3 := (g'.trans gy).trans g3
    refine ⟨ι3, ρ2, μ2, r3, l3, mb ρ2 μ2 { A with nx := I (i + 1), ct := I (i + 1), bk := A.nx } _ ⟨fun ρ4 μ4 z ι4 H4 σ4 g4 r4 l4 => ⟨ι4, ρ4, μ4, gg.trans g4, r4, l4, z⟩, fun _ _ z => QV.gr gg (le.rt _ _ z), fun _ _ _ _ z => WV.gr gg (le.ex _ _ _ _ z),
      fun _ _ z => SV.gr gg (le.nx _ _ z), fun ρ4 μ4 z ι4 H4 σ4 g4 r4 l4 => ⟨ι4, ρ4, μ4, gg.trans g4, r4, l4, z⟩⟩ z⟩
  · have e : i = xs.length := by omega
    subst e
    exact .inl ⟨wk.stop ι' H' μ' _ g' r' (hst _ ρ' μ' hI) rfl, le.nx _ _ (hd ρ' μ' hI) ι' H' σ' g' r' l'⟩
def sForD (g : Rho → Sto → Option (List (Key × D))) (its : List (Key × D) → List D) (tgf : FG) (fb : FS) : FS := fun A ρ μ => ∃ kd, g ρ μ = some kd ∧ ∃ I : Nat → Rho → Sto → Prop, I 0 ρ μ ∧
  (∀ i x ρ' μ', (its kd)[i]? = some x → I i ρ' μ' → tgf x ρ' μ' (fun ρ2 μ2 => fb { A with nx := I (i + 1), ct := I (i + 1), bk := A.nx, ex := NE } ρ2 μ2)) ∧ ∀ ρ' μ', I (its kd).length ρ' μ' → A.nx ρ' μ'
theorem PS.or {s : Stmt} {t t' : TS} (h : PS X s t) (h' : PS X s t') : PS X s (fun D σ H => t D σ H ∨ t' D σ H) := ⟨fun pins s σ H D I q => q.elim (h.run pins s σ H D I) (h'.run pins s σ H D I)⟩
theorem ds_forD (hp : PassesOwn (model X.prog X.w) X.A X.env X.xe) (hc : X.calm = true) (wd : WD X tg iter g its) (hg : DG X tg tgf) (hb : DB X W sb fb)
    (hs : ∀ x, foldedSetIterable iter X.env x = pure x := by intro _; rfl) : DS X W (.For tg iter sb [] pos) (sForD g its tgf fb) := by
  obtain ⟨t, p, kk⟩ := hg.run
  obtain ⟨wi, hi, k⟩ := wd.run
  have base := ps_for (pos := pos) hp hc hi p hb.run hs
  refine ⟨fun ρ μ A B h ⟨kd, e, I, h0, ht, hd⟩ => ⟨kd, e, I, h0, fun i x ρ' μ' hx hI => hg.mono _ _ _ _ _ (fun ρ2 μ2 z => hb.mono ρ2 μ2 { A with nx := I (i + 1), ct := I (i + 1), bk := A.nx, ex := NE } { B with nx := I (i + 1), ct := I (i + 1), bk := B.nx, ex := NE } ⟨fun _ _ z => z, h.rt, fun _ _ _ _ z => z, h.nx, fun _ _ z => z⟩ z) (ht i x ρ' μ' hx hI), fun ρ' μ' z => h.nx _ _ (hd ρ' μ' z)⟩,
    PS.imp (PS.or (ps_lock base) base) fun De σ H ⟨ι, ρ, μ, r, l, kd, e, I, h0, ht, hd⟩ => ?_⟩
  obtain ⟨a, kv, rd, n, hw⟩ := k ι H σ ρ μ kd r l e
  rcases rd with plain | ⟨ob, fr⟩
  · refine .inl ⟨a, .dK kv, plain, trivial, fun od => hw od _ fun J wk => ?_⟩
    have rd : Rd H a (.dK kv) := .inl plain
    have ho : RdO (HO.frz od (.dK kv)) (.dK kv) := .inr ⟨od, rfl⟩
    have back : ∀ {ι' : Io} {H' : Hp}, Gr ι (upd H a (.frz od (.dK kv))) ι' H' → H' a = some (.frz od (.dK kv)) ∧ a ∉ ι' ∧ Gr ι H ι' (upd H' a (.dK kv)) := fun g' => g'.unlock plain n
    refine for_core (A := { KV X.K W ι H De with ex := NE }) hg.mono hb.mono kk (r.relock rd ho n) (l.relock rd ho) wk ⟨fun ρ' μ' z => ?_, fun d μ' z => ?_, fun _ _ _ _ z => z.elim, fun ρ' μ' z => ?_, fun ρ' μ' z => ?_⟩ h0 (fun _ _ _ _ => trivial) ht hd
    · intro ι' H' σ' g' r' l'
      obtain ⟨e1, n1, g2⟩ := back g'
      exact ⟨e1, z ι' _ σ' g2 (r'.relock (.inr ⟨od, e1⟩) (.inl rfl) n1) (l'.relock (.inr ⟨od, e1⟩) (.inl rfl))⟩
    · intro ι' H' v g' r' a'
      obtain ⟨e1, n1, g2⟩ := back g'
      exact ⟨e1, z ι' _ v g2 (r'.relock (.inr ⟨od, e1⟩) (.inl rfl) n1) (a'.relock (.inr ⟨od, e1⟩) (.inl rfl))⟩
    · intro ι' H' σ' g' r' l'
      obtain ⟨e1, n1, g2⟩ := back g'
      exact ⟨e1, z ι' _ σ' g2 (r'.relock (.inr ⟨od, e1⟩) (.inl rfl) n1) (l'.relock (.inr ⟨od, e1⟩) (.inl rfl))⟩
    · intro ι' H' σ' g' r' l'
      obtain ⟨e1, n1, g2⟩ := back g'
      exact ⟨e1, z ι' _ σ' g2 (r'.relock (.inr ⟨od, e1⟩) (.inl rfl) n1) (l'.relock (.inr ⟨od, e1⟩) (.inl rfl))⟩
  · refine .inr ?_
    have w := hw ob
    rw [upd_id fr] at w
    exact w _ fun J wk => for_core (A := { KV X.K W ι H De with ex := NE }) hg.mono hb.mono kk r l wk ⟨fun _ _ z => z, fun _ _ z => z, fun _ _ _ _ z => z.elim, fun _ _ z => z, fun _ _ z => z⟩ h0 (fun _ _ _ _ => trivial) ht hd
end

/-! ### comprehensions over a dict, and those that make a dict -/
def LcI (tgf : FG) (ft : FT) (fe : FE) (vs : List Nat) (xs : List D) (st : Sto → Prop) (ρ : Rho) (m : Sto) (Q : QD) : Prop := ∃ I : Nat → Sto → Prop, I 0 (m ++ [.lst []]) ∧ (∀ i μ', I i μ' → st μ') ∧
  (∀ i x μ', xs[i]? = some x → I i μ' → tgf x (wipeD ρ vs) μ' (fun ρ2 μ2 => ft ρ2 μ2 (fun b m3 =>
    if b = true then fe ρ2 m3 (fun y m4 => ∃ acc, m4[m.length]? = some (.lst acc) ∧ acc.length < sizeLine ∧ I (i + 1) (m4.set m.length (.lst (acc ++ [y])))) NE else I (i + 1) m3) NE)) ∧
  ∀ μ', I xs.length μ' → ∃ d2 μ2, Fz m.length (.cell m.length) μ' d2 μ2 ∧ Q d2 μ2
def DcI (tgf : FG) (ft : FT) (fk fv : FE) (vs : List Nat) (xs : List D) (st : Sto → Prop) (ρ : Rho) (m : Sto) (Q : QD) : Prop := ∃ I : Nat → Sto → Prop, I 0 (m ++ [.dct []]) ∧ (∀ i μ', I i μ' → st μ') ∧
  (∀ i x μ', xs[i]? = some x → I i μ' → tgf x (wipeD ρ vs) μ' (fun ρ2 μ2 => ft ρ2 μ2 (fun b m3 =>
    if b = true then fk ρ2 m3 (fun y m4 => fv ρ2 m4 (fun z m5 => ∃ acc k, kD y = some k ∧ m5[m.length]? = some (.dct acc) ∧ acc.length < sizeLine ∧ I (i + 1) (m5.set m.length (.dct (putKD acc k z)))) NE) NE else I (i + 1) m3) NE)) ∧
  ∀ μ', I xs.length μ' → ∃ d2 μ2, Fz m.length (.cell m.length) μ' d2 μ2 ∧ Q d2 μ2
section
variable {K : PySem.W.Frag} {ι1 : Io} {H1 : Hp} {σ : L2.St} {ρ : Rho} {m : Sto} {J : It} {xs : List D} {st : Sto → Prop} {tgf : FG} {ft : FT} {fe fk fv : FE} {vs : List Nat} {QD' : QD} {Q : VK}
theorem lc_core2 (mg : MonTg tgf) (mt : MonT ft) (me : MonE fe) (r1 : Rep K ι1 m H1) (l1 : Loc K ι1 H1 σ ρ) (wk : Walks K J ι1 H1 xs st) (le : ∀ d μ', QD' d μ' → QV K ι1 H1 Q d μ') (z : LcI tgf ft fe vs xs st ρ m QD') :
    ∀ D, H1 D = none → ∃ W : Nat → Nat → Hp → Prop, (∃ k, W 0 k (upd H1 D (.lst []))) ∧ ∀ i k H, W i k H →
      (J.stop i H ∧ Q (.ref D) H) ∨ (J.go i H ∧ ∃ Nx : Hp → Prop, (∀ H', Nx H' → ∃ k', k' < k ∧ W (i + 1) k' H') ∧ ∀ x H', J.yld i H x H' → rdG K vs tgf x (wipe σ vs) H' fun σ2 H2 => wipe σ2 vs = wipe σ vs ∧ rdT K NW ft σ2 H2 fun b H3 =>
        if b = true then rdE K NW fe σ2 H3 fun y H4 => ∃ acc, H4 D = some (.lst acc) ∧ acc.length < sizeLine ∧ Nx (upd H4 D (.lst (acc ++ [y]))) else Nx H3) := by
  intro D hD
  obtain ⟨I, h0, hst, ht, hd⟩ := z
  have gN := Gr.cellNew (o := .lst []) hD (r1.free hD)
  have rN := r1.cellNew (o := .lst []) (c := .lst []) hD ⟨[], upd_same, Ats.nil⟩
  have lN := l1.gr gN
  have dN : (ι1 ++ [D])[m.length]? = some D := by rw [List.getElem?_append_right (by rw [r1.len]; exact Nat.le_refl _), r1.len, Nat.sub_self]; rfl
  refine ⟨fun i n H' => n = xs.length - i ∧ i ≤ xs.length ∧ ∃ ι' μ', Gr (ι1 ++ [D]) (upd H1 D (.lst [])) ι' H' ∧ Rep K ι' μ' H' ∧ I i μ', ⟨xs.length, by simp, Nat.zero_le _, _, _, Gr.refl _ _, rN, h0⟩, ?_⟩
  rintro i n H' ⟨rfl, hle, ι', μ', g', r', hI⟩
  by_cases hlt : i < xs.length
  · have hx : xs[i]? = some xs[i] := List.getElem?_eq_getElem hlt
    obtain ⟨w1, w2⟩ := wk.go ι' H' μ' i _ (gN.trans g') r' (hst i μ' hI) hx
    refine .inr ⟨w1, fun H2 => ∃ ι2 μ2, Gr (ι1 ++ [D]) (upd H1 D (.lst [])) ι2 H2 ∧ Rep K ι2 μ2 H2 ∧ I (i + 1) μ2, fun H2 z => ⟨xs.length - (i + 1), by omega, rfl, hlt, z⟩, fun v H2 hy => ?_⟩
    obtain ⟨gy, ry, ay⟩ := w2 v H2 hy
    refine ⟨ι', wipeD ρ vs, μ', _, ry, ((lN.gr g').gr gy).wipe vs, ay, mg _ _ _ _ _ (fun ρ2 μ2 z => ?_) (ht i _ μ' hx hI)⟩
    intro ι3 H3 σ3 g3 r3 l3 o3
    refine ⟨o3.wipe, ?_⟩
    refine chainT mt r3 l3 (mt ρ2 μ2 _ _ _ _ (fun _ _ z => z) (fun _ _ _ z => NE.ew z) z) fun b μ4 ι4 H4 z g4 r4 l4 => ?_
    have gg := ((g'.trans gy).trans g3).trans g4
    cases b with
    | false => exact ⟨ι4, μ4, gg, r4, z⟩
    | true =>
      refine chain1 me r4 l4 (me ρ2 μ4 _ _ _ _ (fun _ _ z => z) (fun _ _ _ z => NE.ew z) z) fun y μ5 ι5 H5 u z g5 r5 l5 a5 => ?_
      obtain ⟨acc, e1, e2, z⟩ := z
      have d5 := (gg.trans g5).pre _ _ dN
      obtain ⟨ws, h1, h2⟩ := r5.at_ _ D _ d5 e1
      have gc := Gr.chg (H := H5) (o := .lst (ws ++ [u])) (List.mem_of_getElem? d5)
      exact ⟨ws, h1, by rw [h2.1]; exact e2, ι5, _, (gg.trans g5).trans gc, r5.chg (c := .lst (acc ++ [y])) d5 ⟨_, upd_same, (h2.gr gc).app (Ats.cons (a5.gr gc) Ats.nil)⟩, z⟩
  · have e : i = xs.length := by omega
    subst e
    obtain ⟨d2, μ2, fz, q⟩ := hd μ' hI
    obtain ⟨ι2, s1, s2, s3⟩ := fz.sound (ι0 := ι1) (H0 := H1) r1.len r' (.cell (g'.pre _ _ dN)) (gN.trans g')
    exact .inl ⟨wk.stop ι' H' μ' _ (gN.trans g') r' (hst _ μ' hI) rfl, le _ _ q ι2 H' _ s3 s1 s2⟩
theorem dc_core2 (mg : MonTg tgf) (mt : MonT ft) (mk : MonE fk) (mv : MonE fv) (r1 : Rep K ι1 m H1) (l1 : Loc K ι1 H1 σ ρ) (wk : Walks K J ι1 H1 xs st) (le : ∀ d μ', QD' d μ' → QV K ι1 H1 Q d μ') (z : DcI tgf ft fk fv vs xs st ρ m QD') :
    ∀ D, H1 D = none → ∃ W : Nat → Nat → Hp → Prop, (∃ k, W 0 k (upd H1 D (.dK []))) ∧ ∀ i k H, W i k H →
      (J.stop i H ∧ Q (.ref D) H) ∨ (J.go i H ∧ ∃ Nx : Hp → Prop, (∀ H', Nx H' → ∃ k', k' < k ∧ W (i + 1) k' H') ∧ ∀ x H', J.yld i H x H' → rdG K vs tgf x (wipe σ vs) H' fun σ2 H2 => wipe σ2 vs = wipe σ vs ∧ rdT K NW ft σ2 H2 fun b H3 =>
        if b = true then rdE K NW fk σ2 H3 fun y H4 => rdE K NW fv σ2 H4 fun z H5 => ∃ kvs k, y = kV k ∧ H5 D = some (.dK kvs) ∧ kvs.length < sizeLine ∧ Nx (upd H5 D (.dK (L2.putK kvs k z))) else Nx H3) := by
  intro D hD
  obtain ⟨I, h0, hst, ht, hd⟩ := z
  have gN := Gr.cellNew (o := .dK []) hD (r1.free hD)
  have rN := r1.cellNew (o := .dK []) (c := .dct []) hD ⟨[], upd_same, Pts.nil⟩
  have lN := l1.gr gN
  have dN : (ι1 ++ [D])[m.length]? = some D := by rw [List.getElem?_append_right (by rw [r1.len]; exact Nat.le_refl _), r1.len, Nat.sub_self]; rfl
  refine ⟨fun i n H' => n = xs.length - i ∧ i ≤ xs.length ∧ ∃ ι' μ', Gr (ι1 ++ [D]) (upd H1 D (.dK [])) ι' H' ∧ Rep K ι' μ' H' ∧ I i μ', ⟨xs.length, by simp, Nat.zero_le _, _, _, Gr.refl _ _, rN, h0⟩, ?_⟩
  rintro i n H' ⟨rfl, hle, ι', μ', g', r', hI⟩
  by_cases hlt : i < xs.length
  · have hx : xs[i]? = some xs[i] := List.getElem?_eq_getElem hlt
    obtain ⟨w1, w2⟩ := wk.go ι' H' μ' i _ (gN.trans g') r' (hst i μ' hI) hx
    refine .inr ⟨w1, fun H2 => ∃ ι2 μ2, Gr (ι1 ++ [D]) (upd H1 D (.dK [])) ι2 H2 ∧ Rep K ι2 μ2 H2 ∧ I (i + 1) μ2, fun H2 z => ⟨xs.length - (i + 1), by omega, rfl, hlt, z⟩, fun v H2 hy => ?_⟩
    obtain ⟨gy, ry, ay⟩ := w2 v H2 hy
    refine ⟨ι', wipeD ρ vs, μ', _, ry, ((lN.gr g').gr gy).wipe vs, ay, mg _ _ _ _ _ (fun ρ2 μ2 z => ?_) (ht i _ μ' hx hI)⟩
    intro ι3 H3 σ3 g3 r3 l3 o3
    refine ⟨o3.wipe, ?_⟩
    refine chainT mt r3 l3 (mt ρ2 μ2 _ _ _ _ (fun _ _ z => z) (fun _ _ _ z => NE.ew z) z) fun b μ4 ι4 H4 z g4 r4 l4 => ?_
    have gg := ((g'.trans gy).trans g3).trans g4
    cases b with
    | false => exact ⟨ι4, μ4, gg, r4, z⟩
    | true =>
      refine chain1 mk r4 l4 (mk ρ2 μ4 _ _ _ _ (fun _ _ z => z) (fun _ _ _ z => NE.ew z) z) fun y μ5 ι5 H5 u z g5 r5 l5 a5 => ?_
      refine chain1 mv r5 l5 (mv ρ2 μ5 _ _ _ _ (fun _ _ z => z) (fun _ _ _ z => NE.ew z) z) fun y2 μ6 ι6 H6 u2 z g6 r6 l6 a6 => ?_
      obtain ⟨acc, k, ek, e1, e2, z⟩ := z
      have d6 := ((gg.trans g5).trans g6).pre _ _ dN
      obtain ⟨ws, h1, h2⟩ := r6.at_ _ D _ d6 e1
      have gc := Gr.chg (H := H6) (o := .dK (L2.putK ws k u2)) (List.mem_of_getElem? d6)
      exact ⟨ws, k, kD_at a5 ek, h1, by rw [h2.length]; exact e2, ι6, _, ((gg.trans g5).trans g6).trans gc, r6.chg (c := .dct (putKD acc k y2)) d6 ⟨_, upd_same, Pts.putK (a6.gr gc) (h2.gr gc)⟩, z⟩
  · have e : i = xs.length := by omega
    subst e
    obtain ⟨d2, μ2, fz, q⟩ := hd μ' hI
    obtain ⟨ι2, s1, s2, s3⟩ := fz.sound (ι0 := ι1) (H0 := H1) r1.len r' (.cell (g'.pre _ _ dN)) (gN.trans g')
    exact .inl ⟨wk.stop ι' H' μ' _ (gN.trans g') r' (hst _ μ' hI) rfl, le _ _ q ι2 H' _ s3 s1 s2⟩
end
section
variable {X : Cx} {W : WX} {elt kx vx tg iter : Expr} {ifs : List Expr} {scope : Scope} {own : List (Str × Nat)} {pos : Pos} {fi : FI} {g : Rho → Sto → Option (List (Key × D))} {its : List (Key × D) → List D} {tgf : FG} {ft : FT} {fe fk fv : FE}
/-- what a locked dict gives to an expression that walks it -/
theorem lockE {e : Expr} {wi : TI} {t : TE} {body : It → L2.St → Hp → VK → Prop} {F : List (Key × D) → Rho → Sto → QD → Prop} (ht : ∀ σ H Q, t σ H Q = wi σ H fun J H1 => body J σ H1 Q) (base : PE X e t)
    (k : ∀ ι H σ ρ μ kd, Rep X.K ι μ H → Loc X.K ι H σ ρ → g ρ μ = some kd → ∃ a kv, Rd H a (.dK kv) ∧ a ∉ ι ∧
      ∀ ob, ∀ R : It → Hp → Prop, (∀ J, Walks X.K J ι (upd H a (.frz ob (.dK kv))) (its kd) (fun _ => True) → R J (upd H a (.frz ob (.dK kv)))) → wi σ (upd H a (.frz ob (.dK kv))) R)
    (core : ∀ ι H σ ρ μ kd J Q QD', Rep X.K ι μ H → Loc X.K ι H σ ρ → Walks X.K J ι H (its kd) (fun _ => True) → (∀ d μ', QD' d μ' → QV X.K ι H Q d μ') → F kd ρ μ QD' → body J σ H Q) :
    PE X e (rdE X.K W fun ρ μ Q _ => ∃ kd, g ρ μ = some kd ∧ F kd ρ μ Q) := by
  refine PE.imp (PE.or (pe_lock base) base) fun σ H Q ⟨ι, ρ, μ, r, l, kd, e, f⟩ => ?_
  obtain ⟨a, kv, rd, n, hw⟩ := k ι H σ ρ μ kd r l e
  rcases rd with plain | ⟨ob, fr⟩
  · refine .inl ⟨a, .dK kv, plain, trivial, fun od => ?_⟩
    have rd : Rd H a (.dK kv) := .inl plain
    have ho : RdO (HO.frz od (.dK kv)) (.dK kv) := .inr ⟨od, rfl⟩
    rw [ht]
    refine hw od _ fun J wk => core ι _ σ ρ μ kd J _ _ (r.relock rd ho n) (l.relock rd ho) wk (fun d μ' z => ?_) f
    intro ι' H' v g' r' a'
    obtain ⟨e1, n1, g2⟩ := g'.unlock plain n
    exact ⟨e1, z ι' _ v g2 (r'.relock (.inr ⟨od, e1⟩) (.inl rfl) n1) (a'.relock (.inr ⟨od, e1⟩) (.inl rfl))⟩
  · refine .inr ?_
    have w := hw ob
    rw [upd_id fr] at w
    rw [ht]
    exact w _ fun J wk => core ι H σ ρ μ kd J Q _ r l wk (fun _ _ z => z) f
def fLcD (g : Rho → Sto → Option (List (Key × D))) (its : List (Key × D) → List D) (tgf : FG) (ft : FT) (fe : FE) (vs : List Nat) : FE := fun ρ μ Q _ => ∃ kd, g ρ μ = some kd ∧ LcI tgf ft fe vs (its kd) (fun _ => True) ρ μ Q
def fDcD (g : Rho → Sto → Option (List (Key × D))) (its : List (Key × D) → List D) (tgf : FG) (ft : FT) (fk fv : FE) (vs : List Nat) : FE := fun ρ μ Q _ => ∃ kd, g ρ μ = some kd ∧ DcI tgf ft fk fv vs (its kd) (fun _ => True) ρ μ Q
theorem mLcD {vs : List Nat} : MonE (fLcD g its tgf ft fe vs) := fun ρ μ Q Q' E E' h he ⟨kd, e, I, h0, h1, h2, h3⟩ => ⟨kd, e, I, h0, h1, h2, fun μ' z => let ⟨d2, μ2, e, q⟩ := h3 μ' z; ⟨d2, μ2, e, h _ _ q⟩⟩
theorem mDcD {vs : List Nat} : MonE (fDcD g its tgf ft fk fv vs) := fun ρ μ Q Q' E E' h he ⟨kd, e, I, h0, h1, h2, h3⟩ => ⟨kd, e, I, h0, h1, h2, fun μ' z => let ⟨d2, μ2, e, q⟩ := h3 μ' z; ⟨d2, μ2, e, h _ _ q⟩⟩
theorem de_lcD (hc : X.calm = true) (hN : X.N.Nodup) (wd : WD X tg iter g its) (ok : BlkOk X.N X.env.scope scope own)
    (hg : ∀ (s : Shared) (H : Hp) (C : Addr) (cl : List (Str × Addr)) (fp : List Addr), DGw (X.blk s H scope (compEnvC scope cl C X.env) fp) tg (own.map (·.2)) tgf)
    (ht : ∀ (s : Shared) (H : Hp) (C : Addr) (cl : List (Str × Addr)) (fp : List Addr), DTs (X.blk s H scope (compEnvC scope cl C X.env) fp) ifs ft)
    (he : ∀ (s : Shared) (H : Hp) (C : Addr) (cl : List (Str × Addr)) (fp : List Addr), DE (X.blk s H scope (compEnvC scope cl C X.env) fp) NW elt fe)
    (hs : ∀ x, foldedSetIterable iter X.env x = pure x := by intro _; rfl) : DE X W (.ListComp elt [⟨tg, iter, ifs, 0⟩] scope pos) (fLcD g its tgf ft fe (own.map (·.2))) := by
  obtain ⟨wi, hi, k⟩ := wd.run
  exact ⟨mLcD, lockE (fun _ _ _ => rfl) (pe_lc (g := rdG X.K (own.map (·.2)) tgf) (tt := rdT X.K NW ft) (te := rdE X.K NW fe) hc hN hi ok (fun s H C cl fp => (hg s H C cl fp).run) (fun s H C cl fp => (ht s H C cl fp).run) (fun s H C cl fp => (he s H C cl fp).run) hs) k
    fun ι H σ ρ μ kd J Q QD' r l wk le z => lc_core2 (hg X.s_0 X.H_0 0 [] []).mono (ht X.s_0 X.H_0 0 [] []).mono (he X.s_0 X.H_0 0 [] []).mono r l wk le z⟩
theorem de_dcD (hc : X.calm = true) (hN : X.N.Nodup) (wd : WD X tg iter g its) (ok : BlkOk X.N X.env.scope scope own)
    (hg : ∀ (s : Shared) (H : Hp) (C : Addr) (cl : List (Str × Addr)) (fp : List Addr), DGw (X.blk s H scope (compEnvC scope cl C X.env) fp) tg (own.map (·.2)) tgf)
    (ht : ∀ (s : Shared) (H : Hp) (C : Addr) (cl : List (Str × Addr)) (fp : List Addr), DTs (X.blk s H scope (compEnvC scope cl C X.env) fp) ifs ft)
    (hk : ∀ (s : Shared) (H : Hp) (C : Addr) (cl : List (Str × Addr)) (fp : List Addr), DE (X.blk s H scope (compEnvC scope cl C X.env) fp) NW kx fk)
    (he : ∀ (s : Shared) (H : Hp) (C : Addr) (cl : List (Str × Addr)) (fp : List Addr), DE (X.blk s H scope (compEnvC scope cl C X.env) fp) NW vx fv)
    (hs : ∀ x, foldedSetIterable iter X.env x = pure x := by intro _; rfl) : DE X W (.DictComp kx vx [⟨tg, iter, ifs, 0⟩] scope pos) (fDcD g its tgf ft fk fv (own.map (·.2))) := by
  obtain ⟨wi, hi, k⟩ := wd.run
  exact ⟨mDcD, lockE (fun _ _ _ => rfl) (pe_dc (g := rdG X.K (own.map (·.2)) tgf) (tt := rdT X.K NW ft) (tk := rdE X.K NW fk) (tv := rdE X.K NW fv) hc hN hi ok (fun s H C cl fp => (hg s H C cl fp).run) (fun s H C cl fp => (ht s H C cl fp).run) (fun s H C cl fp => (hk s H C cl fp).run) (fun s H C cl fp => (he s H C cl fp).run) hs) k
    fun ι H σ ρ μ kd J Q QD' r l wk le z => dc_core2 (hg X.s_0 X.H_0 0 [] []).mono (ht X.s_0 X.H_0 0 [] []).mono (hk X.s_0 X.H_0 0 [] []).mono (he X.s_0 X.H_0 0 [] []).mono r l wk le z⟩
end
end Dl

namespace Dl
open PySem PySem.Spec L2
open PyProof.Rows hiding St Binds

/-! ### classes as values, isinstance -/
/-- what isinstance asks of an own class -/
structure IsC (K : PySem.W.Frag) (C : Addr) : Prop where
  cl : Cls K C
  ha : PySem.W.findIn K (.ref C) "__class__" = some (some (.builtin "object.__class__"))
  hn : PySem.W.specialIn K (.builtin "object.__class__") "__get__" = some (some (.builtin "getset_descriptor.__get__"))
  htk : PySem.W.takesIn K (.builtin "object.__class__") = some true
  hm : PySem.W.mroIn K C (.type "object") = some true
/-- the type of a datum -/
inductive TyD (K : PySem.W.Frag) (μ : Sto) : D → Value → Prop
  | non : TyD K μ .non (.type "NoneType")
  | bl (b : Bool) : TyD K μ (.bl b) (.type "bool")
  | int (i : Int) : TyD K μ (.int i) (.type "int")
  | str (s : Str) : TyD K μ (.str s) (.type "str")
  | lst (d : D) (ds : List D) (h : asL μ d = some ds) : TyD K μ d (.type "list")
  | tup (ds : List D) : TyD K μ (.tup ds) (.type "tuple")
  | dct (d : D) (kd : List (Key × D)) (h : asD μ d = some kd) : TyD K μ d (.type "dict")
  | ins (d : D) (C : Addr) (fd : List (Str × D)) (h : asI μ d = some (C, fd)) (c : IsC K C) : TyD K μ d (.ref C)
theorem tyd_of {K : PySem.W.Frag} {ι : Io} {H : Hp} {μ : Sto} {v : V} {d : D} {t : Value} (r : Rep K ι μ H) (a : At K ι H v d) (h : TyD K μ d t) : TyX K H v t := by
  cases h with
  | non => cases a; exact .base .non
  | bl b => cases a; exact .base (.bl b)
  | int i => cases a; exact .base (.int i)
  | str s => cases a; exact .base (.str s)
  | lst d ds h => obtain ⟨p, vs, rfl, h1, _⟩ := asL_at r a h; exact .base (.lst h1)
  | tup ds =>
    obtain ⟨p, vs, rfl, h1, _⟩ := tup_at a
    rcases h1 with (h1 | ⟨ob, h1⟩) | ⟨o, its, n, e, c, _⟩
    · exact .base (.tup h1)
    · exact .fTuple h1
    · exact .kTuple e c
  | dct d kd h =>
    obtain ⟨p, kv, rfl, h1, _⟩ := asD_at r a h
    rcases h1 with h1 | ⟨ob, h1⟩
    · exact .base (.dK h1)
    · exact .fDict h1
  | ins d C fd h c =>
    obtain ⟨p, dx, fv, rfl, h1, _⟩ := asI_at r a h
    exact .base (.ins h1 c.cl c.ha c.hn c.htk c.hm)
def gIsi (K : PySem.W.Frag) : GC := fun xs μ Q => ∃ d c t u b, xs = [d, c] ∧ ((∃ C, c = .ref C ∧ u = .ref C) ∨ ∃ n, c = .ty n ∧ u = .type n) ∧ TyD K μ d t ∧ PySem.W.kitOne K t u = some b ∧ Q (.bl b) μ
section
variable {X : Cx} {W : WX} {a b e o i : Expr} {es : List Expr} {f fa fb fo fi fv : FE} {fl : FA} {pos p pos' : Pos} {x : Str} {C : Addr} {F : FD} {dds : List D} {j k : Nat} {K : PySem.W.Frag}
theorem cad_isi (hK : X.K = K := by rfl) : CaD X (.builtin "isinstance") (gIsi K) := by
  subst hK
  refine ⟨fun xs μ Q Q' h ⟨d, c, t, u, b, e1, e2, e3, e4, q⟩ => ⟨d, c, t, u, b, e1, e2, e3, e4, h _ _ q⟩, _, call_isi, fun ι H μ vs ds Q r a ⟨d, c, t, u, b, e1, e2, e3, e4, q⟩ => ?_⟩
  subst e1
  obtain ⟨v, vs', rfl, a1, a2⟩ := a.uncons
  obtain ⟨w, rfl, a3⟩ := a2.one
  rcases e2 with ⟨C, rfl, rfl⟩ | ⟨n, rfl, rfl⟩
  · cases a3
    exact ⟨v, _, t, _, b, rfl, .own C, tyd_of r a1 e3, e4, q ι H _ (Gr.refl _ _) r (.bl _)⟩
  · cases a3
    exact ⟨v, _, t, _, b, rfl, .ty n, tyd_of r a1 e3, e4, q ι H _ (Gr.refl _ _) r (.bl _)⟩
theorem de_cls (hg : Gl X x) (hm : X.mg x = some (.ref C)) (hd : (x == ("__debug__" : Str)) = false := by decide) : DE X W (.Name x pos) (fC (.ref C)) := de_k (pe_glob (v := .ref C) hg hm rfl hd) fun _ _ => .ref C
theorem de_ty {n : String} (hg : Gl X x) (hm : X.mg x = none) (hv : bootBuiltins x = some (.type n)) (hn : x ≠ "__name__" := by decide) (hd : (x == ("__debug__" : Str)) = false := by decide) : DE X W (.Name x pos) (fC (.ty n)) :=
  de_k (pe_bltn (v := .ty n) hg hm hv rfl hn hd) fun _ _ => .ty n

/-! ### own operators -/
theorem passNo {k : Nat} {E : XK} {σ : L2.St} (h : ∀ c d H, ¬ E c d H) : PassesAt (L2.CX X.prog X.w) X σ E := fun _ _ _ e s' _ q => by
  obtain ⟨_, _, _, _, _, _, _, _, _, _, _, _, z⟩ := q
  exact (h _ _ _ z).elim
/-- x op y, x of the class at C -/
def gOwn (C : Addr) (F : FD) : G2 := fun x y μ Q => ∃ fd t, asI μ x = some (C, fd) ∧ TyD K μ y t ∧ PySem.W.notFirst K C t = true ∧ F [x, y] μ Q (fun _ _ _ => False)
theorem opd_own {op : CmpOp} (hop : ∀ a b, compareOp op a b = richCompare op a b) (c : MetX X k C (cmpInfo op).2.1 F []) (hG : X.A.guards = some []) (hr : Room j X.A) (hk : k ≤ j) (hK : X.K = K := by rfl) : OpD X (compareOp op) (gOwn (K := K) C F) := by
  subst hK
  obtain ⟨f, fd0, ps, dvs, ds, Fg, hM, hb, hv, hd⟩ := c.ex
  refine ⟨fun x y μ Q Q' h ⟨fd, t, e1, e2, e3, q⟩ => ⟨fd, t, e1, e2, e3, c.mono _ _ _ _ _ _ h (fun _ _ _ z => z) q⟩,
    fun x y H Q => ∃ a dx fv t, x = .ref a ∧ H a = some (.ins C dx fv) ∧ TyX X.K H y t ∧ PySem.W.notFirst X.K C t = true ∧ spD X.K F ([x, y] ++ dvs) H Q (fun _ _ _ => False), ?_, ?_⟩
  · intro pins s σ H x y v u Q I rx ry h
    obtain ⟨a, dx, fv, t, rfl, ha, ty, hn, q⟩ := h
    cases (show v = Value.ref a from rx)
    obtain ⟨mA, O, _, _, _, _⟩ := ins_get I.hok ha
    obtain ⟨od, J, _⟩ := O.look
    obtain ⟨m, hF⟩ := I.fr
    obtain ⟨P, kx, hP, _⟩ := kit_of I ry ty
    rw [hop]
    refine PySem.W.cmp_K (op := op) (tb := t) (hr.mono hk).units0 hF I.ok.mod.kin J (kx.ty _ _ I.kIn hP) hn hM.at_ hM.fn ?_
    refine wpAny_mono (g_run (us := [.ref a, u]) (vs := [.ref a, y]) hG Fg (hr.mono hk) hb hv (passNo (k := k) fun _ _ _ z => z) I (.cons rfl (.cons ry .nil)) q) (fun w s' z => ?_) fun _ _ z => z
    obtain ⟨z', H', I', rz, qz⟩ := z
    exact SlX.cmpback rz ⟨z', H', I', rz, qz⟩
  · rintro ι H μ x y dx dy Q r ax ay ⟨fd, t, e1, e2, e3, q⟩
    obtain ⟨a, dxx, fv, rfl, ha, _⟩ := asI_at r ax e1
    exact ⟨a, dxx, fv, t, rfl, ha, tyd_of r ay e2, e3, ι, μ, _, r, (Ats.cons ax (Ats.cons ay Ats.nil)).app (hd ι H), c.mono [dx, dy] μ _ _ (fun _ _ _ => False) _ (fun _ _ z => z) (fun _ _ _ z => z.elim) q⟩
variable {pins : List (Addr × Obj)} {σ : L2.St} {H : Hp} {s : Shared} {Q : VK} {us : List Value} {vs : List V} {ds : List Value} {dvs : List V} {f0 : Addr} {fd0 : FuncData} {ps : List Str} {sp : Sp} {E : XK}
/-- the callee is run, within a builtin's call -/
theorem g_runA {A' : Around} (hG : A'.guards = some []) (F : FnG X.prog X.w X.K X.mg X.base (L2.CX X.prog X.w) k f0 fd0 ps sp) (hr : Room k A') (e0 : Env0 X.prog X.w X.K X.mg X.base A' X.stack s H) (hb : L2.Binds X.K fd0 ps ds) (hd : Vals dvs ds)
    (hx : ∀ c d H, ¬ E c d H) (I : Inv X pins σ H s) (r : Vals vs us) (h : sp (vs ++ dvs) H Q E) : wpAny (model X.prog X.w) A' (call (.ref f0) us) (EP X pins σ Q) X.xe s := by
  have both := r.append hd
  have many : (us ++ ds).length = ps.length := both.length.symm.trans (F.nargs _ _ _ _ h)
  have ran := F.go A' X.stack s H ⟨us, []⟩ _ _ Q E hG hr e0 (hb s us I.kIn many) both h
  exact wpAny_call (codeAny_mono ran fun r s' hq => match r, hq with
    | .error e, hq => passNo (k := k) hx pins H s e s' I hq
    | .ok (.ret _), hq => I.after hq
    | .ok .next, hq => False.elim hq
    | .ok .brk, hq => False.elim hq
    | .ok .cont, hq => False.elim hq)
/-- x[i], x of the class at C -/
def gGetO (C : Addr) (F : FD) : G2 := fun x y μ Q => ∃ fd, asI μ x = some (C, fd) ∧ F [x, y] μ Q (fun _ _ _ => False)
theorem de_getO (ha : DE X W a fa) (hb : DE X W b fb) (c : MetX X k C "__getitem__" F []) (hfn : ∀ f, Meth X.K C "__getitem__" f → PySem.W.fnIn X.K f = true) (hG : X.A.guards = some []) (hr : Room j X.A) (hk : k + 1 ≤ j)
    (hsl : ∀ v u, subscripted b true v u = runValue (.builtin "lifetime.subscript" ⟨[v, u], []⟩) := by intro _ _; with_unfolding_all rfl) : DE X W (.Subscript a b pos) (fOp (gGetO C F) fa fb) := by
  obtain ⟨f, fd0, ps, dvs, ds, Fg, hM, hbd, hv, hd⟩ := c.ex
  have mg : MonG (gGetO C F) := fun x y μ Q Q' h ⟨fd, e1, q⟩ => ⟨fd, e1, c.mono _ _ _ _ _ _ h (fun _ _ _ z => z) q⟩
  refine ⟨mOp mg ha.mono hb.mono, PE.imp (t := tOp (fun x y H Q => ∃ a dx fv, x = .ref a ∧ H a = some (.ins C dx fv) ∧ spD X.K F ([x, y] ++ dvs) H Q (fun _ _ _ => False)) (rdE X.K W fa) (rdE X.K W fb)) ⟨fun pins s σ H Q I h => ?_⟩ fun σ H Q h => rdOp mg ha.mono hb.mono (fun ι H μ x y dx dy Q r ax ay ⟨fd, e1, q⟩ => ?_) h⟩
  · refine Subscript_ (binT ha.run hb.run I h fun v u s2 x y H2 I2 rx ry q => ?_)
    obtain ⟨p, dx, fv, rfl, hp, q⟩ := q
    cases (show v = Value.ref p from rx)
    obtain ⟨mA, O, _, _, _, _⟩ := ins_get I2.hok hp
    obtain ⟨od, J, _⟩ := O.look
    obtain ⟨m, hF⟩ := I2.fr
    have hr1 : Room k X.A.in1 := (hr.mono hk).in1
    exact PySem.W.sub_K hF I2.ok.mod.kin J hM.at_ (hfn f hM) hM.fn (g_runA (us := [.ref p, u]) (vs := [.ref p, y]) hG Fg hr1 I2.env0.in1 hbd hv (fun _ _ _ z => z) I2 (.cons rfl (.cons ry .nil)) q) (hsl _ _)
  · obtain ⟨p, dxx, fv, rfl, hp, _⟩ := asI_at r ax e1
    exact ⟨p, dxx, fv, rfl, hp, ι, μ, _, r, (Ats.cons ax (Ats.cons ay Ats.nil)).app (hd ι H), c.mono [dx, dy] μ _ _ (fun _ _ _ => False) _ (fun _ _ z => z) (fun _ _ _ z => z.elim) q⟩
end
end Dl

namespace Dl
open PySem PySem.Spec L2
open PyProof.Rows hiding St Binds

/-! ### != and >= of a class that has == and <= alone -/
section
variable {prog : Program} {w : World} {A : Around} {E : Value → Shared → Prop} {s : Shared} {K : PySem.W.Frag} {x C f : Addr} {ox : Obj} {od : Option Obj} {b : Value} {h₀ : Heap} {L : Addr} {m : Str → Option Value}
/-! >= -/
end

section
variable {X : Cx} {C : Addr} {F : FD} {j k : Nat} {K : PySem.W.Frag}
end
end Dl

namespace Dl
open PySem PySem.Spec L2
open PyProof.Rows hiding St Binds

/-! ### dict(pairs), list(d.items()) -/
def mergeKD (kd more : List (Key × D)) : List (Key × D) := more.foldl (fun acc q => putKD acc q.1 q.2) kd
theorem Pts.merge {K : PySem.W.Frag} {ι : Io} {H : Hp} : ∀ {more : List (Key × V)} {md : List (Key × D)} {kv : List (Key × V)} {kd : List (Key × D)}, Pts K ι H more md → Pts K ι H kv kd → Pts K ι H (L2.mergeK kv more) (mergeKD kd md)
  | more, [], kv, kd, p, q => by
    have e : more = [] := by have := p.1; simpa using this
    subst e
    exact q
  | more, (k, d) :: md, kv, kd, p, q => by
    obtain ⟨v, more', rfl, a, p'⟩ := p.uncons
    show Pts K ι H (L2.mergeK (L2.putK kv k v) more') (mergeKD (putKD kd k d) md)
    exact Pts.merge p' (q.putK a)
/-- the pairs as data: two-place tuples, or (as a list display leaves them) what stands for them -/
def pairsD (ps : List (Key × D)) : List D := ps.map fun q => D.tup [kOf q.1, q.2]
theorem kOf_kV {K : PySem.W.Frag} {ι : Io} {H : Hp} {k : Key} {v : V} (a : At K ι H v (kOf k)) : v = kV k := by
  cases k with
  | inl i => cases a; rfl
  | inr s => cases a; rfl
theorem pairs_at {K : PySem.W.Frag} {ι : Io} {H : Hp} : ∀ {ps : List (Key × D)} {vs : List V}, Ats K ι H vs (pairsD ps) → ∃ (as : List Addr) (kv : List (Key × V)), vs = as.map V.ref ∧ Paired (fun p (q : Key × V) => SqT K H p [kV q.1, q.2]) as kv ∧ Pts K ι H kv ps
  | [], vs, a => by
    cases Ats.unnil a
    exact ⟨[], [], rfl, .nil, Pts.nil⟩
  | (k, d) :: ps, vs, a => by
    obtain ⟨v, vs', rfl, a1, a2⟩ := Ats.uncons (d := .tup [kOf k, d]) (ds := pairsD ps) a
    obtain ⟨as, kv, rfl, hp, hq⟩ := pairs_at a2
    obtain ⟨p, ws, rfl, h1, h2⟩ := tup_at a1
    obtain ⟨x, ws', rfl, ax, h3⟩ := h2.uncons
    obtain ⟨y, rfl, ay⟩ := h3.one
    cases kOf_kV ax
    exact ⟨p :: as, (k, y) :: kv, rfl, .cons h1 hp, Pts.cons ay hq⟩
def gDictP : GC := fun xs μ Q => ∃ d ps, xs = [d] ∧ asL μ d = some (pairsD ps) ∧ gNewD (mergeKD [] ps) μ Q
section
variable {X : Cx} {W : WX} {e : Expr} {f : FE} {p apos cpos pos : Pos}
theorem cad_dictP (hc : X.calm = true) : CaD X (.type "dict") gDictP := by
  refine ⟨fun xs μ Q Q' h ⟨d, ps, e1, e2, q⟩ => ⟨d, ps, e1, e2, gNewD_mono h q⟩, _, call_dictP hc, fun ι H μ vs ds Q r a ⟨d, ps, e1, e2, q⟩ => ?_⟩
  subst e1
  obtain ⟨v, rfl, a1⟩ := a.one
  obtain ⟨b, ws, rfl, h1, h2⟩ := asL_at r a1 e2
  obtain ⟨as, kv, rfl, hp, hq⟩ := pairs_at h2
  exact ⟨b, as, kv, rfl, SqL.of h1, hp, fun l hl => newD_ok r (hq.merge Pts.nil) q l hl⟩
end
end Dl

namespace Dl
open PySem PySem.Spec L2
open PyProof.Rows hiding St Binds

/-! ### a comprehension over the keys of a cell's dict -/
section
variable {K : PySem.W.Frag} {ι ι' : Io} {H H' : Hp} {a : Addr} {kv : List (Key × V)} {kd : List (Key × D)} {ob : Obj} {n : Nat}
end
section
variable {X : Cx} {W : WX} {elt tg iter : Expr} {ifs : List Expr} {scope : Scope} {own : List (Str × Nat)} {pos p : Pos} {tgf : FG} {ft : FT} {fe : FE} {x : Str}
end
/-! ### list(d.items()), d a cell -/
theorem Rep.ext {K : PySem.W.Frag} {ι : Io} {μ : Sto} {H H' : Hp} (r : Rep K ι μ H) (k : ∀ b o, H b = some o → H' b = some o) : Rep K ι μ H' ∧ Gr ι H ι H' := by
  have g : Gr ι H ι H' := ⟨fun _ _ h => h, fun a o e n => ⟨k a o e, n⟩⟩
  refine ⟨⟨r.len, r.nd, fun j b c e1 e2 => ?_⟩, g⟩
  have z := r.at_ j b c e1 e2
  cases c with
  | lst ds => obtain ⟨vs, h1, h2⟩ := z; exact ⟨vs, k _ _ h1, h2.gr g⟩
  | dct kd => obtain ⟨kv, h1, h2⟩ := z; exact ⟨kv, k _ _ h1, h2.gr g⟩
  | lck ob kv kd => exact ⟨k _ _ z.1, z.2.gr g⟩
  | ins C fd => obtain ⟨dx, fv, h1, h2⟩ := z; exact ⟨dx, fv, k _ _ h1, h2.gr g⟩
end Dl

/-! an own error's __init__ whose first statement is super().__init__(..), two classes above a built-in one -/
namespace Dl
open PySem PySem.Spec L2
open PyProof.Rows hiding St Binds

structure SupScope (N P : List Str) (sc : Scope) : Prop where
  kind : sc.kind = .function
  co : sc.isCoroutine = false
  gen : sc.isGenerator = false
  nd : N.Nodup
  pre : N.take P.length = P
  par : ∀ x ∈ P, sc.names.lookup x = some .local
  nocell : ∀ y ∈ sc.names, y.2 ≠ .cell
  free1 : ∀ y ∈ sc.names, y.2 = .free → y.1 = "__class__"
  cls : sc.names.lookup ("__class__" : Str) = some .free
  sup : sc.names.lookup ("super" : Str) = some .globalImplicit

/-- the context of such a body -/
def cxS (CX : CXT) (P : Program) (w : World) (K : PySem.W.Frag) (mg : Str → Option Value) (base : Heap) (N : List Str) (qual : Str) (scope : Scope) (f : Addr) (cd : Value) (cc : Addr) (A : Around) (outer : List Env) (s : Shared) (H : Hp) (E : XK) : Cx where
  prog := P
  w := w
  K := K
  mg := mg
  base := base
  A := A.deeper (PySem.W.ksEnv qual scope s.heap.objs.size f cd cc)
  N := N
  s_0 := s
  H_0 := H
  env := PySem.W.ksEnv qual scope s.heap.objs.size f cd cc
  outer := outer
  stack := PySem.W.ksEnv qual scope s.heap.objs.size f cd cc :: outer
  ex := []
  calm := true
  fn := fun _ => false
  pn := []
  xe := fun e s' => wpAny (model P w) (A.deeper (PySem.W.ksEnv qual scope s.heap.objs.size f cd cc)) (leaving (PySem.W.ksEnv qual scope s.heap.objs.size f cd cc) e) (fun _ s'' => CX outer H s E e s'') (fun e' s'' => CX outer H s E e' s'') s'

theorem rev_lookup : ∀ {ps : List Str} {us : List Value} {i : Nat} {x : Str} {u : Value}, ps.Nodup → ps[i]? = some x → us[i]? = some u → (ps.zip us).reverse.lookup x = some u
  | [], _, _, _, _, _, h, _ => by simp at h
  | _ :: _, [], _, _, _, _, _, h => by simp at h
  | p :: ps, w :: us, 0, x, u, nd, h1, h2 => by
    simp at h1 h2; subst h1; subst h2
    have nx : ((ps.zip us).reverse).lookup p = none := by
      rw [List.lookup_eq_none_iff]
      intro q hq
      have hm := (List.of_mem_zip (List.mem_reverse.mp hq)).1
      have : p ≠ q.1 := by rintro rfl; exact (List.nodup_cons.mp nd).1 hm
      simpa using this
    rw [List.zip_cons_cons, List.reverse_cons, List.lookup_append, nx]
    simp [List.lookup]
  | p :: ps, w :: us, i + 1, x, u, nd, h1, h2 => by
    rw [List.zip_cons_cons, List.reverse_cons, List.lookup_append, rev_lookup (i := i) (List.nodup_cons.mp nd).2 (by simpa using h1) (by simpa using h2)]
    rfl

theorem start_at {N : List Str} {vs : List V} {i : Nat} {v : V} (h : (L2.start N vs)[i]? = some (some v)) : vs[i]? = some v := by
  by_cases c : i < vs.length
  · simpa [L2.start, List.getElem?_append, c] using h
  · simp [L2.start, List.getElem?_append, c, List.getElem?_replicate] at h
theorem SupScope.ndP {N ps : List Str} {sc : Scope} (S : SupScope N ps sc) : ps.Nodup := S.pre ▸ S.nd.sublist (List.take_sublist ps.length N)
theorem SupScope.atP {N ps : List Str} {sc : Scope} (S : SupScope N ps sc) {i : Nat} {y : Str} (hi : i < ps.length) (h : N[i]? = some y) : ps[i]? = some y := by
  have z := List.getElem?_take_of_lt (l := N) hi
  rwa [S.pre, h] at z
theorem SupScope.leN {N ps : List Str} {sc : Scope} (S : SupScope N ps sc) : ps.length ≤ N.length := by
  have z : (N.take ps.length).length = ps.length := congrArg List.length S.pre
  rw [List.length_take] at z
  omega
/-- how such a body is entered: the frame has the arguments, the one cell is the class's -/
theorem inv_startS {CX : CXT} {P : Program} {w : World} {K : PySem.W.Frag} {mg : Str → Option Value} {base : Heap} {N ps : List Str} {qual : Str} {scope : Scope} {f cc : Addr} {cd : Value} {A : Around} {outer : List Env} {s : Shared} {h1 : Heap} {tk : Nat} {H : Hp} {E : XK} {us : List Value} {vs : List V}
    (S : SupScope N ps scope) (hd : A.handled = none) (e0 : Env0 P w K mg base A outer s H) (hl : vs.length = ps.length) (r : Vals vs us)
    (hcell : ∃ cl cld v csl, K.lookup cc = some ⟨cl, cld, .cell v, csl⟩)
    (ns : h1.Ns s.heap.objs.size (fun x => (ps.zip us).reverse.lookup x)) (hk : ∀ b o, s.heap.get? b = some o → h1.get? b = some o) :
    Inv (cxS CX P w K mg base N qual scope f cd cc A outer s H E) [] (L2.start N vs) H { s with heap := h1, toks := tk } := by
  obtain ⟨_, _, held, _, there⟩ := hcell
  obtain ⟨cS, cH⟩ := e0.bs _ _ (e0.mod.kin _ _ there)
  have only : ∀ y c, (cxS CX P w K mg base N qual scope f cd cc A outer s H E).env.cells.lookup y = some c → y = "__class__" ∧ c = cc := fun y c z => by
    have z : List.lookup y [(("__class__" : Str), cc)] = some c := z
    by_cases q : y = "__class__"
    · subst q
      exact ⟨rfl, by simpa [List.lookup] using z.symm⟩
    · have ne : (y == ("__class__" : Str)) = false := by simpa using q
      simp [List.lookup, ne] at z
  have ok : (cxS CX P w K mg base N qual scope f cd cc A outer s H E).Ok :=
    { mod := e0.mod, kind := S.kind, glob := rfl, blt := rfl, above := Nat.le_refl _
      inj := fun y z c a b => (only y c a).1.trans (only z c b).1.symm
      has := fun y z => by
        rcases z with z | z
        · exact (S.nocell (y, .cell) (PySem.mem_of_lookup z) rfl).elim
        · have q : y = "__class__" := S.free1 (y, .free) (PySem.mem_of_lookup z) rfl
          exact ⟨cc, by rw [q]; simp [cxS, List.lookup]⟩
      cab := fun y c z _ => Bool.noConfusion z
      hd := fun _ => hd, frames := Around.frames_deeper e0.frames, stk := Or.inr ⟨rfl, rfl⟩
      exf := fun b z => (List.not_mem_nil z).elim, bs := e0.bs, bsz := e0.bsz, noex := fun _ _ _ z => List.not_mem_nil z
      exfs := fun b z => (List.not_mem_nil z).elim, funs := e0.funs, frf := e0.frf }
  have loc : ∀ (i : Nat) (y : Str) (v : V), N[i]? = some y → (L2.start N vs)[i]? = some (some v) → ∃ u, RelV v u ∧ scope.names.lookup y = some .local ∧ (ps.zip us).reverse.lookup y = some u := fun i y v a b => by
    have hv := start_at b
    obtain ⟨u, hu, rv⟩ := r.get hv
    have hp := S.atP (hl ▸ (List.getElem?_eq_some_iff.mp hv).1) a
    exact ⟨u, rv, S.par y (List.mem_of_getElem? hp), rev_lookup S.ndP hp hu⟩
  exact { ok := ok, os := rfl, bare := e0.bare, base := Un.kept hk, hok := e0.hok.kept hk, free := e0.hok.fresh (Nat.le_refl _)
          loc := ⟨_, ns, fun i y v a b _ => let ⟨u, rv, q1, q2⟩ := loc i y v a b; ⟨u, rv, Or.inl ⟨q1, q2⟩⟩⟩
          cell := fun y c z => (only y c z).2 ▸ ⟨held, _, hk _ _ cS, rfl⟩
          freeC := fun y c z => (only y c z).2 ▸ cH
          pin := fun p z => (List.not_mem_nil (show p ∈ ([] : List (Addr × Obj)) from z)).elim
          len := by
            have le := S.leN
            simp only [L2.start, List.length_append, List.length_map, List.length_replicate]
            show _ = N.length
            omega }

/-- what the written part says of the class and of its __init__ -/
structure SupK (P : Program) (K : PySem.W.Frag) (mg : Str → Option Value) (C : Addr) (cda cc : Addr) : Prop where
  cls : OexC K C
  code : ∃ ccl cdd vs ccs file tf, K.lookup cda = some ⟨ccl, cdd, .fields vs, ccs⟩ ∧ vs[2]? = some (.str file tf) ∧ ((P.main.file : Str) == file) = true
  cell : ∃ cl cld csl, K.lookup cc = some ⟨cl, cld, .cell (some (.ref C)), csl⟩
  sub : PySem.W.mroIn K C (.ref C) = some true
  super : mg "super" = none
  top : (P.main.scope.names.lookup ("super" : Str)).isSome = false
  init : PySem.W.ks_superIn K C C "__init__" = some (some (.builtin "ValueError.__init__"))
  base : PySem.W.subIn K (.ref C) (.type "ValueError") = some true
  tp : PySem.W.nsIn K cStatics "thirdparty.any" = some none

section
variable {X : Cx} {C cda cc f q : Addr} {pins : List (Addr × Obj)} {σ : L2.St} {H : Hp} {s : Shared} {a : Addr}
/-- the wrapper is called -/
theorem sup_call {us : List Value} {Q : Value → Shared → Prop} {B : Value → Shared → Prop} (T : OexC X.K C) (I : Inv X pins σ H s) (hq : s.heap.get? q = some (PySem.W.kxs_mw "ValueError.__init__" a)) (e : H a = some (exo a C none)) (hl : us.length ≤ sizeLine) (h : ∀ s', Inv X pins σ H s' → Q .none s') :
    wpAny (model X.prog X.w) X.A (call (.ref q) us) Q B s := by
  obtain ⟨nm, qn, N, bs, bm, sn, sub, ab, col, dd, k0, k1, k2, k3, k5, hC, hbm⟩ := T.cls
  obtain ⟨t1, ho⟩ := exo_at I.hok e
  obtain ⟨hp, g, d, t, os⟩ := s
  refine wpAny_call (codeAny_of_tree ?_)
  show wpAny _ X.A.in1 (callAny (.ref q) ⟨us, []⟩) _ _ _
  simp only [callAny]
  refine wpAny_bind (wpAny_load hq ?_)
  simp only [PySem.W.kxs_mw, show (Value.type "method-wrapper" == Value.type "method" || Value.type "method-wrapper" == Value.type "builtin_function_or_method" || Value.type "method-wrapper" == Value.type "method-wrapper") = true by decide, if_true]
  refine PySem.W.KFB.if_so (by decide) ?_
  refine wpAny_bind (PySem.W.check_bound_init F.excBase_ValueError.toExcCallFacts (I.kIn _ _ hC) ho rfl ?_)
  refine wpAny_bind (wpAny_pure (wpAny_pure ?_))
  refine ⟨plainId_quiet F.excBase_ValueError.init.plain _, codeAny_builtin F.excBase_ValueError.initEntry ?_⟩
  refine PySem.W.exc_init_tree (cls := .ref C) (t0 := t1) (dv := none) (c2 := .none) (c3 := .none) (b4 := .bool false) ho hl fun h' k hx _ => ?_
  have same : upd H a (exo a C none) = H := funext fun b => by
    unfold upd
    split
    · rename_i q
      rw [q, e]
    · rfl
  exact h _ (same ▸ Inv.write I (e := a) (x := a) (t' := t) (by rw [e]; trivial) (Or.inl rfl) k ⟨_, hx⟩ (exo_ok hx))
end

section
variable {P : Program} {w : World} {K : PySem.W.Frag} {mg : Str → Option Value} {base : Heap} {CX : CXT} {k : Nat} {f C cda cc : Addr} {name qual : Str} {params : Arguments} {rest : List Stmt} {scope : Scope}
  {dV kV doc pm ct oc : Value} {an od : Option Addr} {osl : Array (Option Value)} {N ps : List Str} {sp : Sp} {e : Expr} {es : List Expr} {p0 p1 p2 p3 p4 : Pos} {ar : Arg}
/-- an error's __init__: super().__init__(e, ..), then the rest -/
theorem fn_sup (T : SupK P K mg C cda cc)
    (lk : K.lookup f = some ⟨oc, od, .func (PySem.W.ksFn name qual params (.Expr (.Call (.Attribute (.Call (.Name "super" p0) [] [] p1) "__init__" p2) (e :: es) [] p3) p4 :: rest) scope dV kV doc pm an (.ref cda) ct cc), osl⟩)
    (hcd : PySem.W.codeIn K (.ref cda) qual = true) (S : SupScope N ps scope) (har : (params.posonlyargs ++ params.args).head? = some ar) (hps : ps.head? = some ar.arg)
    (len : ∀ vs H Q E, sp vs H Q E → vs.length = ps.length)
    (hbody : ∀ (A : Around) (outer : List Env) (s : Shared) (H : Hp) (vs : List V) (Q : VK) (E : XK),
      (A.deeper (PySem.W.ksEnv qual scope s.heap.objs.size f (.ref cda) cc)).guards = some [] → Room k (A.deeper (PySem.W.ksEnv qual scope s.heap.objs.size f (.ref cda) cc)) → sp vs H Q E →
        ∃ (ta : TA) (tr : TS) (a : Addr) (ws : List V), PA (cxS CX P w K mg base N qual scope f (.ref cda) cc A outer s H E) (e :: es) ta ∧ PSs (cxS CX P w K mg base N qual scope f (.ref cda) cc A outer s H E) rest tr ∧ vs = .ref a :: ws ∧ H a = some (exo a C none) ∧
          ta (L2.start N vs) H fun us H1 => us.length ≤ 1000 ∧ H1 a = some (exo a C none) ∧ tr { nx := fun _ H' => Q .non H', rt := Q } (L2.start N vs) H1)
    {pl : Env → Sem Bool} (ht : ∀ env, eval (.Call (.Attribute (.Call (.Name "super" p0) [] [] p1) "__init__" p2) (e :: es) [] p3) env = (do
      let ov ← attributeBase (.Call (.Name "super" p0) [] [] p1) "__init__" env (eval (.Call (.Name "super" p0) [] [] p1) env)
      standAt p2.atName
      let (f, first) ← holding [ov] (getMethod ov "__init__" (pl env))
      callWith p3 f first (backTo p3 (starEach (e :: es) env)) []) := by intro; rfl)
    (hs : ∀ env, swapsWith (.Call (.Attribute (.Call (.Name "super" p0) [] [] p1) "__init__" p2) (e :: es) [] p3) none p4.line env = pure false := by intro; rfl)
    (he : ∀ env, starEach (e :: es) env = (false, eval e env) :: starEach es env := by intro; rfl) (hpl : ∀ env, (backTo p3 (starEach es env)).any (·.1) = false := by intro; rfl) :
    FnG P w K mg base CX (k + 1) f (PySem.W.ksFn name qual params (.Expr (.Call (.Attribute (.Call (.Name "super" p0) [] [] p1) "__init__" p2) (e :: es) [] p3) p4 :: rest) scope dV kV doc pm an (.ref cda) ct cc) ps sp := by
  refine ⟨len, fun A outer s H args us vs Q E hG hr e0 hb r hsp => ?_⟩
  have old : ∀ b o, base.get? b = some o → s.heap.get? b = some o := fun b o z => (e0.bs b o z).1
  have KX := e0.mod.kin.keeps old
  have lim := e0.mod.nolimit.keeps old
  obtain ⟨ccl, cdd, cvs, ccs, file, tf, hcode, hvs, hfile⟩ := T.code
  obtain ⟨cl, cld, csl, hcell⟩ := T.cell
  refine PySem.ks_codeAny_call_defAt (fd := PySem.W.ksFn name qual params (.Expr (.Call (.Attribute (.Call (.Name "super" p0) [] [] p1) "__init__" p2) (e :: es) [] p3) p4 :: rest) scope dV kV doc pm an (.ref cda) ct cc) (binds := ps.zip us) hr.depth (KX _ _ lk) rfl lim (PySem.W.codeRec_of KX hcd) rfl hb S.nocell
    (fun y hy => S.par y.1 (List.of_mem_zip (show (y.1, y.2) ∈ ps.zip us from hy)).1) (fun h1 hns hk => ?_) S.co S.gen S.kind
  obtain ⟨ta, tr, a, ws, hA, hR, ev, ea, q⟩ := hbody A outer s H vs Q E hG (hr.deeper _) hsp
  have I : Inv (cxS CX P w K mg base N qual scope f (.ref cda) cc A outer s H E) [] (L2.start N vs) H { s with heap := h1, toks := s.toks + (ps.zip us).length } :=
    inv_startS S hr.hd e0 (len _ _ _ _ hsp) r ⟨_, _, _, _, hcell⟩ hns hk
  have hus : ∃ ur, us = .ref a :: ur := by
    subst ev
    cases r with
    | @cons _ u0 _ ur ra rw' =>
      obtain rfl : u0 = Value.ref a := ra
      exact ⟨ur, rfl⟩
  obtain ⟨ur, rfl⟩ := hus
  have self : (ps.zip (Value.ref a :: ur)).reverse.lookup ar.arg = some (Value.ref a) :=
    rev_lookup (i := 0) (by rw [← S.pre]; exact S.nd.sublist (List.take_sublist _ _)) (by rw [← List.head?_eq_getElem?]; exact hps) rfl
  show _root_.PySem.wpAt (model P w) _ (.func _ (PySem.W.ksEnv qual scope s.heap.objs.size f (.ref cda) cc)) (execs _ (PySem.W.ksEnv qual scope s.heap.objs.size f (.ref cda) cc)) _ _ _
  refine PySem.ks_wpAt_execs_cons (PySem.ks_wpAt_Expr_any (PySem.ks_wpAt_MethodCall ?_ (ht _)) (by unfold interactive; show (scope.kind == ScopeKind.module && _) = false; rw [S.kind]; rfl) (hs _))
  -- super()
  obtain ⟨cdD, hD⟩ : ∃ cdD, PySem.W.clsIn K C = some cdD := by
    obtain ⟨nm, qn, N', bs, bm, sn, sub, ab, col, dd, k0, k1, k2, k3, k5, hC, hbm⟩ := T.cls.cls
    exact ⟨_, by unfold PySem.W.clsIn; rw [hC]⟩
  obtain ⟨oD, hD1, hD2⟩ : ∃ oD, h1.get? C = some oD ∧ oD.data = .cls cdD := by
    unfold PySem.W.clsIn at hD
    split at hD
    · rename_i c d cd' sl ho
      cases hD
      exact ⟨_, I.kIn _ _ ho, rfl⟩
    · cases hD
  obtain ⟨t1, ho⟩ := exo_at I.hok ea
  obtain ⟨mb, hb1, hb2⟩ := I.mod.blt
  refine PySem.ks_wpAt_super_base (env := PySem.W.ksEnv qual scope s.heap.objs.size f (.ref cda) cc) S.sup S.cls (by decide) rfl (I.kIn _ _ lk) rfl har rfl (I.kIn _ _ hcode) rfl hvs hfile T.top ?_
  refine PySem.W.ks_loadName_global S.kind S.sup (PySem.Calls.loadGlobal_builtin (env := PySem.W.ksEnv qual scope s.heap.objs.size f (.ref cda) cc) (I.mod.glob.keeps I.bk) T.super (hb1.keeps I.bk) ((hb2 "super" (by decide)).trans PyProof.Rows.Boot.«super») ⟨rfl, ?_⟩)
  refine wpAny_loadName_free S.kind S.cls rfl ⟨_, I.kIn _ _ hcell, rfl⟩ ?_
  refine wpAny_loadName_local S.kind (S.par ar.arg (List.mem_of_mem_head? hps)) hns self ?_
  refine PySem.ks_wpAny_isType_cls hD1 hD2 ⟨rfl, ?_⟩
  refine PySem.ks_wpAny_call_super hD1 hD2 ho rfl (fun c e => by cases e) (PySem.W.looks_mroIn I.kIn T.sub) (fun h2 e2 k2 => ?_)
  -- .__init__
  have I2 := I.kept (t' := s.toks + (ps.zip (Value.ref a :: ur)).length) k2
  have ho2 := k2 _ _ ho
  have hIn : PySem.W.Looks (model P w) h2 (isInstance (.ref a) (.type "ValueError")) true :=
    (show PySem.W.InstAt h2 a _ C none from ⟨ho2, rfl, rfl, trivial⟩).type.andThen (PySem.W.looks_subIn I2.kIn T.base)
  have hal : PySem.W.alongIn K "__init__" ((cdD.mro.dropWhile (· != .ref C)).drop 1) = some (some (.builtin "ValueError.__init__")) := by
    have z := T.init
    unfold PySem.W.ks_superIn at z
    rw [hD] at z
    exact z
  have haC : a ≠ C := fun z => by
    unfold PySem.W.clsIn at hD
    split at hD
    · rename_i c d cd' sl hoC
      have y := I2.kIn _ _ hoC
      rw [← z] at y
      have y2 := ho2.symm.trans y
      cases y2
    · cases hD
  refine PySem.W.kxs_getMethod PySem.W.kxs_ValueError e2 (PySem.W.looks_opaque I2.kIn T.tp) (l₀ := cdD.mro) (fun A Q E s k q => wpAny_bind ((PySem.W.looks_clsIn I2.kIn hD) A _ E s k (wpAny_pure q))) rfl I2.kIn hal hIn haC (by decide) ?_
  -- the arguments
  have keep3 : ∀ b u, h2.get? b = some u → (h2.push (PySem.W.kxs_mw "ValueError.__init__" a)).get? b = some u := fun b u e => Heap.get?_push_of_some _ e
  have hq3 : (h2.push (PySem.W.kxs_mw "ValueError.__init__" a)).get? h2.objs.size = some (PySem.W.kxs_mw "ValueError.__init__" a) := Heap.get?_push_at rfl rfl
  have I3 := I2.kept (t' := s.toks + (ps.zip (Value.ref a :: ur)).length + 1) keep3
  have hqL : h2.objs.size ≠ s.heap.objs.size := Nat.ne_of_gt I2.lt
  have I4 : Inv (cxS CX P w K mg base N qual scope f (.ref cda) cc A outer s H E) [(h2.objs.size, PySem.W.kxs_mw "ValueError.__init__" a)] (L2.start N vs) H _ :=
    ⟨I3.ok, I3.os, I3.bare, I3.base, I3.loc, I3.cell, I3.free, I3.freeC, fun p hp => (by
        have hp : p ∈ [(h2.objs.size, PySem.W.kxs_mw "ValueError.__init__" a)] := hp
        obtain rfl := List.mem_singleton.mp hp
        exact ⟨hq3, I2.hok.fresh (Nat.le_refl _), hqL, I2.nofs (Nat.le_refl _), fun v z => by cases z⟩), I3.hok, I3.len⟩
  have fin : ∀ s5 H5, Inv (cxS CX P w K mg base N qual scope f (.ref cda) cc A outer s H E) [(h2.objs.size, PySem.W.kxs_mw "ValueError.__init__" a)] (L2.start N vs) H5 s5 → Inv (cxS CX P w K mg base N qual scope f (.ref cda) cc A outer s H E) [] (L2.start N vs) H5 s5 := fun s5 H5 J =>
    ⟨J.ok, J.os, J.bare, J.base, J.loc, J.cell, J.free, J.freeC, fun p hp => absurd (show p ∈ ([] : List (Addr × Obj)) from hp) (by simp), J.hok, J.len⟩
  show wpAny (model P w) _ (callWith p3 (.ref h2.objs.size) [] (backTo p3 (starEach (e :: es) (PySem.W.ksEnv qual scope s.heap.objs.size f (.ref cda) cc))) []) _ _ _
  have hA4 := hA.run p3 _ _ _ _ _ I4 q
  have hA4 : wpAny (model P w) _ (spliced (backTo p3 (starEach (e :: es) (PySem.W.ksEnv qual scope s.heap.objs.size f (.ref cda) cc)))) _ _ _ := hA4
  rw [he] at hA4 ⊢
  refine PySem.W.kxs_callWith (i := "ValueError.__init__") (x := a) (by show (false || (backTo p3 (starEach es _)).any (·.1)) = false; rw [hpl]; rfl) (PySem.Calls.evalArgs_plain (thn hA4 fun us4 s4 ⟨vs4, H4, I5, r4, l4, e4, q4⟩ => ⟨(I5.pin (h2.objs.size, PySem.W.kxs_mw "ValueError.__init__" a) (by show _ ∈ [_]; simp)).1, ?_⟩))
  refine sup_call (X := cxS CX P w K mg base N qual scope f (.ref cda) cc A outer s H E) T.cls I5 (I5.pin (h2.objs.size, PySem.W.kxs_mw "ValueError.__init__" a) (by show _ ∈ [_]; simp)).1 e4 (by show us4.length ≤ sizeLine; rw [← r4.length, sizeLine_eq]; omega) fun s5 J => ?_
  have I6 := fin s5 _ J
  show _root_.PySem.wpAt (model P w) _ _ (execs rest (PySem.W.ksEnv qual scope s.heap.objs.size f (.ref cda) cc)) _ _ s5
  refine wpAt_of_wpAny (wpAny_mono (hR.run [] s5 _ _ _ I6 q4) (fun fl s' hs => ?_) fun e s' hs => hs)
  match fl, hs with
  | .ret u, ⟨v, _, H', J, rv, q⟩ => exact ⟨v, H', J.os, J.bare, J.base, J.hok, rv, q⟩
  | .next, ⟨_, H', J, q⟩ => exact ⟨.non, H', J.os, J.bare, J.base, J.hok, rfl, q⟩
  | .brk, ⟨_, _, _, q⟩ => exact False.elim q
  | .cont, ⟨_, _, _, q⟩ => exact False.elim q
end
end Dl

/-! an own error made, by the promise of its __init__ -/
namespace Dl
open PySem PySem.Spec L2
open PyProof.Rows hiding St Binds
section
variable {X : Cx} {pins : List (Addr × Obj)} {σ : L2.St} {H : Hp} {s : Shared} {C fI : Addr} {k : Nat} {fd : FuncData} {ps : List Str} {sp : Sp} {ta : TA} {x : Str} {e : Expr} {es : List Expr} {p pos : Pos}
/-- the heap in which an error's __init__ begins: its arguments' tuple and itself are laid -/
abbrev begun (C : Addr) (h : Heap) (us : List Value) : Heap := (h.push (PySem.W.kdv_tup us)).push (PySem.HandSPX.excO C h.objs.size)
theorem begun_inv (us : List Value) (I : Inv X pins σ H s) : Inv X pins σ (upd H (s.heap.objs.size + 1) (exo (s.heap.objs.size + 1) C none)) { s with heap := begun C s.heap us } := by
  have two : ∀ b u, s.heap.get? b = some u → (begun C s.heap us).get? b = some u := fun b u z => by
    unfold begun
    exact Heap.get?_push_of_some _ (Heap.get?_push_of_some _ z)
  have it : (begun C s.heap us).get? (s.heap.objs.size + 1) = some (PySem.HandSPX.excO C s.heap.objs.size) := by
    unfold begun
    heap_get
  exact Inv.laid I two (by omega) (exo_ok it)
/-- a class of errors is called, its __init__ keeps sp -/
theorem oex_call (hG : X.A.guards = some []) (T : OexC X.K C) (iC : PySem.W.findIn X.K (.ref C) "__init__" = some (some (.ref fI))) (tI : PySem.W.typeIn X.K (.ref fI) = some (.type "function"))
    (Fi : FnG X.prog X.w X.K X.mg X.base (L2.CX X.prog X.w) k fI fd ps sp) (room : Room (k + 1) X.A) (hb : L2.Binds X.K fd ps []) (hx : Passes (L2.CX X.prog X.w) X (fun _ _ _ => False)) (I : Inv X pins σ H s) {us : List Value} {vs : List V} (rv : Vals vs us) (few : vs.length ≤ 1000) {Q : XK}
    (h : ∀ a, H a = none → sp (.ref a :: vs) (upd H a (exo a C none)) (fun v H2 => v = .non ∧ ∃ (d : Addr) (fs : List (Str × V)), H2 a = some (exo a C (some d)) ∧ H2 d = some (exd d fs) ∧ H d = none ∧ Q (.ref C) (some d) (upd (L2.del H2 a) d (.xd fs))) (fun _ _ _ => False)) :
    wpAny (model X.prog X.w) X.A (call (.ref C) us) (MkP X pins σ Q) X.xe s := by
  have g : (X.A.under (.builtin "type.__call__" ⟨.ref C :: us, []⟩)).guards = some [] := by
    unfold Around.under
    rw [hG]
    rfl
  obtain ⟨_, _, _, _, m, _, _, _, _, _, _, _, _, _, _, at_, refs⟩ := id T.cls
  have B := begun_inv (C := C) us I
  have all : Vals (V.ref (s.heap.objs.size + 1) :: vs) (Value.ref (s.heap.objs.size + 1) :: us) := .cons rfl rv
  have says := h _ (I.hok.fresh (Nat.le_succ s.heap.objs.size))
  have many : (Value.ref (s.heap.objs.size + 1) :: us).length = ps.length := all.length.symm.trans (Fi.nargs _ _ _ _ says)
  have ran := Fi.go _ X.stack _ _ ⟨Value.ref (s.heap.objs.size + 1) :: us, []⟩ (Value.ref (s.heap.objs.size + 1) :: us) _ _ (fun _ _ _ => False) g (room.make C us []) (B.env0.make C us [])
    (by have z := hb _ (Value.ref (s.heap.objs.size + 1) :: us) B.kIn (by rw [List.append_nil]; exact many); rw [List.append_nil] at z; exact z) all says
  obtain ⟨h0, g0, d0, t0, os0⟩ := s
  refine wpAny_call (PySem.HandSPX.call_own F.excBase_ValueError (fun Y => PySem.HandSPX.refsVE_contains Y m refs) (I.kIn _ _ at_) (PySem.W.looks_findIn I.kIn iC) (fun self => PySem.W.bind_fn I.kIn self tI) (by rw [← rv.length, sizeLine_eq]; omega) (codeAny_mono ran ?_))
  rintro (err | (u | _ | _ | _)) s1 end_
  · exact hx pins σ _ _ err s1 B end_
  all_goals first | exact False.elim end_ | skip
  obtain ⟨y, H2, io, bare, un, ok2, ry, rfl, d, fs, w1, w2, w3, w4⟩ := end_
  obtain ⟨h1, g1, d1, t1, os1⟩ := s1
  exact ⟨ry, mk_end (raises_own T.exC T.tyC) I (Nat.le_succ _) (fun b u z => by unfold begun; exact Heap.get?_push_of_some _ (Heap.get?_push_of_some _ z)) un ok2 io bare w1 w2 w3 w4⟩
theorem g_oex (hG : X.A.guards = some []) (T : OexC X.K C) (iC : PySem.W.findIn X.K (.ref C) "__init__" = some (some (.ref fI))) (tI : PySem.W.typeIn X.K (.ref fI) = some (.type "function"))
    (Fi : FnG X.prog X.w X.K X.mg X.base (L2.CX X.prog X.w) k fI fd ps sp) (room : Room (k + 1) X.A) (hb : L2.Binds X.K fd ps []) (hx : Passes (L2.CX X.prog X.w) X (fun _ _ _ => False)) (hg : Gl X x) (hm : X.mg x = some (.ref C)) (ha : PA X (e :: es) ta)
    (ndb : (x == ("__debug__" : Str)) = false) (one : starEach (e :: es) X.env = (false, eval e X.env) :: starEach es X.env) (plain : (backTo pos (starEach es X.env)).any (·.1) = false) :
    PMk X (.Call (.Name x p) (e :: es) [] pos) (tMkO C sp [] ta) := fun pins s σ H Q I h =>
  wpAny_Call_Name_kw (ld_glob I hg hm (PySem.W.callWith_K (h₀ := X.base) I.mod.kin T.kC (thn (ha.run pos pins s σ H _ I h) fun us s1 hs => by
    obtain ⟨vs, H1, J, rv, few, q⟩ := hs
    exact ⟨J.kIn, oex_call hG T iC tI Fi room hb hx J rv few fun a na => by have z := q a na; rw [List.append_nil] at z; exact z⟩) one plain) ndb)
end
/-- the promise of an error's __init__: ok: what its arguments must be (their texts fit); fl: its fields -/
def spE (K : PySem.W.Frag) (C : Addr) (ok : List D → Sto → Prop) (fl : List D → List (Str × D)) : Sp := fun vs H Q E => ∃ a ws ι μ ds H0, vs = .ref a :: ws ∧ H0 a = none ∧ H = upd H0 a (exo a C none) ∧ Rep K ι μ H0 ∧ Ats K ι H0 ws ds ∧ ok ds μ ∧
  ∀ d fv, H0 d = none → d ≠ a → Pts K ι H0 fv (fl ds) → Q .non (upd (upd H0 a (exo a C (some d))) d (exd d fv))
/-- an error class under a name -/
structure Erc (P : Program) (w : World) (K : PySem.W.Frag) (mg : Str → Option Value) (base : Heap) (k : Nat) (x : Str) (C : Addr) (ok : List D → Sto → Prop) (fl : List D → List (Str × D)) : Prop where
  ex : ∃ (f : Addr) (fd : FuncData) (ps : List Str), FnG P w K mg base (L2.CX P w) k f fd ps (spE K C ok fl) ∧ OexC K C ∧ PySem.W.findIn K (.ref C) "__init__" = some (some (.ref f)) ∧ PySem.W.typeIn K (.ref f) = some (.type "function") ∧ mg x = some (.ref C) ∧ L2.Binds K fd ps []
abbrev ErcX (X : Cx) := Erc X.prog X.w X.K X.mg X.base
def fRaise (C : Addr) (ok : List D → Sto → Prop) (fl : List D → List (Str × D)) (g : FA) : FS := fun A ρ μ => g ρ μ (fun ds m => ds.length ≤ 1000 ∧ ok ds m ∧ A.ex (.ref C) (fl ds) ρ m) A.ex
section
variable {X : Cx} {W : WX} {e : Expr} {es : List Expr} {g : FA} {p pos pos2 : Pos} {k j : Nat} {x : Str} {C : Addr} {ok : List D → Sto → Prop} {fl : List D → List (Str × D)}
/-- raise C(e, ..) -/
theorem ds_raise (c : ErcX X k x C ok fl) (hc : X.calm = true) (hG : X.A.guards = some []) (hr : Room j X.A) (hk : k + 1 ≤ j) (hg : Gl X x) (tk : Takes X W) (hx : Passes (L2.CX X.prog X.w) X (fun _ _ _ => False)) (ha : DA X W (e :: es) g)
    (hdb : (x == ("__debug__" : Str)) = false := by decide) (he : starEach (e :: es) X.env = (false, eval e X.env) :: starEach es X.env := by rfl) (hpl : (backTo pos (starEach es X.env)).any (·.1) = false := by rfl) :
    DS X W (.Raise (some (.Call (.Name x p) (e :: es) [] pos)) none pos2) (fRaise C ok fl g) := by
  obtain ⟨f, fd, ps, Fg, T, iC, tI, hm, hb⟩ := c.ex
  refine ⟨fun ρ μ A B le q => ha.mono ρ μ _ _ _ _ (fun ds m ⟨z1, z2, z3⟩ => ⟨z1, z2, le.ex _ _ _ _ z3⟩) (fun c l m z => le.ex _ _ _ _ z) q, PS.imp (ps_raise hc tk (g_oex hG T iC tI Fg (hr.mono hk) hb hx hg hm ha.run hdb he hpl)) fun D σ H ⟨ι, ρ, μ, r, l, q⟩ => ?_⟩
  have q2 := ha.mono ρ μ _ _ _ (EW X.K ι H W σ) (fun ds m z => z) (fun c l' m z => (fun ι' H' dd fv g r hd p => z ι' H' dd fv σ g r hd p (l.gr g) : EW X.K ι H W σ c l' ρ m)) q
  refine chainA ha.mono r l q2 fun ds μ1 ι1 H1 vs ⟨ll, o1, w⟩ g1 r1 l1 a1 => ⟨by rw [a1.1]; exact ll, fun a na => ?_⟩
  refine ⟨a, vs, ι1, μ1, ds, H1, by simp, na, rfl, r1, a1, o1, fun d fv hd ne pt => ⟨rfl, d, fv, ?_, ?_, hd, ?_⟩⟩
  · rw [upd_ne (Ne.symm ne), upd_same]
  · rw [upd_same]
  · have e : upd (L2.del (upd (upd H1 a (exo a C (some d))) d (exd d fv)) a) d (.xd fv) = upd H1 d (.xd fv) := by
      funext b
      by_cases h1 : b = d
      · rw [h1, upd_same, upd_same]
      · rw [upd_ne h1, upd_ne h1]
        by_cases h2 : b = a
        · rw [h2, del_same, na]
        · rw [del_ne h2, upd_ne h1, upd_ne h2]
    rw [e]
    have gn := Gr.new (o := .xd fv) hd (r1.free hd)
    exact w ι1 _ d fv σ (g1.trans gn) (r1.new hd) upd_same (pt.gr gn) (l1.gr gn)
end
end Dl

/-! an own error's __init__: super().__init__(f"..{x!r}.."), self.f = x, .. -/
namespace Dl
open PySem PySem.Spec L2
open PyProof.Rows hiding St Binds

def tFmtRD (K : PySem.W.Frag) (te : TE) : TE := fun σ H Q => te σ H fun x H1 => ∃ p, Dp K H1 x p ∧ okR p ∧ Q (.str p.shown) H1
theorem pe_fmtRD {X : Cx} {e : Expr} {te : TE} {pos : Pos} (hG : X.A.guards = some []) (hu : X.A.units + 64 < cLine) (he : PE X e te) : PE X (.FormattedValue e 114 none pos) (tFmtRD X.K te) := by
  refine ⟨fun pins s σ H Q I h => wpAny_FormattedValue_repr (thn (he.run pins s σ H _ I h) fun v s1 ⟨x, H1, I1, r1, p, hd, ⟨o1, o2, o3, o4⟩, q⟩ => ?_)⟩
  obtain ⟨as, rd⟩ := Dp.reads I1 p x v hd r1
  have fin : ∀ h' t tk, (∀ b o, s1.heap.get? b = some o → h'.get? b = some o) → wpAny (model X.prog X.w) X.A (formatField (.str p.shown t) Str.empty) (EP X pins σ Q) X.xe { s1 with heap := h', toks := tk } := fun h' t tk kp =>
    wpAny_formatField_str ⟨.str p.shown, H1, I1.kept (t' := tk) kp, ⟨t, rfl⟩, q⟩ ⟨.str p.shown, H1, (I1.kept (t' := tk) kp).tok _, ⟨_, rfl⟩, q⟩ o3
  have tok := fin s1.heap s1.toks (s1.toks + 1) fun _ _ e => e
  cases hd with
  | non => cases r1; simp only [PyData.shown] at tok; exact pyReprObj_none tok
  | bl b => cases r1; simp only [PyData.shown] at tok; exact pyReprObj_bool tok
  | int i =>
    obtain ⟨t, rfl⟩ := r1
    simp only [PyData.shown] at tok
    exact pyReprObj_int (by simpa [PyData.showable] using o1) tok
  | str z =>
    obtain ⟨t, rfl⟩ := r1
    simp only [PyData.shown] at tok o3
    exact pyReprObj_str tok o3
  | lst h1 h2 => cases r1; exact pyReprObj_of_reads rd o1 (PyData.noDict_hsm o2) hG (by omega) (fun _ _ e => e) fin o3
  | tup h1 h2 => cases r1; exact pyReprObj_of_reads rd o1 (PyData.noDict_hsm o2) hG (by omega) (fun _ _ e => e) fin o3

/-- a part of the message -/
inductive Pt where
  | txt (z : Str) | arg (i : Nat)
def tPt (K : PySem.W.Frag) : Pt → TE
  | .txt z => tC (.str z)
  | .arg i => tFmtRD K (tVar (i + 1))
/-- the message fits -/
def okJ (ds : List D) (μ : Sto) : List Pt → Str → Prop
  | [], _ => True
  | .txt z :: r, acc => (acc ++ z).length ≤ sizeLine ∧ okJ ds μ r (acc ++ z)
  | .arg i :: r, acc => ∃ d p, ds[i]? = some d ∧ pyS μ d = some p ∧ okR p ∧ (acc ++ p.shown).length ≤ sizeLine ∧ okJ ds μ r (acc ++ p.shown)
theorem sem_j {K : PySem.W.Frag} {ι : Io} {μ : Sto} {H : Hp} {ds : List D} {σ : L2.St} (r : Rep K ι μ H) (vs : ∀ (i : Nat) (d : D), ds[i]? = some d → ∃ v, σ[i + 1]? = some (some v) ∧ At K ι H v d) {Q : Str → Hp → Prop} (q : ∀ out, Q out H) :
    ∀ (l : List Pt) (acc : Str), okJ ds μ l acc → tJs (l.map (tPt K)) acc σ H Q
  | [], acc, _ => q acc
  | .txt z :: l, acc, ⟨h1, h2⟩ => ⟨z, rfl, h1, sem_j r vs q l _ h2⟩
  | .arg i :: l, acc, ⟨d, p, e1, e2, o, h1, h2⟩ => by
    obtain ⟨v, hv, a⟩ := vs i d e1
    exact ⟨v, hv, p, dpS_of r a e2, o, p.shown, rfl, h1, sem_j r vs q l _ h2⟩

/-- self.f = x, .. -/
def tFl (K : PySem.W.Frag) : List (Str × Nat) → TS
  | [] => tNext
  | (f, i) :: r => tSeq (tOst K f (tVar 0) (tVar (i + 1))) (tFl K r)
def putF {α : Type} (g : Nat → α) (fx : List (Str × Nat)) (l : List (Str × α)) : List (Str × α) := fx.foldl (fun l p => (p.1, g p.2) :: l) l
theorem upd_upd {H : Hp} {d : Addr} {x y : HO} : upd (upd H d x) d y = upd H d y := by
  funext b
  by_cases h : b = d
  · rw [h, upd_same, upd_same]
  · rw [upd_ne h, upd_ne h, upd_ne h]
theorem upd_swap {H : Hp} {d a : Addr} {x y : HO} (n : d ≠ a) : upd (upd H d x) a y = upd (upd H a y) d x := by
  funext b
  by_cases h : b = d
  · rw [h, upd_ne n, upd_same, upd_same]
  · by_cases h2 : b = a
    · rw [h2, upd_same, upd_ne (Ne.symm n), upd_same]
    · rw [upd_ne h2, upd_ne h, upd_ne h, upd_ne h2]
theorem sem_fl {K : PySem.W.Frag} {C a d : Addr} {σ : L2.St} {H0 : Hp} {g : Nat → V} (T : OexC K C) (h0 : σ[0]? = some (some (.ref a))) (n : d ≠ a) {De : Ends} :
    ∀ (fx : List (Str × Nat)) (fv : List (Str × V)), (∀ p ∈ fx, PySem.W.findIn K (.ref C) p.1 = some none ∧ σ[p.2 + 1]? = some (some (g p.2))) → fv.length + fx.length ≤ 900 →
      De.nx σ (upd (upd H0 a (exo a C (some d))) d (exd d (putF g fx fv))) → tFl K fx De σ (upd (upd H0 a (exo a C (some d))) d (exd d fv))
  | [], fv, _, _, q => q
  | (f, i) :: fx, fv, h, l, q => by
    obtain ⟨e1, e2⟩ := h (f, i) List.mem_cons_self
    simp only [List.length_cons] at l
    refine ⟨g i, e2, .ref a, h0, a, C, rfl, T, e1, .inr ⟨d, fv, by rw [upd_ne (Ne.symm n), upd_same], upd_same, by omega, ?_⟩⟩
    rw [upd_upd]
    exact sem_fl T h0 n fx ((f, g i) :: fv) (fun p hp => h p (List.mem_cons_of_mem _ hp)) (by simp only [List.length_cons]; omega) q
theorem sem_fl0 {K : PySem.W.Frag} {C a : Addr} {σ : L2.St} {H0 : Hp} {g : Nat → V} (T : OexC K C) (h0 : σ[0]? = some (some (.ref a))) {De : Ends} (fx : List (Str × Nat)) (ne : fx ≠ [])
    (h : ∀ p ∈ fx, PySem.W.findIn K (.ref C) p.1 = some none ∧ σ[p.2 + 1]? = some (some (g p.2))) (l : fx.length ≤ 900)
    (q : ∀ d, upd H0 a (exo a C none) d = none → d ≠ a → De.nx σ (upd (upd H0 a (exo a C (some d))) d (exd d (putF g fx [])))) : tFl K fx De σ (upd H0 a (exo a C none)) := by
  cases fx with
  | nil => exact absurd rfl ne
  | cons p fx =>
    obtain ⟨f, i⟩ := p
    obtain ⟨e1, e2⟩ := h (f, i) List.mem_cons_self
    simp only [List.length_cons] at l
    refine ⟨g i, e2, .ref a, h0, a, C, rfl, T, e1, .inl ⟨upd_same, fun d hd n => ?_⟩⟩
    rw [upd_swap n, upd_upd]
    exact sem_fl T h0 n fx [(f, g i)] (fun p hp => h p (List.mem_cons_of_mem _ hp)) (by simp only [List.length_cons, List.length_nil]; omega) (q d hd n)
theorem putF_pts {K : PySem.W.Frag} {ι : Io} {H : Hp} {g : Nat → V} {g' : Nat → D} : ∀ (fx : List (Str × Nat)) (fv : List (Str × V)) (fd : List (Str × D)), (∀ p ∈ fx, At K ι H (g p.2) (g' p.2)) → Pts K ι H fv fd → Pts K ι H (putF g fx fv) (putF g' fx fd)
  | [], _, _, _, p => p
  | (f, i) :: fx, fv, fd, h, p => putF_pts fx _ _ (fun q hq => h q (List.mem_cons_of_mem _ hq)) (Pts.cons (h (f, i) List.mem_cons_self) p)

section
variable {P : Program} {w : World} {K : PySem.W.Frag} {mg : Str → Option Value} {base : Heap} {k : Nat} {f C cda cc : Addr} {name qual : Str} {params : Arguments} {rest : List Stmt} {scope : Scope}
  {dV kV doc pm ct oc : Value} {an od : Option Addr} {osl : Array (Option Value)} {N ps : List Str} {v1 v2 : Expr} {vr : List Expr} {p0 p1 p2 p3 p4 jp : Pos} {ar : Arg}
/-- what an error is made of: n arguments, the parts of its message -/
def okX (n : Nat) (parts : List Pt) : List D → Sto → Prop := fun ds μ => ds.length = n ∧ okJ ds μ parts Str.empty
def flX (fx : List (Str × Nat)) : List D → List (Str × D) := fun ds => putF (fun i => (ds[i]?).getD .non) fx []
theorem erc_mk (n : Nat) (parts : List Pt) (fx : List (Str × Nat)) (T : SupK P K mg C cda cc)
    (lk : K.lookup f = some ⟨oc, od, .func (PySem.W.ksFn name qual params (.Expr (.Call (.Attribute (.Call (.Name "super" p0) [] [] p1) "__init__" p2) [.JoinedStr (v1 :: v2 :: vr) jp] [] p3) p4 :: rest) scope dV kV doc pm an (.ref cda) ct cc), osl⟩)
    (hcd : PySem.W.codeIn K (.ref cda) qual = true) (S : SupScope N ps scope) (har : (params.posonlyargs ++ params.args).head? = some ar) (hps : ps.head? = some ar.arg)
    {pl : Env → Sem Bool} (ht : ∀ env, eval (.Call (.Attribute (.Call (.Name "super" p0) [] [] p1) "__init__" p2) [.JoinedStr (v1 :: v2 :: vr) jp] [] p3) env = (do
      let ov ← attributeBase (.Call (.Name "super" p0) [] [] p1) "__init__" env (eval (.Call (.Name "super" p0) [] [] p1) env)
      standAt p2.atName
      let (f, first) ← holding [ov] (getMethod ov "__init__" (pl env))
      callWith p3 f first (backTo p3 (starEach [.JoinedStr (v1 :: v2 :: vr) jp] env)) []))
    (hs : ∀ env, swapsWith (.Call (.Attribute (.Call (.Name "super" p0) [] [] p1) "__init__" p2) [.JoinedStr (v1 :: v2 :: vr) jp] [] p3) none p4.line env = pure false)
    (hn : ps.length = n + 1) (ne : fx ≠ []) (hfx : ∀ p ∈ fx, PySem.W.findIn K (.ref C) p.1 = some none ∧ p.2 < n) (hl : fx.length ≤ 900)
    (hj : ∀ (A : Around) (outer : List Env) (s : Shared) (H : Hp) (E : XK), (A.deeper (PySem.W.ksEnv qual scope s.heap.objs.size f (.ref cda) cc)).guards = some [] → Room k (A.deeper (PySem.W.ksEnv qual scope s.heap.objs.size f (.ref cda) cc)) →
      PJ (cxS (L2.CX P w) P w K mg base N qual scope f (.ref cda) cc A outer s H E) (v1 :: v2 :: vr) (parts.map (tPt K)) ∧ PSs (cxS (L2.CX P w) P w K mg base N qual scope f (.ref cda) cc A outer s H E) rest (tFl K fx)) :
    FnG P w K mg base (L2.CX P w) (k + 1) f (PySem.W.ksFn name qual params (.Expr (.Call (.Attribute (.Call (.Name "super" p0) [] [] p1) "__init__" p2) [.JoinedStr (v1 :: v2 :: vr) jp] [] p3) p4 :: rest) scope dV kV doc pm an (.ref cda) ct cc) ps (spE K C (okX n parts) (flX fx)) := by
  refine fn_sup T lk hcd S har hps (fun vs H Q E ⟨a, ws, ι, μ, ds, H0, e1, e2, e3, r, at_, ⟨o1, o2⟩, q⟩ => by rw [e1, List.length_cons, at_.1, o1, hn]) ?_ ht hs
  · intro A outer s H vs Q E hG hr ⟨a, ws, ι, μ, ds, H0, e1, e2, e3, r, at_, ⟨o1, o2⟩, q⟩
    subst e1 e3
    obtain ⟨h1, h2⟩ := hj A outer s (upd H0 a (exo a C none)) E hG hr
    have r1 := r.new (o := exo a C none) e2
    have g1 := Gr.new (o := exo a C none) e2 (r.free e2)
    have hN : ps.length ≤ N.length := by have := congrArg List.length S.pre; rw [List.length_take] at this; omega
    have get : ∀ (i : Nat) (v : V), ws[i]? = some v → (L2.start N (.ref a :: ws))[i + 1]? = some (some v) := fun i v h => by
      unfold L2.start
      have hi := (List.getElem?_eq_some_iff.mp h).1
      rw [List.getElem?_append_left (by simp; omega), List.getElem?_map, List.getElem?_cons_succ, h]
      rfl
    have self : (L2.start N (.ref a :: ws))[0]? = some (some (.ref a)) := rfl
    refine ⟨_, _, a, ws, pa_cons (pe_joined h1) pa_nil, h2, rfl, upd_same, ?_⟩
    refine sem_j (ds := ds) r1 (fun i d e => ?_) (fun out => ⟨by show 1 ≤ 1000; omega, upd_same, ?_⟩) parts Str.empty o2
    · obtain ⟨v, hv, a1⟩ := at_.get e
      exact ⟨v, get i v hv, a1.gr g1⟩
    · refine sem_fl0 (g := fun i => (ws[i]?).getD .non) T.cls self fx ne (fun p hp => ⟨(hfx p hp).1, ?_⟩) hl fun d hd nd => ?_
      · have hi : p.2 < ws.length := by rw [at_.1, o1]; exact (hfx p hp).2
        rw [List.getElem?_eq_getElem hi]
        exact get _ _ (List.getElem?_eq_getElem hi)
      · refine q d _ (by rw [upd_ne nd] at hd; exact hd) nd (putF_pts fx [] [] (fun p hp => ?_) Pts.nil)
        have hi : p.2 < ws.length := by rw [at_.1, o1]; exact (hfx p hp).2
        have hi2 : p.2 < ds.length := by rw [o1]; exact (hfx p hp).2
        rw [List.getElem?_eq_getElem hi, List.getElem?_eq_getElem hi2]
        exact at_.2 _ _ _ (List.getElem?_eq_getElem hi) (List.getElem?_eq_getElem hi2)
end
end Dl

/-! try: .. except C as e: return (word, e.f, ..) -/
namespace Dl
open PySem PySem.Spec L2
open PyProof.Rows hiding St Binds

def tXfs (a : Addr) (cls : Value) (d : Option Addr) (C : Addr) (i : Nat) : List Str → TA
  | [] => tNil
  | f :: r => tCons (tXf a cls d C f (tVar i)) (tXfs a cls d C i r)
/-- what the suite of the clause reads of the error's fields -/
def getF (l : List (Str × D)) : List Str → Option (List D)
  | [] => some []
  | f :: r => match l.lookup f, getF l r with
    | some d, some ds => some (d :: ds)
    | _, _ => none
theorem sem_xfs {K : PySem.W.Frag} {ι : Io} {H : Hp} {a dd C : Addr} {i : Nat} {σ : L2.St} {fv : List (Str × V)} {l : List (Str × D)} (h0 : σ[i]? = some (some (.ref a))) (hd : H dd = some (.xd fv)) (p : Pts K ι H fv l) :
    ∀ (fs : List Str) (ds : List D), getF l fs = some ds → ∀ (Q : List V → Hp → Prop), (∀ vs, Ats K ι H vs ds → Q vs H) → tXfs a (.ref C) (some dd) C i fs σ H Q
  | [], ds, e, Q, q => by
    cases e
    exact q [] Ats.nil
  | f :: r, ds, e, Q, q => by
    unfold getF at e
    cases h1 : l.lookup f with
    | none => rw [h1] at e; cases e
    | some d =>
      cases h2 : getF l r with
      | none => rw [h1, h2] at e; cases e
      | some ds' =>
        rw [h1, h2] at e
        cases e
        obtain ⟨v, hv, av⟩ := p.lookup h1
        exact ⟨.ref a, h0, rfl, rfl, dd, fv, v, rfl, hd, hv, sem_xfs h0 hd p r ds' h2 _ fun vs as_ => q (v :: vs) (Ats.cons av as_)⟩
/-- the clause: i: e's slot -/
def exT (K : PySem.W.Frag) (C : Addr) (i : Nat) (word : Str) (fs : List Str) (A : DK) : DK := { A with ex := fun cls l ρ' m => ∃ b, PySem.W.exmOne K cls (.ref C) = some b ∧
  (b = true → cls = .ref C ∧ i < ρ'.length ∧ ∃ ds, getF l fs = some ds ∧ ds.length < 1000 ∧ A.rt (.tup (.str word :: ds)) m) ∧ (b = false → A.ex cls l ρ' m) }
def fTry1 (K : PySem.W.Frag) (C : Addr) (i : Nat) (word : Str) (fs : List Str) (fb : FS) : FS := fun A ρ μ => fb (exT K C i word fs A) ρ μ
theorem ds_try1 {X : Cx} {Wout : WX} {x n : Str} {C : Addr} {i : Nat} {body suite : List Stmt} {b₀ : Stmt} {np pos pos' : Pos} {fb : FS} {word : Str} {fs : List Str}
    (hs : X.stack = X.env :: X.outer) (hf : X.env.frame = some X.env.locals) (hN : X.N.Nodup) (hi : X.N[i]? = some n) (hln : X.env.kindOf n = some .local) (hc : Names X x (.ref C)) (tk : Takes X Wout)
    (mb : MonS fb) (hb : ∀ (W : WX) (pn : List (Addr × Obj)) (xe : Value → Shared → Prop), Takes (X.tr pn xe) W → PassesOwn (model X.prog X.w) X.A X.env xe → DB (X.tr pn xe) W body fb)
    (hsu : ∀ (a : Addr) (oe : Obj) (cls : Value) (d : Option Addr) (pn : List (Addr × Obj)), Zc cls d oe → (∃ vs, oe.data = .fields vs) → PSs (X.suite a ((a, oe) :: pn)) (b₀ :: suite) (tSeq (tRet (tTup (tCons (tC (.str word)) (tXfs a cls d C i fs)))) tNext)) :
    DS X Wout (.Try body [.ExceptHandler (some (.Name x np)) (some n) (b₀ :: suite) pos'] [] [] pos) (fTry1 X.K C i word fs fb) := by
  refine ⟨fun ρ μ A B le q => mb ρ μ (exT X.K C i word fs A) (exT X.K C i word fs B) ⟨le.nx, le.rt, fun c l ρ' m ⟨b, e, y, z⟩ => ⟨b, e, fun h => ?_, fun h => le.ex _ _ _ _ (z h)⟩, le.bk, le.ct⟩ q, PS.imp (ps_try_as (tb := fun W => rdS X.K W fb) hs hf hN hi hln hc tk (fun W pn xe t p => (hb W pn xe t p).run) hsu) fun De σ H ⟨ι, ρ, μ, r, l, q⟩ => ⟨ι, ρ, μ, r, l, mb ρ μ (exT X.K C i word fs (KV X.K Wout ι H De)) _ ⟨fun ρ m z => z, fun d m z => z, ?_, fun ρ m z => z, fun ρ m z => z⟩ q⟩⟩
  · obtain ⟨y1, y2, ds, y3, y4, y5⟩ := y h
    exact ⟨y1, y2, ds, y3, y4, le.rt _ _ y5⟩
  · intro cls lf ρ' m ⟨b, e, y, z⟩ ι' H' dd fv σ' g r' hd p l'
    refine ⟨b, e, fun h a na => ?_, fun h => z h ι' H' dd fv σ' g r' hd p l'⟩
    obtain ⟨rfl, y2, ds, y3, y4, y5⟩ := y h
    have h0 : (σ'.set i (some (.ref a)))[i]? = some (some (.ref a)) := by
      rw [List.getElem?_set_self (by rw [l'.1]; exact y2)]
    refine sem_xfs h0 hd p fs ds y3 _ fun vs as_ => ⟨by rw [List.length_cons, as_.1, sizeLine_eq]; omega, fun pt hp => ?_⟩
    have gn := Gr.new (o := .tup (.str word :: vs)) hp (r'.free hp)
    have at_ : Ats X.K ι' (upd H' pt (.tup (.str word :: vs))) (.str word :: vs) (.str word :: ds) := Ats.cons (.str word) (as_.gr gn)
    exact y5 ι' _ _ (g.trans gn) (r'.new hp) (.tup (.inl upd_same) (r'.free hp) at_.1 at_.2)
end Dl

namespace Dl
open PySem PySem.Spec L2
open PyProof.Rows hiding St Binds
/-! ### static methods, read off the class -/
section
variable {X : Cx} {CX : CXT} {k j : Nat} {f C : Addr} {fd : FuncData} {ps : List Str} {sp : Sp} {dvs : List V} {ds : List Value} {EE : L2.St → XK} {x m : Str} {p pos apos : Pos} {e : Expr} {es : List Expr} {t : TA}
variable {pins : List (Addr × Obj)} {σ : L2.St} {H : Hp} {s : Shared}
end

section
variable {X : Cx} {W : WX} {a b c e o fe : Expr} {es : List Expr} {fa fb fc f fo : FE} {fl : FA} {pos p apos : Pos} {K : PySem.W.Frag} {ι : Io} {H : Hp} {σ : L2.St} {ρ : Rho} {μ : Sto} {x m fn : Str} {F : FD} {dds : List D} {j k : Nat} {C : Addr}
end
section
variable {P : Program} {w : World} {K : PySem.W.Frag} {mg : Str → Option Value} {base : Heap} {k : Nat} {f C : Addr} {fd : FuncData} {x qual : Str} {st : Stmt} {N ps : List Str} {F : FD} {fs : FS}
end
/-! ### an instance is called -/
section
variable {X : Cx} {CX : CXT} {k j : Nat} {f C : Addr} {fd : FuncData} {ps : List Str} {sp : Sp} {dvs : List V} {ds : List Value} {EE : L2.St → XK} {x m : Str} {p pos apos : Pos} {e fe : Expr} {es : List Expr} {tf : TE} {t : TA} {E : XK}
variable {pins : List (Addr × Obj)} {σ : L2.St} {H : Hp} {s : Shared} {Q : VK} {us : List Value} {vs : List V} {a : Addr}
end
section
variable {X : Cx} {W : WX} {a b c e o fe : Expr} {es : List Expr} {fa fb fc f fo : FE} {fl : FA} {pos p apos : Pos} {K : PySem.W.Frag} {ι : Io} {H : Hp} {σ : L2.St} {ρ : Rho} {μ : Sto} {x m fn : Str} {F : FD} {dds : List D} {j k : Nat} {C : Addr}
end
/-! ### what is never come to -/
section
variable {X : Cx} {W : WX}
end
end Dl

namespace Dl
open PySem PySem.Spec L2
open PyProof.Rows hiding St Binds
/-! ### stars in a display, texts with parts, operators of an own class, str of an instance -/
section
variable {X : Cx} {W : WX} {a b c e o i : Expr} {es : List Expr} {f fa fb fo fi fv : FE} {fl : FA} {pos p pos' : Pos} {x : Str} {C : Addr} {F : FD} {dds : List D} {j k : Nat} {K : PySem.W.Frag}
end
end Dl

namespace Dl
open PySem PySem.Spec L2
open PyProof.Rows hiding St Binds
/-! ### the text of an instance by its own __str__ -/
section
variable {X : Cx} {W : WX} {a b c e o i : Expr} {es : List Expr} {f fa fb fo fi fv : FE} {fl : FA} {pos p pos' : Pos} {x : Str} {C : Addr} {F : FD} {dds : List D} {j k : Nat} {K : PySem.W.Frag}
end
end Dl

namespace Dl
open PySem PySem.Spec L2
open PyProof.Rows hiding St Binds
section
variable {X : Cx} {W : WX} {a b c e o i : Expr} {es : List Expr} {f fa fb fo fi fv : FE} {fl : FA} {pos p pos' apos cpos : Pos} {x : Str} {C : Addr} {F : FD} {dds : List D} {j k : Nat} {K : PySem.W.Frag}
/-- str(s) of a text -/
theorem cad_strS : CaD X (.type "str") (fun xs μ Q => ∃ s : Str, xs = [.str s] ∧ Q (.str s) μ) :=
  ⟨fun xs μ Q Q' h ⟨s, e, q⟩ => ⟨s, e, h _ _ q⟩, _, SkE.call_str_str, fun ι H μ vs ds Q r a ⟨s, e, q⟩ => by
    subst e
    obtain ⟨v, rfl, a1⟩ := a.one
    cases a1
    exact ⟨s, rfl, q ι H _ (Gr.refl _ _) r (.str s)⟩⟩
end
end Dl

namespace Dl
open PySem PySem.Spec L2
open PyProof.Rows hiding St Binds
/-! ### conditions as trees, as words, as texts -/
def encl (op : Str) : List Str := if op = ("not" : Str) then [("and" : Str), ("or" : Str)] else if op = ("and" : Str) then [("or" : Str)] else []
def wrapS (op l t : Str) : Str := if l ∈ encl op then (("(" : Str) ++ t) ++ (")" : Str) else t
inductive Tr where
  | is (s : Str) | al | nv | no (t : Tr) | an (a b : Tr) | or (a b : Tr)
namespace Tr
def last : Tr → Str
  | .is s => s | .al => ("always" : Str) | .nv => ("never" : Str) | .no _ => ("not" : Str) | .an _ _ => ("and" : Str) | .or _ _ => ("or" : Str)
def kind : Tr → Str
  | .is _ => ("is" : Str) | t => t.last
def text : Tr → Str
  | .is s => s | .al => ("always" : Str) | .nv => ("never" : Str)
  | .no t => ("not " : Str) ++ wrapS ("not" : Str) t.last t.text
  | .an a b => wrapS ("and" : Str) a.last a.text ++ (" and " : Str) ++ wrapS ("and" : Str) b.last b.text
  | .or a b => a.text ++ (" or " : Str) ++ b.text
def words : Tr → List Str
  | .is s => [s] | .al => [("always" : Str)] | .nv => [("never" : Str)]
  | .no t => t.words ++ [("not" : Str)] | .an a b => a.words ++ b.words ++ [("and" : Str)] | .or a b => a.words ++ b.words ++ [("or" : Str)]
def d : Tr → D
  | .is s => .tup [.str ("is" : Str), .str s] | .al => .tup [.str ("always" : Str)] | .nv => .tup [.str ("never" : Str)]
  | .no t => .tup [.str ("not" : Str), t.d] | .an a b => .tup [.str ("and" : Str), a.d, b.d] | .or a b => .tup [.str ("or" : Str), a.d, b.d]
def dep : Tr → Nat
  | .is _ => 0 | .al => 0 | .nv => 0 | .no t => t.dep + 1 | .an a b => max a.dep b.dep + 1 | .or a b => max a.dep b.dep + 1
def size : Tr → Nat
  | .is _ => 1 | .al => 1 | .nv => 1 | .no t => t.size + 1 | .an a b => a.size + b.size + 1 | .or a b => a.size + b.size + 1
def ok : Tr → Prop
  | .is s => NameOk s | .al => True | .nv => True | .no t => t.ok | .an a b => a.ok ∧ b.ok | .or a b => a.ok ∧ b.ok
end Tr
theorem NameOk.len {s : Str} (h : NameOk s) : s.length ≤ 8 := by
  have := h.le
  rwa [Array.length_toList] at this
theorem wrap_len (op l t : Str) : (wrapS op l t).length ≤ t.length + 2 := by
  unfold wrapS
  split
  · rw [Str.length_append, Str.length_append]
    show 1 + t.length + 1 ≤ _
    omega
  · omega
theorem Tr.text_len : ∀ {t : Tr}, t.ok → t.text.length ≤ 12 * t.size
  | .is s, h => by have := NameOk.len (show NameOk s from h); show s.length ≤ 12 * 1; omega
  | .al, _ => by decide
  | .nv, _ => by decide
  | .no t, h => by
    have := Tr.text_len (t := t) h
    have w := wrap_len ("not" : Str) t.last t.text
    show (("not " : Str) ++ wrapS _ _ _).length ≤ 12 * (t.size + 1)
    rw [Str.length_append]
    have e : ("not " : Str).length = 4 := by decide
    omega
  | .an a b, h => by
    have h1 := Tr.text_len (t := a) h.1
    have h2 := Tr.text_len (t := b) h.2
    have w1 := wrap_len ("and" : Str) a.last a.text
    have w2 := wrap_len ("and" : Str) b.last b.text
    show (wrapS _ _ _ ++ (" and " : Str) ++ wrapS _ _ _).length ≤ 12 * (a.size + b.size + 1)
    rw [Str.length_append, Str.length_append]
    have e : (" and " : Str).length = 5 := by decide
    omega
  | .or a b, h => by
    have h1 := Tr.text_len (t := a) h.1
    have h2 := Tr.text_len (t := b) h.2
    show (a.text ++ (" or " : Str) ++ b.text).length ≤ 12 * (a.size + b.size + 1)
    rw [Str.length_append, Str.length_append]
    have e : (" or " : Str).length = 4 := by decide
    omega
theorem Tr.size_dep : ∀ t : Tr, t.size + 1 ≤ 2 ^ (t.dep + 1)
  | .is _ => by show 1 + 1 ≤ 2 ^ (0 + 1); decide
  | .al => by decide
  | .nv => by decide
  | .no t => by
    have := Tr.size_dep t
    show t.size + 1 + 1 ≤ 2 ^ (t.dep + 1 + 1)
    rw [Nat.pow_succ]; omega
  | .an a b => by
    have h1 := Tr.size_dep a
    have h2 := Tr.size_dep b
    have p1 : 2 ^ (a.dep + 1) ≤ 2 ^ (max a.dep b.dep + 1) := Nat.pow_le_pow_right (by decide) (by omega)
    have p2 : 2 ^ (b.dep + 1) ≤ 2 ^ (max a.dep b.dep + 1) := Nat.pow_le_pow_right (by decide) (by omega)
    show a.size + b.size + 1 + 1 ≤ 2 ^ (max a.dep b.dep + 1 + 1)
    rw [Nat.pow_succ]; omega
  | .or a b => by
    have h1 := Tr.size_dep a
    have h2 := Tr.size_dep b
    have p1 : 2 ^ (a.dep + 1) ≤ 2 ^ (max a.dep b.dep + 1) := Nat.pow_le_pow_right (by decide) (by omega)
    have p2 : 2 ^ (b.dep + 1) ≤ 2 ^ (max a.dep b.dep + 1) := Nat.pow_le_pow_right (by decide) (by omega)
    show a.size + b.size + 1 + 1 ≤ 2 ^ (max a.dep b.dep + 1 + 1)
    rw [Nat.pow_succ]; omega
theorem Tr.words_len : ∀ t : Tr, t.words.length = t.size
  | .is _ => rfl
  | .al => rfl
  | .nv => rfl
  | .no t => by show (t.words ++ [_]).length = _; rw [List.length_append, Tr.words_len t]; rfl
  | .an a b => by show (a.words ++ b.words ++ [_]).length = _; rw [List.length_append, List.length_append, Tr.words_len a, Tr.words_len b]; rfl
  | .or a b => by show (a.words ++ b.words ++ [_]).length = _; rw [List.length_append, List.length_append, Tr.words_len a, Tr.words_len b]; rfl
theorem Tr.small {t : Tr} (h : t.ok) (d : t.dep ≤ 8) : t.text.length ≤ 10000 ∧ t.words.length ≤ 600 := by
  have s := Tr.size_dep t
  have p : 2 ^ (t.dep + 1) ≤ 2 ^ 9 := Nat.pow_le_pow_right (by decide) (by omega)
  have l := Tr.text_len h
  rw [Tr.words_len]
  omega
/-! the stack machine -/
end Dl

namespace Dl
open PySem PySem.Spec L2
open PyProof.Rows hiding St Binds
section
variable {X : Cx} {W : WX} {a b c e o i : Expr} {es : List Expr} {f g fa fb fo fi fv : FE} {fl : FA} {pos p pos' : Pos} {x : Str} {C : Addr} {F : FD} {dds : List D} {j k : Nat} {K : PySem.W.Frag}
end
/-! ### margins -/
end Dl

namespace Dl
open PySem PySem.Spec L2
open PyProof.Rows hiding St Binds
/-! ### programs as blocks, as lines, as texts -/
abbrev wdF (ws : List Str) : List (Str × D) := [(("_words" : Str), D.tup (ws.map .str))]
abbrev cD (C : Addr) (ws : List Str) : D := .ins C (wdF ws)
inductive Bl where
  | nil | doo (s : Str) (r : Bl) | wh (t : Tr) (b r : Bl) | iff (t : Tr) (b o r : Bl)
inductive Stm where
  | doo (s : Str) | wh (t : Tr) (b : Bl) | iff (t : Tr) (b o : Bl)
inductive Rs where
  | non | act (s : Str) | cnd (t : Tr)
structure Ln where
  k : Nat
  w : Str
  r : Rs
def Rs.d (C : Addr) : Rs → D
  | .non => .non | .act s => .str s | .cnd t => cD C t.words
def Ln.d (C : Addr) (l : Ln) : D := .tup [.int (l.k : Nat), .str l.w, l.r.d C]
def Rs.text : Rs → Str
  | .non => Str.empty | .act s => s | .cnd t => t.text
namespace Bl
def ds : Bl → List D
  | .nil => [] | .doo s r => .tup [.str ("do" : Str), .str s] :: r.ds
  | .wh t b r => .tup [.str ("while" : Str), t.d, .lst b.ds] :: r.ds
  | .iff t b o r => .tup [.str ("if" : Str), t.d, .lst b.ds, .lst o.ds] :: r.ds
def dep : Bl → Nat
  | .nil => 0 | .doo _ r => r.dep | .wh _ b r => max (b.dep + 1) r.dep | .iff _ b o r => max (max b.dep o.dep + 1) r.dep
def size : Bl → Nat
  | .nil => 0 | .doo _ r => r.size + 1 | .wh _ b r => b.size + r.size + 1 | .iff _ b o r => b.size + o.size + r.size + 1
def ok : Bl → Prop
  | .nil => True | .doo s r => NameOk s ∧ r.ok | .wh t b r => (t.ok ∧ t.dep ≤ 2 ∧ b.ok) ∧ r.ok | .iff t b o r => (t.ok ∧ t.dep ≤ 2 ∧ b.ok ∧ o.ok) ∧ r.ok
end Bl
namespace Stm
def d : Stm → D
  | .doo s => .tup [.str ("do" : Str), .str s] | .wh t b => .tup [.str ("while" : Str), t.d, .lst b.ds] | .iff t b o => .tup [.str ("if" : Str), t.d, .lst b.ds, .lst o.ds]
def dep : Stm → Nat
  | .doo _ => 0 | .wh _ b => b.dep + 1 | .iff _ b o => max b.dep o.dep + 1
def size : Stm → Nat
  | .doo _ => 1 | .wh _ b => b.size + 1 | .iff _ b o => b.size + o.size + 1
def ok : Stm → Prop
  | .doo s => NameOk s | .wh t b => t.ok ∧ t.dep ≤ 2 ∧ b.ok | .iff t b o => t.ok ∧ t.dep ≤ 2 ∧ b.ok ∧ o.ok
def cons : Stm → Bl → Bl
  | .doo s, r => .doo s r | .wh t b, r => .wh t b r | .iff t b o, r => .iff t b o r
end Stm
end Dl

namespace Dl
open PySem PySem.Spec L2
open PyProof.Rows hiding St Binds
section
variable {X : Cx} {W : WX} {o : Expr} {fo : FE} {pos p2 : Pos}
end
end Dl

namespace Dl
open PySem PySem.Spec L2
open PyProof.Rows hiding St Binds
section
variable {prog : Program} {w : World} {A : Around} {E : Value → Shared → Prop} {s : Shared} {K : PySem.W.Frag} {x C L f g dx : Addr} {h₀ : Heap} {m : Str → Option Value} {od : Option Obj}
end
section
variable {X : Cx} {C g : Addr} {F : FD} {j k : Nat} {fo ro : Option Value}
end
end Dl

namespace Dl
open PySem PySem.Spec L2
open PyProof.Rows hiding St Binds
section
variable {prog : Program} {w : World} {A : Around} {E : Value → Shared → Prop} {s : Shared} {K : PySem.W.Frag} {x C L f dx : Addr} {h₀ : Heap} {m : Str → Option Value} {od : Option Obj}
end
end Dl
namespace Dl
open PySem PySem.Spec L2
open PyProof.Rows hiding St Binds
section
variable {X : Cx} {W : WX} {C : Addr} {F : FD} {j k : Nat} {op : Operator} {n : Str} {e e' : Expr} {fa fb : FE} {pos : Pos}
end
end Dl

namespace Dl
open PySem PySem.Spec L2
open PyProof.Rows hiding St Binds
end Dl

/-! sorted(set(texts)) -/
namespace Dl
open PySem PySem.Spec L2
open PyProof.Rows hiding St Binds
def txE (e : Int × Value) : Str := strOf e.2
structure TxD (P : Program) (w : World) (D : Froz.SD) (ks : List Str) : Prop where
  ok : Froz.TxOk P w D ks
  nd : ks.Nodup
  pm : (D.1.toList.map txE).Perm ks
  tx : ∀ e ∈ D.1.toList, ∃ k u, e.2 = Value.str k u
  ri : Ris D.2.2.place.toList
  le : w.params.followText "set-order" = true ∨ D.2.2.led = true
def TxAt (P : Program) (w : World) (h : Heap) (a : Addr) (ks : List Str) : Prop := ∃ D : Froz.SD, h.get? a = some (Froz.sObj "set" D) ∧ TxD P w D ks
section
variable {P : Program} {w : World} {A : Around} {E : Value → Shared → Prop} {s : Shared} {a : Addr} {ks : List Str} {k : Str} {u : Tok} {D : Froz.SD}
theorem TxAt.keep {h h' : Heap} (t : TxAt P w h a ks) (f : ∀ o, h.get? a = some o → h'.get? a = some o) : TxAt P w h' a ks := let ⟨D, e, r⟩ := t; ⟨D, f _ e, r⟩
theorem tail_pm {ep : Nat} {es : Array (Int × Value)} {t : SetTable} {b : Bool} : (Froz.tailTx ep es t b).1.toList.Perm es.toList := by
  unfold Froz.tailTx; split
  · exact relayAll_perm _ _ _
  · exact .refl _
theorem tail_ri {ep : Nat} {es : Array (Int × Value)} {t : SetTable} {b : Bool} (r : Ris t.place.toList) : Ris (Froz.tailTx ep es t b).2.2.place.toList ∧ (Froz.tailTx ep es t b).2.2.led = t.led := by
  unfold Froz.tailTx; split
  · exact ⟨relayAll_ris _ _ _, relayAll_led _ _ _⟩
  · exact ⟨r, rfl⟩
theorem off_ri {t : SetTable} (r : Ris t.place.toList) : Ris (if t.plain = true then { t with plain := false } else t).place.toList ∧ (if t.plain = true then { t with plain := false } else t).led = t.led := by
  split <;> exact ⟨r, rfl⟩
theorem TxD.add (t : TxD P w D ks) (hk : k ∉ ks) (u : Tok) : TxD P w (Froz.addTx (hashStr w k) (.str k u) D) (k :: ks) := by
  have p0 := layNew_perm D.2.2 D.1 (hashStr w k) (.str k u)
  have r0 := layNew_ris D.2.2 D.1 (hashStr w k) (.str k u) t.ri
  have l0 := layNew_led D.2.2 D.1 (hashStr w k) (.str k u)
  have p1 := (tail_pm (ep := D.2.1) (es := (layNew D.2.2 D.1 (hashStr w k) (.str k u)).1) (t := (if (layNew D.2.2 D.1 (hashStr w k) (.str k u)).2.1.plain = true then { (layNew D.2.2 D.1 (hashStr w k) (.str k u)).2.1 with plain := false } else (layNew D.2.2 D.1 (hashStr w k) (.str k u)).2.1)) (b := (layNew D.2.2 D.1 (hashStr w k) (.str k u)).2.2.1)).trans p0
  rw [Array.toList_push] at p1
  have p2 := p1.trans (List.perm_append_singleton _ _)
  obtain ⟨ra, la⟩ := tail_ri (ep := D.2.1) (es := (layNew D.2.2 D.1 (hashStr w k) (.str k u)).1) (b := (layNew D.2.2 D.1 (hashStr w k) (.str k u)).2.2.1) (off_ri r0).1
  refine ⟨Froz.add_ok u t.ok, List.nodup_cons.mpr ⟨hk, t.nd⟩, ?_, fun e he => ?_, ra, t.le.imp id fun z => ?_⟩
  · exact (p2.map txE).trans (List.Perm.cons k t.pm)
  · rcases List.mem_cons.mp (p2.mem_iff.mp he) with z | z
    · exact ⟨k, u, by rw [z]⟩
    · exact t.tx e z
  · exact la.trans ((off_ri r0).2.trans (l0.trans z))
theorem TxD.size (t : TxD P w D ks) : D.1.size = ks.length := t.ok.sz
end
section
variable {P : Program} {w : World} {A : Around} {R : Result → Shared → Prop} {I : Addr} {fp wr : List Addr} {G : Array GenState → Array GenState → Prop} {n : Nat} {Pv : Nat → Value → Prop} {St : Nat → Shared → Prop}
end
end Dl

namespace Dl
open PySem PySem.Spec L2
open PyProof.Rows hiding St Binds
section
variable {P : Program} {w : World} {A : Around} {E : Value → Shared → Prop} {s : Shared}
end
end Dl

namespace Dl
open PySem PySem.Spec L2
open PyProof.Rows hiding St Binds
section
variable {X : Cx} {a : Expr} {ta : TE} {p p2 q pos : Pos} {W : WX} {f : FE}
theorem ats_strs {K : PySem.W.Frag} {ι : Io} {H : Hp} : ∀ {vs : List V} {ys : List Str}, Ats K ι H vs (ys.map D.str) → vs = ys.map V.str
  | vs, [], r => Ats.unnil r
  | vs, y :: ys, r => by
    obtain ⟨v, vs', rfl, a, r'⟩ := Ats.uncons (ds := ys.map D.str) (d := .str y) r
    cases a
    rw [ats_strs r']; rfl
theorem ats_of_strs {K : PySem.W.Frag} {ι : Io} {H : Hp} : ∀ (ys : List Str), Ats K ι H (ys.map V.str) (ys.map D.str)
  | [] => .nil
  | y :: ys => Ats.cons (.str y) (ats_of_strs ys)
/-- sorted(texts) -/
def gSortS : GC := fun xs μ Q => ∃ (d : D) (ss : List Str), xs = [d] ∧ asL μ d = some (ss.map .str) ∧ ss.length < 64 ∧ ∀ ys : List Str, ys.Perm ss → sortedS ys = true → Q (.lst (ys.map .str)) μ
theorem cad_sortS : CaD X (.builtin "sorted") gSortS :=
  ⟨fun xs μ Q Q' h ⟨d, ss, e1, e2, e3, z⟩ => ⟨d, ss, e1, e2, e3, fun ys h1 h2 => h _ _ (z ys h1 h2)⟩, _, cr_sortedS, fun ι H μ vs ds Q r a ⟨d, ss, e1, e2, e3, z⟩ => by
    subst e1
    obtain ⟨v, rfl, a1⟩ := a.one
    obtain ⟨b, ws, rfl, hb, hv⟩ := asL_at r a1 e2
    cases ats_strs hv
    exact ⟨b, ss, rfl, SqL.of hb, e3, fun ys p h1 h2 hp => z ys h1 h2 ι _ _ (Gr.new hp (r.free hp)) (r.new hp) (.newL hp (r.free hp) (ats_of_strs ys))⟩⟩
end
/-! ints bit by bit -/
section
variable {X : Cx}

end
end Dl

/-! DlH: enumerate(zip(a, b)): the zip's pair stays out, so its next turn finds it held or gone. -/
namespace Dl
open PySem
open PySem.Sem (wp)

/-- a zip in any of its moods: v tells which pair is out -/
abbrev ZX (h : Heap) (z TI TO : Addr) (v : Value) (f : Bool) : Prop :=
  h.get? z = some { cls := .type "zip", dict := none, data := .fields #[v, .bool f, .bool false, .ref TI, .ref TO], slots := #[] }
def Mood (v : Value) : Prop := v = .none ∨ ∃ T : Addr, v = rawInt T
abbrev P2 (h : Heap) (T : Addr) (x y : Value) : Prop := h.get? T = some { cls := .type "tuple", data := .seq #[x, y] }
section
variable {prog : Program} {w : World} {A : Around} {E : Value → Shared → Prop} {s : Shared} {z TI TO i1 i2 : Addr} {fa fb : List Addr} {na nb k : Nat} {Pa Pb : Nat → Value → Prop} {Sa Sb : Nat → Heap → Prop} {v : Value} {f : Bool}

/-- the state of a zip of two iterators -/
def ZS (z TI TO i1 i2 : Addr) (Sa Sb : Nat → Heap → Prop) (k : Nat) (h : Heap) : Prop :=
  (∃ v f, ZX h z TI TO v f ∧ Mood v) ∧ P2 h TI (.ref i1) (.ref i2) ∧ (∃ x y, P2 h TO x y) ∧ Sa k h ∧ Sb k h

end

/-! ### one is made -/
end Dl

/-! DlHa: for i, (x, y) in enumerate(zip(xs, ys)), two lists or two tuples. -/
namespace Dl
open PySem PySem.Spec L2
open PyProof.Rows hiding St Binds

theorem ZS.imp {z TI TO i1 i2 : Addr} {Sa Sb Ta Tb : Nat → Heap → Prop} {k : Nat} {h : Heap} (a : ZS z TI TO i1 i2 Sa Sb k h) (f : Sa k h → Ta k h) (g : Sb k h → Tb k h) : ZS z TI TO i1 i2 Ta Tb k h :=
  ⟨a.1, a.2.1, a.2.2.1, f a.2.2.2.1, g a.2.2.2.2⟩
theorem ZS.keep {z TI TO i1 i2 : Addr} {Sa Sb : Nat → Heap → Prop} {k : Nat} {h h' : Heap} (st : ZS z TI TO i1 i2 Sa Sb k h) (f : ∀ b ∈ [z, TI, TO], ∀ o, h.get? b = some o → h'.get? b = some o) (fa : Sa k h → Sa k h') (fb : Sb k h → Sb k h') : ZS z TI TO i1 i2 Sa Sb k h' := by
  obtain ⟨⟨v, g, hz, mo⟩, hI, ⟨x, y, hO⟩, a, b⟩ := st
  exact ⟨⟨v, g, f z (by simp) _ hz, mo⟩, f TI (by simp) _ hI, ⟨x, y, f TO (by simp) _ hO⟩, fa a, fb b⟩

/-! ### the loop's head -/
/-! ### at values -/
section
variable {X : Cx} {W : WX} {a b : Expr} {fl : FA} {p p2 pos pos2 tpos : Pos} {elts : List Expr} {kk : Nat}
end
end Dl

/-! DlHb: for i, x in enumerate(xs), a list or a tuple. -/
namespace Dl
open PySem PySem.Spec L2
open PyProof.Rows hiding St Binds

set_option maxHeartbeats 8000000 in
/-! ### at values -/
section
variable {X : Cx} {W : WX} {e a b : Expr} {f : FE} {p p2 pos pos2 tpos : Pos} {elts : List Expr} {kk : Nat}
end
end Dl

/-! DlHc: defs of a class, constants of the module, isinstance with two types, == of dicts. -/
namespace Dl
open PySem PySem.Spec L2
open PyProof.Rows hiding St Binds

section
variable {P : Program} {w : World} {K : PySem.W.Frag} {mg : Str → Option Value} {base : Heap} {x cn qual : Str} {st : Stmt} {C f : Addr} {fd : FuncData} {N ps : List Str} {k : Nat} {F : FD} {fs : FS}
/-- a method -/
theorem met_fun (Fu : FunA K x qual st f fd) (S : FnScope N ps (defScope st)) (c : Cls K C) (M : Meth K C x f) (hb : L2.Binds K fd ps []) (mono : MonF F) (len : ∀ ds μ Q E, F ds μ Q E → ds.length = ps.length)
    (body : ∀ (cdv : Value) (A : Around) (outer : List Env) (s : Shared) (H : Hp) (E : XK), (A.deeper (envOfC qual (defScope st) s.heap.objs.size f cdv)).guards = some [] → Room k (A.deeper (envOfC qual (defScope st) s.heap.objs.size f cdv)) →
      DB (cxOf (L2.CX P w) P w K mg base N qual (defScope st) f cdv A outer s H E) (fun c d _ H' => E c d H') (defBody st) fs)
    (sem : ∀ ds μ Q E, F ds μ Q E → fs (endK μ.length Q E) (startD N.length ds) μ) : Met P w K mg base (k + 1) C x F [] :=
  ⟨mono, c, f, fd, ps, [], [], fn_body Fu S len body sem, M, hb, .nil, fun _ _ => Ats.nil⟩
/-- a def with one default None, by its object, and its binding when all is given -/
theorem fun_mk1 {oc : Value} {od an : Option Addr} {osl : Array (Option Value)} {dV kV doc pm cdv ct : Value} (l : K.lookup f = some ⟨oc, od, .func (PySem.W.fnOf x qual (defArgs st) (defBody st) (defScope st) dV kV doc pm an cdv ct), osl⟩) (c : PySem.W.codeIn K cdv qual = true) :
    FunA K x qual st f (PySem.W.fnOf x qual (defArgs st) (defBody st) (defScope st) dV kV doc pm an cdv ct) := ⟨_, _, _, _, _, _, _, _, _, _, rfl, l, c⟩
end

section
variable {X : Cx} {W : WX} {a b e : Expr} {es : List Expr} {f fa fb : FE} {fl : FA} {pos p tpos : Pos} {x : Str}
theorem de_mi {i : Int} {t : Tok} (hg : Gl X x) (hm : X.mg x = some (.int i t)) (hd : (x == ("__debug__" : Str)) = false := by decide) : DE X W (.Name x pos) (fC (.int i)) := de_k (pe_glob (v := .int i) hg hm ⟨_, rfl⟩ hd) fun _ _ => .int i
/-- a tuple of texts that stands in the module -/
theorem strs_ats {K : PySem.W.Frag} {ι : Io} {H : Hp} : ∀ ss : List Str, Ats K ι H (ss.map V.str) (ss.map D.str)
  | [] => Ats.nil
  | s :: ss => Ats.cons (.str s) (strs_ats ss)
theorem de_mt {T : Addr} {ss : List Str} (hg : Gl X x) (hm : X.mg x = some (.ref T)) (lT : ∀ H0 : Hp, SqT X.K H0 T (ss.map V.str)) (hd : (x == ("__debug__" : Str)) = false := by decide) : DE X W (.Name x pos) (fC (.tup (ss.map .str))) :=
  de_k (pe_glob (v := .ref T) hg hm rfl hd) fun ι H => .ktup lT (by simp) (strs_ats (K := X.K) (ι := ι) (H := H) ss).2
/-! ### isinstance(x, (A, B)), built-in types -/
end
end Dl

/-! DlHd: comprehensions whose step needs bounds; comprehensions that make a dict. -/
namespace Dl
open PySem PySem.Spec L2
open PyProof.Rows hiding St Binds
theorem bdS_lst {m : Sto} {acc : List D} (bm : bdS m.length m = true) (h : bdL m.length acc = true) : bdS (m ++ [CT.lst acc]).length (m ++ [CT.lst acc]) = true := by
  rw [bdS_app, Bool.and_eq_true]
  have le : m.length ≤ (m ++ [CT.lst acc]).length := by simp
  exact ⟨bdS_mono le bm, by
    show ([CT.lst acc].all (CT.bd _)) = true
    rw [List.all_cons, List.all_nil, Bool.and_true]
    exact bdL_mono le h⟩
section
variable {g : FG} {ft : FT} {fe fk fv : FE} {vs : List Nat} {ρ : Rho} {Q : QD}
/-- a comprehension that makes a dict, its keys new one by one -/
theorem dc_pure {xs : List D} {st : Sto → Prop} {m : Sto} (p : D → Option (Key × D)) (hst : ∀ c, st (m ++ [.dct c]))
    (turn : ∀ x, x ∈ xs → ∀ (acc : List (Key × D)) (NX : D → D → Sto → Prop) (N0 : Sto → Prop), (∀ k y z, p x = some (k, z) → kD y = some k → NX y z (m ++ [.dct acc])) → (p x = none → N0 (m ++ [.dct acc])) →
      g x (wipeD ρ vs) (m ++ [.dct acc]) (fun ρ2 μ2 => ft ρ2 μ2 (fun b m3 => if b = true then fk ρ2 m3 (fun y m4 => fv ρ2 m4 (fun z m5 => NX y z m5) NE) NE else N0 m3) NE))
    (nk : ((xs.filterMap p).map (·.1)).Nodup) (hl : xs.length ≤ sizeLine) (bd : bdK m.length (xs.filterMap p) = true) (bm : bdS m.length m = true) (q : Q (.dct (xs.filterMap p)) m) :
    DcI g ft fk fv vs xs st ρ m Q := by
  have fl : ∀ l : List D, (l.filterMap p).length ≤ l.length := fun l => List.length_filterMap_le p l
  refine ⟨fun i μ' => μ' = m ++ [.dct ((xs.take i).filterMap p)], rfl, fun i μ' e => by rw [e]; exact hst _, ?_, ?_⟩
  · rintro i x μ' hx rfl
    have ht : xs.take (i + 1) = xs.take i ++ [x] := by rw [List.take_add_one, hx]; rfl
    refine turn x (List.mem_of_getElem? hx) _ _ _ (fun k y0 y hy hk => ⟨(xs.take i).filterMap p, k, hk, by simp, ?_, ?_⟩) (fun hn => ?_)
    · have h1 := fl (xs.take i)
      have h2 : (xs.take i).length ≤ i := by rw [List.length_take]; omega
      have h3 := (List.getElem?_eq_some_iff.mp hx).1
      omega
    · have fresh : (((xs.take i).filterMap p).any fun q => decide (q.1 = k)) = false := by
        rw [List.any_eq_false]
        intro q hq
        rw [decide_eq_true_eq]
        intro e
        have hs : (xs.take (i + 1)).filterMap p = (xs.take i).filterMap p ++ [(k, y)] := by rw [ht, List.filterMap_append]; simp [hy]
        have sub : ((xs.take (i + 1)).filterMap p).Sublist (xs.filterMap p) := (List.take_sublist _ _).filterMap _
        have nd := (sub.map (·.1)).nodup nk
        rw [hs, List.map_append, List.nodup_append] at nd
        exact nd.2.2 q.1 (List.mem_map.mpr ⟨q, hq, rfl⟩) k (by simp) e
      have e : putKD ((xs.take i).filterMap p) k y = (xs.take i).filterMap p ++ [(k, y)] := by unfold putKD; rw [fresh]; rfl
      dsimp only
      rw [List.set_append_right _ _ (Nat.le_refl _), Nat.sub_self, ht, List.filterMap_append, e]
      simp [hy]
    · dsimp only
      rw [ht, List.filterMap_append]
      simp [hn]
  · rintro μ' rfl
    rw [List.take_length]
    exact ⟨_, _, .dct (Nat.le_refl _) bd bm .refl, q⟩
end
/-! ### k in d, as a test -/
section
variable {X : Cx} {W : WX} {a o : Expr} {fa fo : FE} {pos : Pos}
end
end Dl

/-! DlHf: walks over a dict that is a cell: it is locked meanwhile. -/
namespace Dl
open PySem PySem.Spec L2
open PyProof.Rows hiding St Binds
section
variable {K : PySem.W.Frag} {ι : Io} {H : Hp} {n : Nat} {a : Addr} {ob : Obj} {kv : List (Key × V)} {kd : List (Key × D)}
end
section
variable {X : Cx} {W : WX} {tg iter kx vx : Expr} {sb : List Stmt} {ifs : List Expr} {scope : Scope} {own : List (Str × Nat)} {its : List (Key × D) → List D} {tgf : FG} {fb : FS} {ft : FT} {fk fv : FE} {pos p : Pos} {x : Str} {i : Nat}
end
end Dl

/-! DlHg: a number less a truth, lists of numbers in their order. -/
namespace Dl
open PySem PySem.Spec L2
open PyProof.Rows hiding St Binds
section
variable {X : Cx}
end
end Dl

/-! DlHh: two dicts whose values are integers, compared. -/
namespace Dl
open PySem PySem.Spec L2
open PyProof.Rows hiding St Binds
section
variable {X : Cx}
def intsV (l : List (Key × Int)) : List (Key × V) := l.map fun q => (q.1, .int q.2)
def intsD (l : List (Key × Int)) : List (Key × D) := l.map fun q => (q.1, .int q.2)
def lookI (l : List (Key × Int)) (k : Key) : Option Int := (l.find? fun q => decide (q.1 = k)).map (·.2)
/-- as many, and each one found there -/
def eqKI (la lb : List (Key × Int)) : Bool := la.length == lb.length && la.all fun q => decide (lookI lb q.1 = some q.2)
theorem valV_ints (k : Key) : ∀ l : List (Key × Int), valV (intsV l) k = (lookI l k).map V.int
  | [] => rfl
  | q :: l => by
    have ih := valV_ints k l
    unfold valV lookI intsV at *
    rw [List.map_cons, List.find?_cons, List.find?_cons]
    by_cases h : q.1 = k
    · simp [h]
    · simpa [h] using ih
theorem ints_pts {K : PySem.W.Frag} {ι : Io} {H : Hp} : ∀ {l : List (Key × Int)} {kv : List (Key × V)}, Pts K ι H kv (intsD l) → kv = intsV l
  | [], kv, p => by
    have e := p.1
    simpa [intsD, intsV] using e
  | q :: l, kv, p => by
    obtain ⟨v, kv', rfl, a, p'⟩ := p.uncons
    cases a
    rw [ints_pts p']
    rfl
theorem hits_of {A : Around} {s : Shared} {lb : List (Key × Int)} {vb : List (Key × Value)} (rb : L2.KV (intsV lb) vb) : ∀ {la : List (Key × Int)} {va : List (Key × Value)}, L2.KV (intsV la) va → PySem.W.KeqHits A s vb va (la.all fun q => decide (lookI lb q.1 = some q.2))
  | [], va, r => by
    unfold L2.KV at r
    cases r
    exact .nil
  | q :: la, va, r => by
    unfold L2.KV at r
    cases r with
    | @cons a b as bs h t =>
      obtain ⟨k, w⟩ := b
      obtain ⟨h1, t1, h2⟩ := h
      subst h2
      have h1' : q.1 = k := h1
      subst h1'
      have rest := hits_of (A := A) (s := s) rb (la := la) (va := bs) t
      have o := rb.val q.1
      rw [valV_ints] at o
      cases e : lookI lb q.1 with
      | none =>
        rw [e] at o
        have e2 : valueAt vb q.1 = none := by
          cases e3 : valueAt vb q.1 with
          | none => rfl
          | some y => rw [e3] at o; exact o.elim
        simp only [List.all_cons, e]
        exact .miss e2
      | some j =>
        rw [e] at o
        cases e3 : valueAt vb q.1 with
        | none => rw [e3] at o; exact o.elim
        | some y =>
          rw [e3] at o
          obtain ⟨t2, rfl⟩ := o
          have e4 : decide (some j = some q.2) = decide (q.2 = j) := decide_eq_decide.mpr ⟨fun h => (Option.some.inj h).symm, fun h => by rw [h]⟩
          simp only [List.all_cons, e]
          rw [e4]
          exact .hit e3 (SeqAt.EqAt.int_int _ _ _ _) rest
theorem op_eqD (hu : X.A.units + 1 < cLine) : OpR X (compareOp .Eq) (fun x y H Q => ∃ a b la lb, x = .ref a ∧ y = .ref b ∧ Rd H a (.dK (intsV la)) ∧ Rd H b (.dK (intsV lb)) ∧ Q (.bl (eqKI la lb)) H) := by
  intro pins s σ H x y v u Q I rx ry h
  obtain ⟨a, b, la, lb, rfl, rfl, ha, hb, q⟩ := h
  cases rx
  cases ry
  obtain ⟨_, na, va, ra, da⟩ := dk_rd I.hok ha
  obtain ⟨_, nb, vb, rb, db⟩ := dk_rd I.hok hb
  have la' : va.length = la.length := by rw [← ra.length]; simp [intsV]
  have lb' : vb.length = lb.length := by rw [← rb.length]; simp [intsV]
  refine PySem.W.keq_eq (r := la.all fun q => decide (lookI lb q.1 = some q.2)) na nb da db (by omega) (fun _ => hits_of rb ra) ?_
  rw [la', lb']
  exact ⟨.bl (eqKI la lb), H, I, rfl, q⟩
def eqDI : G2 := fun x y μ Q => ∃ la lb, asD μ x = some (intsD la) ∧ asD μ y = some (intsD lb) ∧ Q (.bl (eqKI la lb)) μ
theorem opd_eqDI (hu : X.A.units + 1 < cLine) : OpD X (compareOp .Eq) eqDI := ⟨fun x y μ Q Q' h ⟨la, lb, e1, e2, q⟩ => ⟨la, lb, e1, e2, h _ _ q⟩, _, op_eqD hu, fun ι H μ x y dx dy Q r a b ⟨la, lb, e1, e2, q⟩ => by
  obtain ⟨p1, kv, rfl, h1, a1⟩ := asD_at r a e1
  obtain ⟨p2, kw, rfl, h2, a2⟩ := asD_at r b e2
  rw [ints_pts a1] at h1
  rw [ints_pts a2] at h2
  exact ⟨p1, p2, la, lb, rfl, rfl, h1, h2, q ι H _ (Gr.refl _ _) r (.bl _)⟩⟩
end
end Dl

/-! DlHi: what `{**d, k: v}` does below: one dict put into another. -/
namespace Dl
open PySem PySem.Spec L2
theorem load_part {M : Model} {Γ : PySem.Ctx} {a : Addr} {part : Option Value} {Q : Obj → Pos → Shared → Prop} {E : Value → Pos → Shared → Prop} {p : Pos} {s : Shared} : Sem.wp M Γ (loadPart a part) Q E p s = Sem.wp M Γ (loadPart a none) Q E p s := by
  unfold loadPart
  simp only [Sem.wp_load]
theorem upd_part {M : Model} {Γ : PySem.Ctx} {a : Addr} {part : Option Value} {f : Obj → Obj} {Q : Unit → Pos → Shared → Prop} {E : Value → Pos → Shared → Prop} {p : Pos} {s : Shared} : Sem.wp M Γ (updatePart a part f) Q E p s = Sem.wp M Γ (updatePart a none f) Q E p s := by
  unfold updatePart
  simp only [Sem.wp_update]
theorem look_part {M : Model} {Γ : PySem.Ctx} {a : Addr} {part : Option Value} {Q : Unit → Pos → Shared → Prop} {E : Value → Pos → Shared → Prop} {p : Pos} {s : Shared} : Sem.wp M Γ (lookBehind a part) Q E p s = Sem.wp M Γ (lookBehind a none) Q E p s := by
  unfold lookBehind
  simp only [Sem.wp_bind', load_part (part := part)]
theorem updD_part {M : Model} {Γ : PySem.Ctx} {a : Addr} {part : Option Value} {f : Array DictEntry → Array DictEntry} {Q : Unit → Pos → Shared → Prop} {E : Value → Pos → Shared → Prop} {p : Pos} {s : Shared} : Sem.wp M Γ (updateDict a f part) Q E p s = Sem.wp M Γ (updateDict a f none) Q E p s := by
  unfold updateDict
  rw [Sem.wp_bind', Sem.wp_bind', load_part]
  congr 1
  funext o p1 s1
  cases o.data <;> simp only [Sem.wp_bind', upd_part (part := part), load_part (part := part)]
theorem updK_part {M : Model} {Γ : PySem.Ctx} {a : Addr} {part : Option Value} {f : Array DictEntry → Array DictEntry} {Q : Unit → Pos → Shared → Prop} {E : Value → Pos → Shared → Prop} {p : Pos} {s : Shared} : Sem.wp M Γ (updateDictKeys a f part) Q E p s = Sem.wp M Γ (updateDictKeys a f none) Q E p s := by
  unfold updateDictKeys
  rw [Sem.wp_bind', Sem.wp_bind', load_part]
  congr 1
  funext o p1 s1
  cases o.data <;> simp only [Sem.wp_bind', upd_part (part := part), look_part (part := part)]
theorem put_of_set {M : Model} {A : Around} {d : Addr} {key v : Value} {hh : Int} {Q : Unit → Shared → Prop} {E : Value → Shared → Prop} {s : Shared} (h : wpAny M A (dictSetHashed d key hh v) Q E s) : wpAny M A (dictPut d hh key v) Q E s := by
  intro Γ p hΓ
  have h' := h Γ p hΓ
  unfold dictSetHashed at h'
  unfold dictPut
  simp only [Sem.wp_holding, Sem.wp_bind'] at h' ⊢
  refine Sem.wp_mono M Γ _ (fun o p1 s1 q => ?_) (fun _ _ _ e => e) p s h'
  cases o with
  | none =>
    simp only [Sem.wp_bind'] at q ⊢
    unfold rule at q
    rw [Sem.wp_rule, Sem.wp_pure, updK_part] at q
    exact q
  | some i =>
    simp only [Sem.wp_bind'] at q ⊢
    unfold rule point at q
    simp only [Sem.wp_rule, Sem.wp_pure, Sem.wp_point] at q
    rw [updD_part] at q
    exact q
theorem merge_map {P : Program} {w : World} {A : Around} {E : Value → Shared → Prop} {s : Shared} {d o : Addr} {kvs more : List (Key × Value)} {Q : Unit → Shared → Prop} (hdo : d ≠ o) (hoS : (o == sysModules) = false)
    (hd : s.heap.DictOf (mixKind P w) d kvs) (ho : s.heap.DictOf (mixKind P w) o more) (hsz : kvs.length + more.length ≤ sizeLine)
    (hQ : ∀ h', h'.DictOf (mixKind P w) d (merged kvs more) → h'.get? o = s.heap.get? o → Heap.SameBut d s.heap h' → Q () { s with heap := h' }) :
    wpAny (model P w) A (mergeMapping d (.ref o) false) Q E s := by
  obtain ⟨od, ed, pd, gd, cd, dd, kd, qd, nd⟩ := id hd
  obtain ⟨oo, eo, po, go, co, dato, ko, qo, no⟩ := id ho
  have size : eo.size = more.length := by rw [← qo.length]; simp
  unfold mergeMapping
  refine wpAny_bind (wpAny_isInstance ho.typeIs PySem.F.sub_dict_dict ?_)
  rw [if_pos rfl]
  refine wpAny_bind (wpAny_specialOf ho.typeIs PySem.F.slot_dict_iter.lookup ?_)
  refine wpAny_bind (wpAny_pure ?_)
  have e1 : ((some (Value.builtin "dict.__iter__") : Option Value) == some (.builtin "dict.__iter__")) = true := by decide
  rw [e1]
  dsimp only
  rw [if_neg (by rw [hoS]; exact Bool.false_ne_true)]
  refine wpAny_bind (wpAny_dictEntries gd dd ?_)
  have main : wpAny (model P w) A (do
      let l ← dictEntries o
      let size : Nat := l.size
      let epoch ← dictEpoch o
      forIn (List.range size) PUnit.unit fun i (_ : PUnit) => do
        let l' ← dictEntries o
        match l'[i]? with
          | some e => do
            holding [e.key, e.val] (dictPut d e.hash e.key e.val)
            let ep ← dictEpoch o
            if (ep != epoch) = true then do
                (unsupported "dict.changed-during-merge" : Sem PUnit)
                pure (ForInStep.yield PUnit.unit)
              else pure (ForInStep.yield PUnit.unit)
          | _ => do
            (unsupported "dict.changed-during-merge" : Sem PUnit)
            (pure (ForInStep.yield PUnit.unit) : Sem (ForInStep PUnit))
      pure ()) Q E s := by
    refine wpAny_bind (wpAny_dictEntries go dato ?_)
    refine wpAny_bind (wpAny_dictEpoch go dato ?_)
    refine wpAny_bind ?_
    refine wpAny_forIn_list _ (fun rest _ s' => ∃ h' j, s' = { s with heap := h' } ∧ rest = (List.range eo.size).drop j ∧ j ≤ eo.size ∧ h'.DictOf (mixKind P w) d (merged kvs (more.take j)) ∧ h'.get? o = s.heap.get? o ∧ Heap.SameBut d s.heap h') _ ?_ ?_ _ _ ⟨s.heap, 0, rfl, rfl, Nat.zero_le _, hd, rfl, Heap.SameBut.refl _ _⟩
    · rintro x rest b s' ⟨h', j, rfl, er, hj, hd', go', sb⟩
      have lj : j < eo.size := by
        by_cases c : j < eo.size
        · exact c
        · rw [List.drop_eq_nil_of_le (by simp; omega)] at er; cases er
      rw [List.drop_eq_getElem_cons (by simpa using lj)] at er
      obtain ⟨ex, er'⟩ := List.cons.inj er
      have ex' : x = j := by rw [ex]; simp
      subst ex'
      refine wpAny_bind (wpAny_dictEntries (go'.trans go) dato ?_)
      rw [Array.getElem?_eq_getElem lj]
      have lm : x < more.length := by omega
      obtain ⟨hkey, hval⟩ := qo.get? (e := eo[x]) (by simp [lj]) (List.getElem?_eq_getElem lm)
      obtain ⟨k', hk', hh⟩ := ko eo[x] (Array.getElem_mem lj)
      have same : k' = more[x].1 := (mixKind P w).inj _ _ _ hk' hkey
      dsimp only
      rw [hh, same, hval]
      have hz : (merged kvs (more.take x)).length ≤ sizeLine := by
        have a1 := merged_length_le kvs (more.take x)
        have a2 : (more.take x).length ≤ more.length := by rw [List.length_take]; omega
        omega
      refine wpAny_bind (wpAny_holding (put_of_set (wpAny_dictSetHashed_pairs (hsz := hz) hkey hd' fun h2 hd2 sb2 => ?_)))
      have go2 : h2.get? o = s.heap.get? o := (sb2.2 o (Ne.symm hdo)).trans go'
      refine wpAny_bind (wpAny_dictEpoch (go2.trans go) dato ?_)
      rw [if_neg (by simp)]
      refine wpAny_pure ⟨h2, x + 1, rfl, er', lj, ?_, go2, sb.trans sb2⟩
      rw [merged_take_succ kvs more x more[x] (List.getElem?_eq_getElem lm)]
      exact hd2
    · rintro b s' ⟨h', j, rfl, er, hj, hd', go', sb⟩
      have ej : j = more.length := by
        have := congrArg List.length er
        simp at this
        omega
      subst ej
      rw [List.take_length] at hd'
      exact wpAny_pure (hQ h' hd' go' sb)
  split
  · refine wpAny_bind (wpAny_dictEntries go dato ?_)
    refine wpAny_bind ?_
    rw [← Array.forIn_toList]
    refine wpAny_forIn_list _ (fun rest _ s' => s' = s ∧ ∀ e ∈ rest, e ∈ eo.toList) _ ?_ ?_ _ _ ⟨rfl, fun e h => h⟩
    · rintro e rest b s' ⟨rfl, hr⟩
      obtain ⟨k, hk, _⟩ := ko e (Array.mem_toList_iff.mp (hr e List.mem_cons_self))
      have no : ∀ a, e.key ≠ .ref a := fun a h => by
        rcases keyIs_shape hk with ⟨i, t, _, h1⟩ | ⟨x, t, _, h1⟩ <;> rw [h] at h1 <;> cases h1
      split
      · rename_i a h
        exact (no a h).elim
      · exact wpAny_pure ⟨rfl, fun e' h => hr e' (List.mem_cons_of_mem _ h)⟩
    · rintro b s' ⟨rfl, _⟩
      exact main
  · exact main
end Dl

/-! DlHj: `{**m, k: v}` is reckoned. -/
/-! DlHj: `{**m, k: v}` is reckoned. -/
namespace Dl
open PySem PySem.Spec L2
theorem dict_with {P : Program} {w : World} {A : Around} {E : Value → Shared → Prop} {s : Shared} {env : Env} {m k v : Expr} {pos : Pos} {Q : Value → Shared → Prop}
    (h : wpAny (model P w) A (eval m env) (fun mv s2 => ∃ o more, mv = .ref o ∧ s.heap.objs.size ≠ o ∧ (o == sysModules) = false ∧ s2.heap.DictOf (mixKind P w) s.heap.objs.size [] ∧ s2.heap.DictOf (mixKind P w) o more ∧ more.length ≤ 1000 ∧
      ∀ h3, h3.DictOf (mixKind P w) s.heap.objs.size (merged [] more) → h3.get? o = s2.heap.get? o → Heap.SameBut s.heap.objs.size s2.heap h3 →
        wpAny (model P w) A (eval k env) (fun kv s4 => wpAny (model P w) A (eval v env) (fun vv s5 => ∃ key cur, keyIs key kv = true ∧ cur.length ≤ 1000 ∧ s5.heap.DictOf (mixKind P w) h3.objs.size [] ∧ h3.objs.size ≠ s.heap.objs.size ∧ (h3.objs.size == sysModules) = false ∧
          s5.heap.DictOf (mixKind P w) s.heap.objs.size cur ∧ ∀ h6, h6.DictOf (mixKind P w) h3.objs.size [(key, vv)] → Heap.SameBut h3.objs.size s5.heap h6 →
            ∀ h7, h7.DictOf (mixKind P w) s.heap.objs.size (stored cur key vv) → h7.get? h3.objs.size = h6.get? h3.objs.size → Heap.SameBut s.heap.objs.size h6 h7 → Q (.ref s.heap.objs.size) { s5 with heap := h7, toks := s5.toks + 1 }) E s4) E
          { s2 with heap := h3.push { cls := .type "dict", data := .dict #[] } }) E { s with heap := s.heap.push { cls := .type "dict", data := .dict #[] } }) :
    wpAny (model P w) A (eval (.Dict [none, some k] [m, v] pos) env) Q E s := by
  rw [arm_eval_Dict]
  have shape : (evalEachOpt [none, some k] env).zip ((evalEach [m, v] env).map fun v => do let x ← v; standAt pos; pure x) = [(none, do let x ← eval m env; standAt pos; pure x), (some (eval k env), do let x ← eval v env; standAt pos; pure x)] := by rfl
  rw [shape]
  refine wpAny_bind (wpAny_standAt ?_)
  unfold dictDisplay
  simp only [List.forIn_cons, List.forIn_nil]
  refine wpAny_bind (wpAny_bind (wpAny_bind ?_))
  rw [if_pos (show ([] : List (Sem Value × Sem Value)).isEmpty = true from rfl)]
  refine wpAny_pure ?_
  dsimp only
  refine wpAny_bind (wpAny_alloc ?_)
  refine wpAny_bind (wpAny_holding (wpAny_bind (wpAny_mono h (fun mv s2 hh => wpAny_bind (wpAny_standAt (wpAny_pure ?_))) fun _ _ e => e)))
  obtain ⟨o, more, rfl, hdo, hoS, hd2, ho2, lm, go⟩ := hh
  refine wpAny_bind (wpAny_onRaise (wpAny_tryCatch (wpAny_onRaise (wpAny_holding (merge_map hdo hoS hd2 ho2 (by have := sizeLine_eq; simp; omega) fun h3 hd3 ho3 sb3 => ?_)))))
  refine wpAny_pure ?_
  dsimp only
  refine wpAny_bind ?_
  rw [if_neg (by simp)]
  refine wpAny_pure (wpAny_pure ?_)
  dsimp only
  refine wpAny_bind ?_
  rw [if_neg (by simp)]
  refine wpAny_bind (wpAny_holding (wpAny_subDict (knd := mixKind P w) (by simp) ?_))
  have g3 := go h3 hd3 ho3 sb3
  refine evalPairs_cons (wpAny_mono g3 (fun kv s4 q4 => wpAny_bind (wpAny_mono q4 (fun vv s5 q5 => wpAny_bind (wpAny_standAt (wpAny_pure (evalPairs_nil ?_)))) fun _ _ e => e)) fun _ _ e => e)
  obtain ⟨key, cur, hk, lc, he, hne, heS, hd5, fin⟩ := q5
  refine ⟨[(key, vv)], ⟨hk, rfl, trivial⟩, he, fun h6 hd6 sb6 => ?_⟩
  have e1 : merged ([] : List (Key × Value)) [(key, vv)] = [(key, vv)] := rfl
  rw [e1] at hd6
  refine wpAny_bind (wpAny_onRaise (wpAny_holding (merge_map (Ne.symm hne) heS (hd5.sameBut sb6 (Ne.symm hne)) hd6 (by have := sizeLine_eq; simp; omega) fun h7 hd7 ho7 sb7 => ?_)))
  refine wpAny_pure (wpAny_pure ?_)
  exact fin h6 hd6 sb6 h7 hd7 ho7 sb7
section
variable {X : Cx} {W : WX} {m k v : Expr} {pos : Pos} {tm tk tv : TE}
/-- the new dict, what stands in the other one is put in; then the pair, by way of a dict of its own -/
def tDW (tm tk tv : TE) : TE := fun σ H Q => ∀ p, H p = none → tm σ (upd H p (.dK [])) fun x H1 => ∃ a kvs, x = .ref a ∧ a ≠ p ∧ Rd H1 a (.dK kvs) ∧ H1 p = some (.dK []) ∧ kvs.length ≤ 1000 ∧
  ∀ p2, upd H1 p (.dK (mergeK [] kvs)) p2 = none → tk σ (upd (upd H1 p (.dK (mergeK [] kvs))) p2 (.dK [])) fun y H2 => tv σ H2 fun z H3 => ∃ key now, y = kV key ∧ H3 p2 = some (.dK []) ∧ H3 p = some (.dK now) ∧ now.length ≤ 1000 ∧
    Q (.ref p) (upd (upd H3 p2 (.dK [(key, z)])) p (.dK (putK now key z)))
theorem pe_dw (hm : PE X m tm) (hk : PE X k tk) (hv : PE X v tv) : PE X (.Dict [none, some k] [m, v] pos) (tDW tm tk tv) := by
  refine ⟨fun pins s σ H Q I q => dict_with ?_⟩
  have n1 := I.hok.fresh (Nat.le_refl s.heap.objs.size)
  have I1 := I.laid (a := s.heap.objs.size) (o := .dK []) (h' := s.heap.push { cls := .type "dict", data := .dict #[] }) (t' := s.toks) (fun _ _ g => Heap.get?_push_of_some _ g) (Nat.le_refl _) (dk_empty s.heap I.big)
  refine wpAny_mono (hm.run pins _ σ _ _ I1 (q _ n1)) (fun u s2 ⟨x, H1, I2, rx, a, kvs, ex, hap, ha, hp, lk, cont⟩ => ?_) fun _ _ e => e
  subst ex
  cases (show u = Value.ref a from rx)
  obtain ⟨_, na, vs, rel, da⟩ := dk_rd I2.hok ha
  obtain ⟨_, np, vs0, r0, dp⟩ := dk_of I2.hok hp
  cases r0
  have lv : vs.length ≤ 1000 := by rw [← rel.length]; exact lk
  refine ⟨a, vs, rfl, Ne.symm hap, na, dp, da, lv, fun h3 hd3 _ sb3 => ?_⟩
  have lm0 : (mergeK [] kvs).length ≤ 1000 := by
    have h1 := length_mergeK kvs []
    rw [List.length_nil] at h1
    omega
  have sz := sizeLine_eq
  have I3 : Inv X pins σ (upd H1 s.heap.objs.size (.dK (mergeK [] kvs))) { s2 with heap := h3, toks := s2.toks } :=
    d_write I2 (by rw [hp]; exact True.intro) sb3 (let ⟨o, _, _, g, _⟩ := hd3; ⟨o, g⟩) (dk_new (by omega) np (rel.merge .nil) hd3)
  have n2 := I3.hok.fresh (Nat.le_refl h3.objs.size)
  have I4 := I3.laid (a := h3.objs.size) (o := .dK []) (h' := h3.push { cls := .type "dict", data := .dict #[] }) (t' := s2.toks) (fun _ _ g => Heap.get?_push_of_some _ g) (Nat.le_refl _) (dk_empty h3 I3.big)
  have ne : h3.objs.size ≠ s.heap.objs.size := fun e => by
    rw [e, upd_same] at n2
    cases n2
  refine wpAny_mono (hk.run pins _ σ _ _ I4 (cont _ n2)) (fun kv s4 ⟨y, H2, I5, ry, q2⟩ => wpAny_mono (hv.run pins s4 σ H2 _ I5 q2) (fun vv s5 ⟨z, H3, I6, rz, key, now, ey, e2, e3, lm, q3⟩ => ?_) fun _ _ e => e) fun _ _ e => e
  subst ey
  obtain ⟨_, n5, vs5, r5, d5⟩ := dk_of I6.hok e2
  cases r5
  obtain ⟨_, n6, cur, r6, d6⟩ := dk_of I6.hok e3
  refine ⟨key, cur, kV_is (P := X.prog) (w := X.w) ry, by rw [← r6.length]; exact lm, d5, ne, n5, d6, fun h6 hd6 sb6 h7 hd7 _ sb7 => ?_⟩
  have I7 : Inv X pins σ (upd H3 h3.objs.size (.dK [(key, z)])) { s5 with heap := h6, toks := s5.toks } :=
    d_write I6 (by rw [e2]; exact True.intro) sb6 (let ⟨o, _, _, g, _⟩ := hd6; ⟨o, g⟩) (dk_new (by simp; omega) n5 (.cons ⟨rfl, rz⟩ .nil) hd6)
  have e4 : upd H3 h3.objs.size (.dK [(key, z)]) s.heap.objs.size = some (.dK now) := by rw [upd_ne (Ne.symm ne)]; exact e3
  have lp := length_putK now key z
  have I8 : Inv X pins σ (upd (upd H3 h3.objs.size (.dK [(key, z)])) s.heap.objs.size (.dK (putK now key z))) { s5 with heap := h7, toks := s5.toks + 1 } :=
    d_write (s := { s5 with heap := h6, toks := s5.toks }) I7 (by rw [e4]; exact True.intro) sb7 (let ⟨o, _, _, g, _⟩ := hd7; ⟨o, g⟩) (dk_new (by omega) n6 (r6.put key rz) hd7)
  exact ⟨.ref s.heap.objs.size, _, I8, rfl, q3⟩
end
end Dl

/-! DlHk: `{**m, k: v}`, at values. -/
namespace Dl
open PySem PySem.Spec L2
open PyProof.Rows hiding St Binds
section
variable {X : Cx} {W : WX} {m k v : Expr} {pos : Pos} {fm fk fv : FE}
theorem idx_inj {α : Type} {l : List α} (nd : l.Nodup) {i j : Nat} {a : α} (h1 : l[i]? = some a) (h2 : l[j]? = some a) : i = j := by
  obtain ⟨l1, e1⟩ := List.getElem?_eq_some_iff.mp h1
  obtain ⟨l2, e2⟩ := List.getElem?_eq_some_iff.mp h2
  exact (List.getElem_inj nd).mp (e1.trans e2.symm)
def fDW (fm fk fv : FE) : FE := fun ρ μ Q E => fm ρ (μ ++ [.dct []]) (fun x m1 => ∃ kd, asD m1 x = some kd ∧ x ≠ .cell μ.length ∧ m1[μ.length]? = some (.dct []) ∧ kd.length ≤ 1000 ∧
  fk ρ (m1.set μ.length (.dct (mergeKD [] kd)) ++ [.dct []]) (fun y m2 => fv ρ m2 (fun z m3 => ∃ key now, kD y = some key ∧ m3[m1.length]? = some (.dct []) ∧ m3[μ.length]? = some (.dct now) ∧ now.length ≤ 1000 ∧
    ∃ d2 μ2, Fz μ.length (.cell μ.length) ((m3.set m1.length (.dct [(key, z)])).set μ.length (.dct (putKD now key z))) d2 μ2 ∧ Q d2 μ2) NE) NE) NE
theorem mDW (hm : MonE fm) (hk : MonE fk) (hv : MonE fv) : MonE (fDW fm fk fv) := fun ρ μ Q Q' E E' h he q =>
  hm ρ _ _ _ _ _ (fun x m1 ⟨kd, e1, e2, e3, e4, z⟩ => ⟨kd, e1, e2, e3, e4, hk ρ _ _ _ _ _ (fun y m2 z => hv ρ m2 _ _ _ _ (fun w m3 ⟨key, now, a1, a2, a3, a4, d2, μ2, fz, z⟩ => ⟨key, now, a1, a2, a3, a4, d2, μ2, fz, h _ _ z⟩) (fun _ _ _ z => z) z) (fun _ _ _ z => z) z⟩) (fun _ _ _ z => z) q
theorem nil_pts {K : PySem.W.Frag} {ι : Io} {H : Hp} {kv : List (Key × V)} (p : Pts K ι H kv []) : kv = [] := by
  have := p.1
  simpa using this
theorem de_dw (hm : DE X W m fm) (hk : DE X W k fk) (hv : DE X W v fv) : DE X W (.Dict [none, some k] [m, v] pos) (fDW fm fk fv) :=
  ⟨mDW hm.mono hk.mono hv.mono, PE.imp (pe_dw hm.run hk.run hv.run) fun σ H Q ⟨ι, ρ, μ, r, l, q⟩ => fun p hp => by
    have n1 := r.free hp
    have g1 := Gr.cellNew (o := .dK []) hp n1
    have r1 := r.cellNew (o := .dK []) (c := .dct []) hp ⟨[], upd_same, Pts.nil⟩
    have at1 : (ι ++ [p])[μ.length]? = some p := by rw [List.getElem?_append_right (by rw [r.len]; exact Nat.le_refl _), r.len, Nat.sub_self]; rfl
    refine chain1 hm.mono r1 (l.gr g1) (hm.mono ρ _ _ _ _ _ (fun _ _ z => z) (fun _ _ _ z => z.elim) q) fun x μ1 ι1 H1 u z g2 r2 l2 a2 => ?_
    obtain ⟨kd, e1, xn, e2, lk, z⟩ := z
    obtain ⟨a, kv, rfl, h1, p1⟩ := asD_at r2 a2 e1
    have at2 := g2.pre _ _ at1
    obtain ⟨kv0, hp1, p0⟩ := r2.at_ _ _ _ at2 e2
    cases nil_pts p0
    have hap : a ≠ p := fun e => by
      subst e
      have mem : a ∈ ι1 := List.mem_of_getElem? at2
      cases a2 with
      | lst h n _ _ => exact n mem
      | tup h n _ _ => exact n mem
      | dct h n _ _ => exact n mem
      | ins h n _ _ => exact n mem
      | ktup h _ _ => cases e1
      | @cell _ j hj => exact xn (by rw [idx_inj r2.nd hj at2])
      | ref => cases e1
      | fzl h _ _ => cases e1
    refine ⟨a, kv, rfl, hap, h1, hp1, by rw [p1.length]; exact lk, fun p2 hp2 => ?_⟩
    have m1 := p1.merge Pts.nil
    have gc := Gr.chg (H := H1) (o := .dK (mergeK [] kv)) (List.mem_of_getElem? at2)
    have r3 := r2.chg (c := .dct (mergeKD [] kd)) at2 ⟨_, upd_same, m1.gr gc⟩
    have n2 := r3.free hp2
    have g3 := Gr.cellNew (o := .dK []) hp2 n2
    have r4 := r3.cellNew (o := .dK []) (c := .dct []) hp2 ⟨[], upd_same, Pts.nil⟩
    have at3 : (ι1 ++ [p2])[μ1.length]? = some p2 := by rw [List.getElem?_append_right (by rw [r2.len]; exact Nat.le_refl _), r2.len, Nat.sub_self]; rfl
    refine chain1 hk.mono r4 ((l2.gr gc).gr g3) (hk.mono ρ _ _ _ _ _ (fun _ _ z => z) (fun _ _ _ z => z.elim) z) fun y μ2 ι2 H2 u z g4 r5 l5 a5 => ?_
    refine chain1 hv.mono r5 l5 (hv.mono ρ _ _ _ _ _ (fun _ _ z => z) (fun _ _ _ z => z.elim) z) fun w μ3 ι3 H3 t z g5 r6 l6 a6 => ?_
    obtain ⟨key, now, ky, f1, f2, ln, d2, μ4, fz, zz⟩ := z
    have at4 := g5.pre _ _ (g4.pre _ _ at3)
    have at5 := g5.pre _ _ (g4.pre _ _ (g3.pre _ _ at2))
    obtain ⟨kvA, hA, pA⟩ := r6.at_ _ _ _ at4 f1
    cases nil_pts pA
    obtain ⟨kvB, hB, pB⟩ := r6.at_ _ _ _ at5 f2
    refine ⟨key, kvB, kD_at a5 ky, hA, hB, by rw [pB.length]; exact ln, ?_⟩
    have gd := Gr.chg (H := H3) (o := .dK [(key, t)]) (List.mem_of_getElem? at4)
    have r7 := r6.chg (c := .dct [(key, w)]) at4 ⟨_, upd_same, (Pts.cons a6 Pts.nil).gr gd⟩
    have ge := Gr.chg (H := upd H3 p2 (.dK [(key, t)])) (o := .dK (putK kvB key t)) (List.mem_of_getElem? at5)
    have r8 := r7.chg (c := .dct (putKD now key w)) at5 ⟨_, upd_same, ((pB.putK a6).gr gd).gr ge⟩
    have all := ((((((g1.trans g2).trans gc).trans g3).trans g4).trans g5).trans gd).trans ge
    obtain ⟨ι', s1, s2, s3⟩ := fz.sound (ι0 := ι) (H0 := H) r.len r8 (.cell at5) all
    exact zz ι' _ _ s3 s1 s2⟩
end
end Dl


namespace Dl
open PySem PySem.Spec L2
open PyProof.Rows hiding St Binds
def top (i : Nat) : Stmt := PySem.Challenge.pw_noneorsome_k23_stocks_reckoned.main.body.getD i (.Pass ⟨0, 0, 0, 0⟩)
def inCls (s : Stmt) (j : Nat) : Stmt := match s with
  | .ClassDef _ _ _ body _ _ _ _ _ _ _ => body.getD j (.Pass ⟨0, 0, 0, 0⟩)
  | _ => .Pass ⟨0, 0, 0, 0⟩
section
variable {P : Program} {w : World} {K : PySem.W.Frag} {mg : Str → Option Value} {base : Heap} {C : Addr}
abbrev sDraw : Stmt := top 18
abbrev nDraw : List Str := ["_law_stream", "_law_many", "_law_digit", "_law_mixed_here"]
theorem scDraw : FnScope nDraw ["_law_stream", "_law_many"] (defScope sDraw) := ⟨rfl, rfl, rfl, by decide +kernel, rfl, by decide +kernel, by decide +kernel⟩
/-- a draw below m -/
inductive FDraw (ds : List D) (μ : Sto) (Q : QD) (E : XD) : Prop
  | mk (S : Dr) (m : Int) (rest : Sto) (a1 : ds = [.cell 1, .int m]) (a2 : 0 < m) (a3 : m < 2 ^ 128) (a4 : S.ok) (a5 : S.t < 1000000) (a6 : μ = S.sto rest) (a7 : ∀ (r : Int) (S' : Dr), 0 ≤ r → r < m → S'.ok → S'.t = S.t + 1 → Q (.int r) (S'.sto rest)) : FDraw ds μ Q E
theorem FDraw.mono  : MonF (FDraw) := fun ds μ Q Q' E E' h he q => match q with | .mk S m rest a1 a2 a3 a4 a5 a6 a7 => .mk S m rest a1 a2 a3 a4 a5 a6 (by intros; apply h; apply a7 <;> assumption)
theorem FDraw.len  : ∀ ds μ Q E, FDraw ds μ Q E → ds.length = 2 := fun ds μ Q E q => by obtain ⟨_, _, _, e, _, _, _, _, _, _⟩ := q; rw [e]; rfl
theorem cal_draw {f : Addr} {fd : FuncData} {qual : Str} (T : NoB mg) (Fu : Fun K "_law_draw" qual sDraw f fd) (hm : mg "_law_draw" = some (.ref f)) (hk : PySem.W.keepIn K (.ref f) = true) (hb : L2.Binds K fd ["_law_stream", "_law_many"] []) : Cal P w K mg base 1 "_law_draw" FDraw [] := by
  have nd := scDraw.nd
  refine cal_fun Fu scDraw hm hk hb ?_ ?_ (fun cdv A outer s H E hG hr =>
    have hu : (cxOf (L2.CX P w) P w K mg base nDraw qual (defScope sDraw) f cdv A outer s H E).A.units + 64 < cLine := by have := hr.un; show (A.deeper _).units + 64 < _; omega
    have hv : (cxOf (L2.CX P w) P w K mg base nDraw qual (defScope sDraw) f cdv A outer s H E).A.units + 1 < cLine := by omega
    have tk := takes_of (X := cxOf (L2.CX P w) P w K mg base nDraw qual (defScope sDraw) f cdv A outer s H E) (E := E) rfl rfl rfl rfl
    have pw := passes_of (X := cxOf (L2.CX P w) P w K mg base nDraw qual (defScope sDraw) f cdv A outer s H E) rfl
    (ds_cons (ds_asg (de_op opd_addI (de_ixL (de_var 0 rfl) de_int) de_int) (dg_ixL (W := NW) (de_var 0 rfl) de_int))
      (ds_cons (ds_if (DW.pt (dw_and (dt_cmp opd_eqI (de_ixL (de_var 0 rfl) de_int) de_int) (dw_and1 (dt_cmp (opd_neP' hu) (de_ixL (de_var 0 rfl) de_int) (de_lstD da_nil))))) (ds_cons (ds_asg (de_bmL PySem.F.plainAttrs_list PySem.F.slot_list_pop PySem.F.type_list_pop mtd_popAt (de_ixL (de_var 0 rfl) de_int) (da_cons de_int da_nil)) (dg_ixL (W := NW) (de_var 0 rfl) de_int))
      (ds_one (ds_if (dt_cmp opd_lt (de_ixL (de_var 0 rfl) de_int) (de_op opd_pow de_int de_int)) (ds_cons (ds_asg (de_op opd_mod (de_callTy cad_int (by rfl) T.int (by decide +kernel) (da_cons (de_op opd_addI (de_op opd_addI (de_op opd_mulI (de_ixL (de_var 0 rfl) de_int) de_int) (de_ixL (de_var 0 rfl) de_int)) de_int) da_nil)) de_int) (dg_ixL (W := NW) (de_var 0 rfl) de_int))
      (ds_one (ds_asg de_int (dg_ixL (W := NW) (de_var 0 rfl) de_int)))) ds_nil))) ds_nil)
      (ds_cons (ds_if (dt_cmp opd_gt (de_ixL (de_var 0 rfl) de_int) de_int) (ds_cons (ds_set (i := 2) nd rfl (by first | exact .inl rfl | exact .inr rfl) (de_op opd_mod (de_callTy cad_int (by rfl) T.int (by decide +kernel) (da_cons (de_ixL (de_var 0 rfl) de_int) da_nil)) (de_var 1 rfl)))
      (ds_cons (ds_asg (de_op opd_fdiv (de_ixL (de_var 0 rfl) de_int) (de_var 1 rfl)) (dg_ixL (W := NW) (de_var 0 rfl) de_int))
      (ds_one (ds_ret (de_var 2 rfl))))) ds_nil)
      (ds_cons (ds_set (i := 3) nd rfl (by first | exact .inl rfl | exact .inr rfl) (de_op opd_mod (de_op opd_pow (de_op opd_addI (de_op opd_addI (de_ixL (de_var 0 rfl) de_int) (de_op opd_mulI de_int (de_ixL (de_var 0 rfl) de_int))) de_int) de_int) de_int))
      (ds_one (ds_ret (de_op opd_mod (de_op opd_mod (de_op opd_pow (de_op opd_addI (de_op opd_addI (de_op opd_mulI (de_var 3 rfl) de_int) (de_op opd_mulI (de_op opd_mulI de_int (de_ixL (de_var 0 rfl) de_int)) (de_ixL (de_var 0 rfl) de_int))) de_int) de_int) de_int) (de_var 1 rfl))))))))) ?_
  · exact FDraw.mono
  · exact FDraw.len
  · rintro ds μ Q E ⟨⟨ns, a, t, c⟩, m, rest, rfl, m0, m1, ⟨a0, t0, c0, c1⟩, tl, rfl, z⟩
    have pw18 : CPow 10 18 := ⟨by decide, by decide, by decide⟩
    have mm : ∀ i j : Int, i.natAbs < 2 ^ 64 → j.natAbs < 2 ^ 64 → CMulW i j := fun i j h1 h2 => wide_mul h1 h2 (by decide) (by decide) (by decide)
    simp only at a0 t0 c0 c1 tl
    -- stream[2] = stream[2] + 1
    refine ⟨_, rfl, _, _, _, rfl, rfl, rfl, _, _, rfl, rfl, _, rfl, _, _, _, _, rfl, rfl, rfl, rfl, ?_⟩
    -- behind the first choice
    dsimp only
    refine seq_cut (fun ρ' μ' => ρ' = startD nDraw.length [D.cell 1, D.int m] ∧ ∃ (ns' : List Int) (a' c' : Int), 0 ≤ a' ∧ 0 ≤ c' ∧ c' < 2147483647 ∧ μ' = CT.lst (ns'.map D.int) :: CT.lst [.cell 0, .int a', .int (t + 1), .int c'] :: rest) ?_ fun N hN => ?_
    · rintro _ _ ⟨rfl, ns', a', c', h1, h2, h3, rfl⟩
      refine seq_cut (fun ρ' μ' => ρ' = startD nDraw.length [D.cell 1, D.int m] ∧ μ' = CT.lst (ns'.map D.int) :: CT.lst [.cell 0, .int a', .int (t + 1), .int c'] :: rest) ?_ fun N hN => ?_
      · rintro _ _ ⟨rfl, rfl⟩
        -- the number is mixed
        have b1 : 0 ≤ (c' + 104729 * (t + 1) + 17) := by omega
        have b2 : (c' + 104729 * (t + 1) + 17) < 2 ^ 40 := by omega
        refine ⟨_, rfl, _, _, _, rfl, rfl, rfl, _, rfl, _, _, _, rfl, rfl, rfl, _, _, rfl, rfl, mm _ _ (by decide) (by omega), _, _, rfl, rfl, _, _, rfl, rfl, _, _, rfl, rfl, ⟨by decide, by decide, by omega⟩, _, _, rfl, rfl, by decide, ?_⟩
        generalize hx : (c' + 104729 * (t + 1) + 17) ^ (5 : Int).toNat % 2147483629 = x
        have x0 : 0 ≤ x := by rw [← hx]; exact Int.emod_nonneg _ (by decide)
        have x1 : x < 2147483629 := by rw [← hx]; exact Int.emod_lt_of_pos _ (by decide)
        have q0 : 0 ≤ (t + 1) * (t + 1) := Int.mul_nonneg (by omega) (by omega)
        have q1 : (t + 1) * (t + 1) ≤ 1000000 * 1000000 := Int.mul_le_mul (by omega) (by omega) (by omega) (by decide)
        have q2 : 40503 * (t + 1) * (t + 1) = 40503 * ((t + 1) * (t + 1)) := Int.mul_assoc _ _ _
        refine ⟨_, rfl, _, _, rfl, rfl, mm _ _ (by omega) (by decide), _, rfl, _, _, _, rfl, rfl, rfl, _, _, rfl, rfl, mm _ _ (by decide) (by omega), _, rfl, _, _, _, rfl, rfl, rfl, _, _, rfl, rfl, mm _ _ (by omega) (by omega), _, _, rfl, rfl, _, _, rfl, rfl,
          _, _, rfl, rfl, ⟨by decide, by decide, by omega⟩, _, _, rfl, rfl, by decide, _, rfl, _, _, rfl, rfl, m0, ?_⟩
        exact ⟨_, _, .refl, z _ ⟨ns', a', t + 1, c'⟩ (Int.emod_nonneg _ (by omega)) (Int.emod_lt_of_pos _ m0) ⟨h1, by show 0 ≤ t + 1; omega, h2, h3⟩ rfl⟩
      · refine ⟨_, rfl, _, _, _, rfl, rfl, rfl, _, _, rfl, rfl, _, rfl, ?_⟩
        refine ite_b (fun h => ?_) (fun h => ?_)
        · refine ⟨_, rfl, _, _, _, rfl, rfl, rfl, .inl ⟨_, rfl, _, rfl, _, _, rfl, rfl, m0, ?_⟩⟩
          refine ⟨_, rfl, _, _, _, rfl, rfl, rfl, _, rfl, _, _, rfl, rfl, ⟨m0, ?_⟩, _, rfl, _, _, _, _, rfl, rfl, rfl, rfl, _, rfl, ?_⟩
          · have : m.natAbs < 2 ^ 128 := by omega
            have := (Nat.log2_lt (by omega)).mpr this
            omega
          · exact ⟨_, _, .refl, z _ ⟨ns', a' / m, t + 1, c'⟩ (Int.emod_nonneg _ (by omega)) (Int.emod_lt_of_pos _ m0) ⟨Int.ediv_nonneg h1 (by omega), by show 0 ≤ t + 1; omega, h2, h3⟩ rfl⟩
        · exact hN _ _ ⟨rfl, rfl⟩
    · refine ⟨_, rfl, _, _, _, rfl, rfl, rfl, _, _, rfl, rfl, _, rfl, ?_⟩
      refine ite_b (fun h => ?_) (fun h => ?_)
      · refine ⟨_, rfl, _, _, _, rfl, rfl, rfl, by decide, .list (ns.map .int), .list [], ?_, rfl, shaped_ints ns, rfl, _, rfl, ?_⟩
        · show (pyAll (ns.map D.int)).map PyData.list = _
          rw [pyAll_ints]; rfl
        refine ite_c (fun h2 => ?_) (fun h2 => ?_)
        · cases ns with
          | nil => simp [PyData.eqv, PyData.eqvAll] at h2
          | cons n ns =>
            have hs0 : seqIndex? 0 ((n :: ns).map D.int).length = some 0 := by simp [seqIndex?]; try omega
            refine ⟨_, rfl, _, _, _, rfl, rfl, rfl, ⟨_, rfl⟩, _, (n :: ns).map D.int, _, 0, .int n, rfl, rfl, rfl, by decide, by decide, hs0, rfl, _, rfl, _, _, _, _, rfl, rfl, rfl, rfl, ?_⟩
            refine ⟨_, rfl, _, _, _, rfl, rfl, rfl, _, _, rfl, rfl, pw18, _, rfl, ?_⟩
            refine ite_b (fun h3 => ?_) (fun h3 => ?_)
            · refine ⟨_, rfl, _, _, _, rfl, rfl, rfl, _, _, rfl, rfl, mm _ _ (by omega) (by decide), _, rfl, _, _, _, rfl, rfl, rfl, _, _, rfl, rfl, _, _, rfl, rfl, .inl ⟨_, rfl, _, _, rfl, rfl, by decide, _, rfl, _, _, _, _, rfl, rfl, rfl, rfl, ?_⟩⟩
              refine ⟨_, rfl, _, _, _, _, rfl, rfl, rfl, rfl, ?_⟩
              exact hN _ _ ⟨rfl, ns, 0, _, Int.le_refl _, Int.emod_nonneg _ (by decide), Int.emod_lt_of_pos _ (by decide), rfl⟩
            · have e18 : (10 : Int) ^ (18 : Int).toNat = 1000000000000000000 := by decide
              exact hN _ _ ⟨rfl, ns, n, c, by omega, c0, c1, rfl⟩
        · exact hN _ _ ⟨rfl, ns, a, c, a0, c0, c1, rfl⟩
      · exact hN _ _ ⟨rfl, ns, a, c, a0, c0, c1, rfl⟩

abbrev sSame : Stmt := top 20
abbrev nSame : List Str := ["_law_found", "_law_due"]
theorem scSame : FnScope nSame ["_law_found", "_law_due"] (defScope sSame) := ⟨rfl, rfl, rfl, by decide +kernel, rfl, by decide +kernel, by decide +kernel⟩
inductive FSame (ds : List D) (μ : Sto) (Q : QD) (E : XD) : Prop
  | mk (x) (y) (p) (a1 : ds = [x, y]) (a2 : pyT μ x = some p) (a3 : pyT μ y = some p) (a4 : okR p) (a5 : Q (.bl true) μ) : FSame ds μ Q E
theorem FSame.mono  : MonF (FSame) := fun ds μ Q Q' E E' h he q => match q with | .mk x y p a1 a2 a3 a4 a5 => .mk x y p a1 a2 a3 a4 (h _ _ a5)
theorem FSame.len  : ∀ ds μ Q E, FSame ds μ Q E → ds.length = 2 := fun ds μ Q E q => by obtain ⟨_, _, _, e, _, _, _, _⟩ := q; rw [e]; rfl
theorem cal_same {f : Addr} {fd : FuncData} {qual : Str} (T : NoB mg) (Fu : Fun K "_law_same" qual sSame f fd) (hm : mg "_law_same" = some (.ref f)) (hk : PySem.W.keepIn K (.ref f) = true) (hb : L2.Binds K fd ["_law_found", "_law_due"] []) : Cal P w K mg base 1 "_law_same" FSame [] := by
  have nd := scSame.nd
  refine cal_fun Fu scSame hm hk hb ?_ ?_ (fun cdv A outer s H E hG hr =>
    have hu : (cxOf (L2.CX P w) P w K mg base nSame qual (defScope sSame) f cdv A outer s H E).A.units + 64 < cLine := by have := hr.un; show (A.deeper _).units + 64 < _; omega
    have hv : (cxOf (L2.CX P w) P w K mg base nSame qual (defScope sSame) f cdv A outer s H E).A.units + 1 < cLine := by omega
    have tk := takes_of (X := cxOf (L2.CX P w) P w K mg base nSame qual (defScope sSame) f cdv A outer s H E) (E := E) rfl rfl rfl rfl
    have pw := passes_of (X := cxOf (L2.CX P w) P w K mg base nSame qual (defScope sSame) f cdv A outer s H E) rfl
    (ds_one (ds_ret (de_cmp opd_eqS (de_callB (cad_reprT hG hu) (by rfl) T.repr (by decide +kernel) (da_cons (de_var 0 rfl) da_nil)) (de_callB (cad_reprT hG hu) (by rfl) T.repr (by decide +kernel) (da_cons (de_var 1 rfl) da_nil)))))) ?_
  · exact FSame.mono
  · exact FSame.len
  · rintro ds μ Q E ⟨x, y, p, rfl, e2, e3, e4, z⟩
    refine ⟨_, rfl, _, p, rfl, e2, e4, _, rfl, _, p, rfl, e3, e4, _, _, rfl, rfl, _, _, .refl, ?_⟩
    rw [decide_eq_true rfl]; exact z

abbrev sName : Stmt := top 21
abbrev nName : List Str := ["_law_stream", "_law_taken", "_law_size", "_law_name_here", "_law_k", "_law_one", "_law_letter"]
theorem scName : FnScope nName ["_law_stream", "_law_taken"] (defScope sName) := ⟨rfl, rfl, rfl, by decide +kernel, rfl, by decide +kernel, by decide +kernel⟩
inductive FName (ds : List D) (μ : Sto) (Q : QD) (E : XD) : Prop
  | mk (S : Dr) (tk : List Str) (rest : Sto) (a1 : ds = [.cell 1, .lst (tk.map .str)]) (a2 : tk.length ≤ 15) (a3 : S.ok) (a4 : S.t + 10 < 1000000) (a5 : okRest rest) (a6 : μ = S.sto rest) (a7 : ∀ (s : Str) (S' : Dr), NameOk s → s ∉ tk → S'.ok → S.t ≤ S'.t → S'.t ≤ S.t + 9 → Q (.str s) (S'.sto rest)) : FName ds μ Q E
theorem FName.mono  : MonF (FName) := fun ds μ Q Q' E E' h he q => match q with | .mk S tk rest a1 a2 a3 a4 a5 a6 a7 => .mk S tk rest a1 a2 a3 a4 a5 a6 (by intros; apply h; apply a7 <;> assumption)
theorem FName.len  : ∀ ds μ Q E, FName ds μ Q E → ds.length = 2 := fun ds μ Q E q => by obtain ⟨_, _, _, e, _, _, _, _, _, _⟩ := q; rw [e]; rfl
theorem cal_name (cD : Cal P w K mg base 1 "_law_draw" FDraw []) {f : Addr} {fd : FuncData} {qual : Str} (T : NoB mg) (Fu : Fun K "_law_name" qual sName f fd) (hm : mg "_law_name" = some (.ref f)) (hk : PySem.W.keepIn K (.ref f) = true) (hb : L2.Binds K fd ["_law_stream", "_law_taken"] []) : Cal P w K mg base 2 "_law_name" FName [] := by
  have nd := scName.nd
  refine cal_fun Fu scName hm hk hb ?_ ?_ (fun cdv A outer s H E hG hr =>
    have hu : (cxOf (L2.CX P w) P w K mg base nName qual (defScope sName) f cdv A outer s H E).A.units + 64 < cLine := by have := hr.un; show (A.deeper _).units + 64 < _; omega
    have hv : (cxOf (L2.CX P w) P w K mg base nName qual (defScope sName) f cdv A outer s H E).A.units + 1 < cLine := by omega
    have tk := takes_of (X := cxOf (L2.CX P w) P w K mg base nName qual (defScope sName) f cdv A outer s H E) (E := E) rfl rfl rfl rfl
    have pw := passes_of (X := cxOf (L2.CX P w) P w K mg base nName qual (defScope sName) f cdv A outer s H E) rfl
    (ds_cons (ds_set (i := 2) nd rfl (by first | exact .inl rfl | exact .inr rfl) (de_ixL (de_lstD (da_cons de_int (da_cons de_int (da_cons de_int (da_cons de_int (da_cons de_int (da_cons de_int da_nil))))))) (de_call cD hG hr (by decide) (by rfl) tk (da_cons (de_var 0 rfl) (da_cons de_int da_nil)))))
      (ds_cons (ds_set (i := 3) nd rfl (by first | exact .inl rfl | exact .inr rfl) (de_join de_str (de_lc (own := [("_law_k", 4)]) rfl nd (di_rng1 (by rfl) T.range (da_cons (de_var 2 rfl) da_nil)) (blkOk_by (N := nName) (sc := defScope sName) (by decide +kernel)) (fun _ _ _ _ _ => (dgw_name (i := 4) nd rfl (by first | exact .inl rfl | exact .inr rfl) (by decide))) (fun _ _ _ _ _ => dts_nil) (fun _ _ _ _ _ => (de_ixT de_str (de_call cD hG hr (by decide) (by rfl) takesNW (da_cons (de_var 0 rfl) (da_cons de_int da_nil))))))))
      (ds_cons (ds_if (DW.pt (dw_or (dt_cmp opd_in (de_var 3 rfl) (de_var 1 rfl)) (dw_or1 (dt_cmp opd_in (de_var 3 rfl) (de_lstD (da_cons de_str (da_cons de_str (da_cons de_str (da_cons de_str (da_cons de_str da_nil)))))))))) (ds_one (ds_ret (de_ixL (de_lc (own := [("_law_one", 5)]) rfl nd (di_seq (de_lc (own := [("_law_letter", 6)]) rfl nd (di_str de_str) (blkOk_by (N := nName) (sc := defScope sName) (by decide +kernel)) (fun _ _ _ _ _ => (dgw_name (i := 6) nd rfl (by first | exact .inl rfl | exact .inr rfl) (by decide))) (fun _ _ _ _ _ => dts_nil) (fun _ _ _ _ _ => (de_op strAdd_ok de_str (de_var 6 rfl))))) (blkOk_by (N := nName) (sc := defScope sName) (by decide +kernel)) (fun _ _ _ _ _ => (dgw_name (i := 5) nd rfl (by first | exact .inl rfl | exact .inr rfl) (by decide))) (fun _ _ _ _ _ => (dts_one (dt_cmp opd_notin (de_var 5 rfl) (de_var 1 rfl)))) (fun _ _ _ _ _ => (de_var 5 rfl))) de_int))) ds_nil)
      (ds_one (ds_ret (de_var 3 rfl))))))) ?_
  · exact FName.mono
  · exact FName.len
  · rintro ds μ Q E ⟨S, tk, rest, rfl, hl, ok, tl, okr, rfl, z⟩
    have sz := sizeLine_eq
    refine ⟨by decide, _, rfl, S, 6, rest, rfl, by decide, by decide, ok, by omega, rfl, fun r S1 r0 r1 ok1 t1 => ?_⟩
    have hk : ∃ k : Nat, atI [D.int 1, .int 1, .int 2, .int 3, .int 5, .int 8] r = some (.int k) ∧ 1 ≤ k ∧ k ≤ 8 := by
      rw [atI_nn _ r0]
      have : r.toNat = 0 ∨ r.toNat = 1 ∨ r.toNat = 2 ∨ r.toNat = 3 ∨ r.toNat = 4 ∨ r.toNat = 5 := by omega
      rcases this with h | h | h | h | h | h <;> rw [h]
      · exact ⟨1, rfl, by decide, by decide⟩
      · exact ⟨1, rfl, by decide, by decide⟩
      · exact ⟨2, rfl, by decide, by decide⟩
      · exact ⟨3, rfl, by decide, by decide⟩
      · exact ⟨5, rfl, by decide, by decide⟩
      · exact ⟨8, rfl, by decide, by decide⟩
    obtain ⟨k, hk, k1, k8⟩ := hk
    refine ⟨_, _, _, rfl, rfl, hk, ?_⟩
    -- the letters
    refine ⟨_, rfl, _, rfl, _, rfl, by omega, by omega, lc_draw 1 (fun i acc => ∃ cs : List Nat, acc = cs.map (fun c => D.str ⟨#[c]⟩) ∧ cs.length = i ∧ ∀ c ∈ cs, c ∈ abc) ok1 okr (fun _ _ => trivial) ⟨[], rfl, rfl, fun c h => absurd h (by simp)⟩ ?_ (fun i acc ⟨cs, e, h, _⟩ => by rw [e, List.length_map, h]; exact Nat.le_refl _) (by simp; omega) (fun acc ⟨cs, e, _⟩ => by rw [e]; exact bdL_all.mpr fun d hd => by obtain ⟨c, _, rfl⟩ := List.mem_map.mp hd; rfl) ?_⟩
    · rintro i x acc S' hx hi ok' t1' t2' ⟨cs, rfl, h1, h2⟩ NX N0 hN hN0
      simp at hi
      refine ⟨_, rfl, S', 26, _, rfl, by decide, by decide, ok', by omega, rfl, fun r2 S2 q0 q1 ok2 u2 => ?_⟩
      have hr : r2.toNat < abc.length := by rw [abc_len]; omega
      refine ⟨_, r2, abc[r2.toNat], rfl, rfl, by decide +kernel, ?_, hN _ S2 ok2 (by omega) (by omega) ⟨cs ++ [abc[r2.toNat]], by simp, by simp [h1], fun c hc => ?_⟩⟩
      · rw [atI_nn _ q0]; exact List.getElem?_eq_getElem hr
      · rcases List.mem_append.mp hc with hc | hc
        · exact h2 c hc
        · rw [List.mem_singleton.mp hc]; exact List.getElem_mem hr
    · rintro acc S' ⟨cs, rfl, h1, hcs⟩ ok' u1 u2
      simp at h1 u2
      have e : (cs.map fun c => D.str ⟨#[c]⟩) = (cs.map fun c => (⟨#[c]⟩ : Str)).map D.str := by rw [List.map_map]; rfl
      refine ⟨cs.map fun c => (⟨#[c]⟩ : Str), congrArg some e, ?_, ?_⟩
      · have := sum_ones cs
        have e0 : (Str.ofString "").length = 0 := by decide
        show _ + _ * (Str.ofString "").length ≤ _
        rw [this, e0]; omega
      have hc := join_chars cs
      generalize Txt.join (Str.ofString "") (cs.map fun c => (⟨#[c]⟩ : Str)) = nm at hc
      have hs : nm.cps.toList.length = k := by rw [hc]; exact h1
      refine ⟨_, rfl, _, rfl, tk.map .str, rfl, rfl, flat_strs tk, _, rfl, ite_c (fun h => ite_c (fun _ => ?_) (fun h => nomatch h)) (fun h => ⟨_, rfl, by decide, Reserved.map .str, rfl, rfl, rfl, _, rfl, ite_c (fun h2 => ?_) (fun h2 => ?_)⟩)⟩
      case refine_3 =>
        have n1 : nm ∉ tk := fun z => by
          have h' : inDD (.str nm) (tk.map .str) = false := h
          rw [inDD_strs] at h'
          exact absurd (decide_eq_true z) (by rw [h']; simp)
        have n2 : nm ∉ Reserved := fun z => by
          have h' : inDD (.str nm) (Reserved.map .str) = false := h2
          rw [inDD_strs] at h'
          exact absurd (decide_eq_true z) (by rw [h']; simp)
        exact ⟨_, rfl, _, _, .refl, z nm S' ⟨by omega, by omega, fun c hm => abc_low c (hcs c (hc ▸ hm)), n2⟩ n1 ok' (by omega) (by omega)⟩
      all_goals
        refine ⟨_, rfl, lc_pure pQ (fun _ => trivial) ?_ (by decide +kernel) (bdL_strs qs) okr.sto ⟨qs.map .str, rfl, lc_pure (pN tk) (fun _ => rfl) ?_ (by rw [List.length_map, qs_len]; omega) (by rw [pN_map]; exact bdL_strs _) okr.sto ?_⟩⟩
        · intro x hx acc NX N0 hN hN0
          obtain ⟨c, _, rfl⟩ := List.mem_map.mp hx
          exact ⟨_, rfl, _, _, rfl, rfl, (by show 1 + 1 ≤ sizeLine; omega), hN _ rfl⟩
        · intro x hx acc NX N0 hN hN0
          obtain ⟨s, _, rfl⟩ := List.mem_map.mp hx
          refine ⟨_, rfl, _, rfl, tk.map .str, rfl, rfl, flat_strs tk, _, rfl, ite_c (fun h3 => ?_) (fun h3 => ?_)⟩
          · have h3' : (!inDD (.str s) (tk.map .str)) = true := h3
            rw [inDD_strs] at h3'
            exact ⟨_, rfl, hN _ (by simp at h3'; simp [pN, h3'])⟩
          · have h3' : (!inDD (.str s) (tk.map .str)) = false := h3
            rw [inDD_strs] at h3'
            exact hN0 (by simp at h3'; simp [pN, h3'])
        · obtain ⟨s, l, e4, hs1, hs2⟩ := qs_some hl
          exact ⟨_, 0, .str s, rfl, rfl, by rw [pN_map, e4]; exact atI_0 _, _, _, .refl, z s S' (qs_ok s hs1) hs2 ok' (by omega) (by omega)⟩

abbrev sNames : Stmt := top 22
abbrev nNames : List Str := ["_law_stream", "_law_many", "_law_taken", "_law_found", "_law_k"]
theorem scNames : FnScope nNames ["_law_stream", "_law_many", "_law_taken"] (defScope sNames) := ⟨rfl, rfl, rfl, by decide +kernel, rfl, by decide +kernel, by decide +kernel⟩
inductive FNames (ds : List D) (μ : Sto) (Q : QD) (E : XD) : Prop
  | mk (S : Dr) (k : Nat) (tk : List Str) (rest : Sto) (a1 : ds = [.cell 1, .int k, .lst (tk.map .str)]) (a2 : k + tk.length ≤ 15) (a3 : S.ok) (a4 : S.t + 10 * k + 10 < 1000000) (a5 : okRest rest) (a6 : μ = S.sto rest) (a7 : ∀ (ss : List Str) (S' : Dr), ss.length = k → (∀ s ∈ ss, NameOk s) → ss.Nodup → (∀ s ∈ ss, s ∉ tk) → S'.ok → S.t ≤ S'.t → S'.t ≤ S.t + 9 * k → Q (.lst (ss.map .str)) (S'.sto rest)) : FNames ds μ Q E
theorem FNames.mono  : MonF (FNames) := fun ds μ Q Q' E E' h he q => match q with | .mk S k tk rest a1 a2 a3 a4 a5 a6 a7 => .mk S k tk rest a1 a2 a3 a4 a5 a6 (by intros; apply h; apply a7 <;> assumption)
theorem FNames.len  : ∀ ds μ Q E, FNames ds μ Q E → ds.length = 3 := fun ds μ Q E q => by obtain ⟨_, _, _, _, e, _, _, _, _, _, _⟩ := q; rw [e]; rfl
theorem cal_names (cN : Cal P w K mg base 2 "_law_name" FName []) {f : Addr} {fd : FuncData} {qual : Str} (T : NoB mg) (Fu : Fun K "_law_names" qual sNames f fd) (hm : mg "_law_names" = some (.ref f)) (hk : PySem.W.keepIn K (.ref f) = true) (hb : L2.Binds K fd ["_law_stream", "_law_many", "_law_taken"] []) : Cal P w K mg base 3 "_law_names" FNames [] := by
  have nd := scNames.nd
  refine cal_fun Fu scNames hm hk hb ?_ ?_ (fun cdv A outer s H E hG hr =>
    have hu : (cxOf (L2.CX P w) P w K mg base nNames qual (defScope sNames) f cdv A outer s H E).A.units + 64 < cLine := by have := hr.un; show (A.deeper _).units + 64 < _; omega
    have hv : (cxOf (L2.CX P w) P w K mg base nNames qual (defScope sNames) f cdv A outer s H E).A.units + 1 < cLine := by omega
    have tk := takes_of (X := cxOf (L2.CX P w) P w K mg base nNames qual (defScope sNames) f cdv A outer s H E) (E := E) rfl rfl rfl rfl
    have pw := passes_of (X := cxOf (L2.CX P w) P w K mg base nNames qual (defScope sNames) f cdv A outer s H E) rfl
    (ds_cons (ds_set (i := 3) nd rfl (by first | exact .inl rfl | exact .inr rfl) (de_lstC da_nil))
      (ds_cons (ds_for pw rfl (di_rng1 (by rfl) T.range (da_cons (de_var 1 rfl) da_nil)) (dg_name (i := 4) nd rfl (by first | exact .inl rfl | exact .inr rfl)) (ds_one (ds_expr (de_bmL PySem.F.plainAttrs_list PySem.F.slot_list_append PySem.F.type_list_append mtd_append (de_var 3 rfl) (da_cons (de_call cN hG hr (by decide) (by rfl) tk (da_cons (de_var 0 rfl) (da_cons (de_op opd_catD (de_var 2 rfl) (de_var 3 rfl)) da_nil))) da_nil)))))
      (ds_one (ds_ret (de_var 3 rfl)))))) ?_
  · exact FNames.mono
  · exact FNames.len
  · rintro ds μ Q E ⟨S, k, tk, rest, rfl, hl, ok, tl, okr, rfl, z⟩
    have sz := sizeLine_eq
    refine ⟨by decide, _, rfl, _, rfl, by omega, by omega, fun i ρ' μ' => ∃ (v : Option D) (S' : Dr) (ss : List Str), ρ' = [some (.cell 1), some (.int k), some (.lst (tk.map .str)), some (.cell (rest.length + 2)), v] ∧ ss.length = i ∧ (∀ s ∈ ss, NameOk s) ∧ ss.Nodup ∧ (∀ s ∈ ss, s ∉ tk) ∧ S'.ok ∧ S.t ≤ S'.t ∧ S'.t ≤ S.t + 9 * i ∧ μ' = S'.sto (rest ++ [.lst (ss.map .str)]), ?_, fun _ _ _ _ => trivial, ?_, ?_⟩
    · exact ⟨none, S, [], rfl, rfl, fun s h => absurd h (by simp), List.nodup_nil, fun s h => absurd h (by simp), ok, Int.le_refl _, by simp, rfl⟩
    · rintro i x ρ' μ' hx ⟨v, S', ss, rfl, l1, a1, a2, a3, ok', t1, t2, rfl⟩
      have hi : i < k := by
        have := (List.getElem?_eq_some_iff.mp hx).1
        simpa using this
      refine ⟨_, rfl, ⟨ss.map .str, asL_of (get_a rfl)⟩, _, rfl, _, rfl, _, rfl, tk.map .str, ss.map .str, rfl, asL_of (get_a rfl), by simp; omega, S', tk ++ ss, _, by simp, by simp; omega, ok', by omega, okr.add (c := .lst (ss.map .str)) (bdL_strs ss), rfl, fun s S2 hs hn ok2 u1 u2 => ?_⟩
      refine ⟨_, ss.map .str, .str s, rfl, rfl, get_a rfl, by simp; omega, ?_⟩
      have e := set_a (S := S2) (rest := rest) (a := .lst (ss.map .str)) (c := .lst (ss.map .str ++ [.str s])) (n := rest.length + 2) rfl
      refine ⟨_, S2, ss ++ [s], rfl, by simp [l1], ?_, ?_, ?_, ok2, by omega, by omega, by rw [e, List.map_append]; rfl⟩
      · intro y hy
        rcases List.mem_append.mp hy with hy | hy
        · exact a1 y hy
        · rw [List.mem_singleton.mp hy]; exact hs
      · rw [List.nodup_append]
        refine ⟨a2, by simp, fun y hy y' hy' e' => ?_⟩
        rw [List.mem_singleton.mp hy'] at e'
        exact hn (List.mem_append_right _ (e' ▸ hy))
      · intro y hy
        rcases List.mem_append.mp hy with hy | hy
        · exact a3 y hy
        · rw [List.mem_singleton.mp hy]; exact fun h => hn (List.mem_append_left _ h)
    · rintro ρ' μ' ⟨v, S', ss, rfl, l1, a1, a2, a3, ok', t1, t2, rfl⟩
      simp at l1 t2
      exact ⟨_, rfl, _, _, .lst (μ := S'.sto rest) (by rw [sto_len, sto_len]; exact Nat.le_refl _) (bdL_strs ss) okr.sto .refl, z ss S' l1 a1 a2 a3 ok' t1 t2⟩

/-! ### names -/
abbrev sLet : Stmt := top 8
abbrev nLet : List Str := ["sign"]
theorem scLet : FnScope nLet ["sign"] (defScope sLet) := ⟨rfl, rfl, rfl, by decide +kernel, rfl, by decide +kernel, by decide +kernel⟩
def lowS (c : Nat) : Bool := decide (97 ≤ c ∧ c ≤ 122)
inductive FLet (ds : List D) (μ : Sto) (Q : QD) (E : XD) : Prop
  | mk (c : Nat) (a1 : ds = [.str ⟨#[c]⟩]) (a2 : Q (.bl (lowS c)) μ) : FLet ds μ Q E
theorem FLet.mono  : MonF (FLet) := fun ds μ Q Q' E E' h he q => match q with | .mk c a1 a2 => .mk c a1 (h _ _ a2)
theorem FLet.len  : ∀ ds μ Q E, FLet ds μ Q E → ds.length = 1 := fun ds μ Q E q => by obtain ⟨_, e, _⟩ := q; rw [e]; rfl
theorem cal_let {f : Addr} {fd : FuncData} {qual : Str} (T : NoB mg) (Fu : Fun K "is_letter" qual sLet f fd) (hm : mg "is_letter" = some (.ref f)) (hk : PySem.W.keepIn K (.ref f) = true) (hb : L2.Binds K fd ["sign"] []) : Cal P w K mg base 1 "is_letter" FLet [] := by
  have nd := scLet.nd
  refine cal_fun Fu scLet hm hk hb ?_ ?_ (fun cdv A outer s H E hG hr =>
    have hu : (cxOf (L2.CX P w) P w K mg base nLet qual (defScope sLet) f cdv A outer s H E).A.units + 64 < cLine := by have := hr.un; show (A.deeper _).units + 64 < _; omega
    have hv : (cxOf (L2.CX P w) P w K mg base nLet qual (defScope sLet) f cdv A outer s H E).A.units + 1 < cLine := by omega
    have tk := takes_of (X := cxOf (L2.CX P w) P w K mg base nLet qual (defScope sLet) f cdv A outer s H E) (E := E) rfl rfl rfl rfl
    have pw := passes_of (X := cxOf (L2.CX P w) P w K mg base nLet qual (defScope sLet) f cdv A outer s H E) rfl
    (ds_one (ds_ret (de_chain opd_le opd_le de_str (de_var 0 rfl) de_str)))) ?_
  · exact FLet.mono
  · exact FLet.len
  · rintro ds μ Q E ⟨c, rfl, z⟩
    have lt1 : ∀ a b : Nat, ([a] < [b]) ↔ a < b := fun a b => by simp [List.cons_lt_cons_iff]
    have ea : (Str.ofString "a").cps.toList = [97] := by decide +kernel
    have ez : (Str.ofString "z").cps.toList = [122] := by decide +kernel
    have h1 : (!decide ((⟨#[c]⟩ : Str).cps.toList < (Str.ofString "a").cps.toList)) = decide (97 ≤ c) := by
      rw [ea]; show (!decide ([c] < [97])) = _; have e : decide ([c] < [97]) = decide (c < 97) := decide_eq_decide.mpr (lt1 c 97); rw [e]; by_cases h : c < 97 <;> simp [h] <;> omega
    have h2 : (!decide ((Str.ofString "z").cps.toList < (⟨#[c]⟩ : Str).cps.toList)) = decide (c ≤ 122) := by
      rw [ez]; show (!decide ([122] < [c])) = _; have e : decide ([122] < [c]) = decide (122 < c) := decide_eq_decide.mpr (lt1 122 c); rw [e]; by_cases h : 122 < c <;> simp [h] <;> omega
    refine ⟨_, rfl, _, rfl, ?_⟩
    rw [h1]
    by_cases hc : 97 ≤ c
    · rw [if_pos (by simpa using hc)]
      refine ⟨_, _, .refl, ?_⟩
      rw [h2]
      have e : lowS c = decide (c ≤ 122) := by simp [lowS, hc]
      rw [← e]; exact z
    · rw [if_neg (by simpa using hc)]
      have e : lowS c = false := by simp [lowS, hc]
      rw [e] at z
      exact ⟨_, _, .refl, z⟩



abbrev sIsN : Stmt := top 9
abbrev nIsN : List Str := ["value", "sign"]
theorem scIsN : FnScope nIsN ["value"] (defScope sIsN) := ⟨rfl, rfl, rfl, by decide +kernel, rfl, by decide +kernel, by decide +kernel⟩
def nameB (s : Str) : Bool := !(decide (s ∈ Reserved)) && (decide (1 ≤ s.cps.toList.length) && decide (s.cps.toList.length ≤ 8) && s.cps.toList.all lowS)
/-- a text of any kind, or an integer -/
def isNameD : D → Bool
  | .str s => nameB s
  | _ => false
def pLet : D → Option D
  | .str x => some (.bl (x.cps.toList.all lowS))
  | _ => none
theorem pLet_map (l : List Nat) : (l.map fun c => D.str ⟨#[c]⟩).filterMap pLet = (l.map lowS).map D.bl := by
  induction l with
  | nil => rfl
  | cons c l ih => simp [pLet, ih]
inductive FIsN (ds : List D) (μ : Sto) (Q : QD) (E : XD) : Prop
  | mk (d) (a1 : ds = [d]) (a2 : ((∃ s, d = .str s ∧ s.cps.toList.length ≤ sizeLine) ∨ ∃ i, d = .int i)) (a3 : bdS μ.length μ = true) (a4 : Q (.bl (isNameD d)) μ) : FIsN ds μ Q E
theorem FIsN.mono  : MonF (FIsN) := fun ds μ Q Q' E E' h he q => match q with | .mk d a1 a2 a3 a4 => .mk d a1 a2 a3 (h _ _ a4)
theorem FIsN.len  : ∀ ds μ Q E, FIsN ds μ Q E → ds.length = 1 := fun ds μ Q E q => by obtain ⟨_, e, _, _, _⟩ := q; rw [e]; rfl
theorem cal_isn (cLet : Cal P w K mg base 1 "is_letter" FLet []) {TR_RESERVED : Addr} {tc_LONGEST : Tok} (hm_RESERVED : mg "RESERVED" = some (.ref TR_RESERVED)) (l_RESERVED : ∀ H0 : Hp, SqT K H0 TR_RESERVED (Reserved.map V.str)) (hm_LONGEST : mg "LONGEST" = some (.int 8 tc_LONGEST)) {f : Addr} {fd : FuncData} {qual : Str} (T : NoB mg) (Fu : Fun K "is_name" qual sIsN f fd) (hm : mg "is_name" = some (.ref f)) (hk : PySem.W.keepIn K (.ref f) = true) (hb : L2.Binds K fd ["value"] []) : Cal P w K mg base 2 "is_name" FIsN [] := by
  have nd := scIsN.nd
  refine cal_fun Fu scIsN hm hk hb ?_ ?_ (fun cdv A outer s H E hG hr =>
    have hu : (cxOf (L2.CX P w) P w K mg base nIsN qual (defScope sIsN) f cdv A outer s H E).A.units + 64 < cLine := by have := hr.un; show (A.deeper _).units + 64 < _; omega
    have hv : (cxOf (L2.CX P w) P w K mg base nIsN qual (defScope sIsN) f cdv A outer s H E).A.units + 1 < cLine := by omega
    have tk := takes_of (X := cxOf (L2.CX P w) P w K mg base nIsN qual (defScope sIsN) f cdv A outer s H E) (E := E) rfl rfl rfl rfl
    have pw := passes_of (X := cxOf (L2.CX P w) P w K mg base nIsN qual (defScope sIsN) f cdv A outer s H E) rfl
    (ds_cons (ds_if (DW.pt (dw_or (dt_not (dt_val (de_callB cad_isi (by rfl) T.isinstance (by decide +kernel) (da_cons (de_var 0 rfl) (da_cons (de_ty (n := "str") (by rfl) T.str (by decide +kernel)) da_nil))))) (dw_or1 (dt_cmp opd_in (de_var 0 rfl) (de_mt (by rfl) hm_RESERVED l_RESERVED))))) (ds_one (ds_ret de_bl)) ds_nil)
      (ds_one (ds_ret (de_and (de_chain opd_le opd_le de_int (de_callB cad_len (by rfl) T.len (by decide +kernel) (da_cons (de_var 0 rfl) da_nil)) (de_mi (by rfl) hm_LONGEST)) (de_one (de_callB (cad_all rfl) (by rfl) T.all (by decide +kernel) (da_cons (de_lc (own := [("sign", 1)]) rfl nd (di_str (de_var 0 rfl)) (blkOk_by (N := nIsN) (sc := defScope sIsN) (by decide +kernel)) (fun _ _ _ _ _ => (dgw_name (i := 1) nd rfl (by first | exact .inl rfl | exact .inr rfl) (by decide))) (fun _ _ _ _ _ => dts_nil) (fun _ _ _ _ _ => (de_call cLet hG hr (by decide) (by rfl) takesNW (da_cons (de_var 1 rfl) da_nil)))) da_nil)))))))) ?_
  · exact FIsN.mono
  · exact FIsN.len
  · rintro ds μ Q E ⟨d, rfl, hd, hb', z⟩
    rcases hd with ⟨s, rfl, hs⟩ | ⟨i, rfl⟩
    · refine seq_cut (fun ρ' μ' => ρ' = startD nIsN.length [D.str s] ∧ μ' = μ ∧ s ∉ Reserved) ?_ fun N hN => ?_
      · rintro _ _ ⟨rfl, rfl, hr⟩
        have len : s.length = s.cps.toList.length := by simp [Str.length]
        refine ⟨_, rfl, .inl ⟨s, rfl, by rw [len]; exact hs, _, rfl, ite_b (fun h1 => ?_) (fun h1 => ?_)⟩⟩
        · refine ⟨_, rfl, ite_b (fun h2 => ?_) (fun h2 => ?_)⟩
          · refine ⟨_, rfl, s, rfl, lc_pure pLet (fun _ => trivial) (fun x hx acc NX N0 n1 n2 => ?_) (by rw [List.length_map]; exact hs) ?_ hb' ?_⟩
            · obtain ⟨c, hc, rfl⟩ := List.mem_map.mp hx
              exact ⟨_, rfl, c, rfl, n1 _ (by simp [pLet])⟩
            · rw [pLet_map]
              exact bdL_all.mpr fun d hd => by obtain ⟨b, _, rfl⟩ := List.mem_map.mp hd; rfl
            · rw [pLet_map]
              refine ⟨_, s.cps.toList.map lowS, rfl, rfl, _, _, .refl, ?_⟩
              have e : isNameD (.str s) = (s.cps.toList.map lowS).all id := by
                have a1 : 1 ≤ s.cps.toList.length := by rw [← len]; omega
                have a2 : s.cps.toList.length ≤ 8 := by rw [← len]; omega
                simp only [isNameD, nameB, hr, a1, a2, decide_false, decide_true, Bool.not_false, Bool.true_and, List.all_map]
                rfl
              rw [← e]; exact z
          · have e : isNameD (.str s) = false := by
              have a2 : ¬ s.cps.toList.length ≤ 8 := by rw [← len]; omega
              simp only [isNameD, nameB, a2, decide_false, Bool.false_and, Bool.and_false]
            rw [e] at z
            exact ⟨_, _, .refl, z⟩
        · have e : isNameD (.str s) = false := by
            have a2 : ¬ 1 ≤ s.cps.toList.length := by rw [← len]; omega
            simp only [isNameD, nameB, a2, decide_false, Bool.false_and, Bool.and_false]
          rw [e] at z
          exact ⟨_, rfl, _, _, .refl, z⟩
      · refine ⟨_, rfl, _, _, .type "str", .type "str", true, rfl, .inr ⟨_, rfl, rfl⟩, .str s, rfl, _, rfl, ?_⟩
        refine ⟨_, rfl, Reserved.map .str, rfl, rfl, flat_strs _, _, rfl, ite_c (fun h5 => ?_) (fun h5 => ?_)⟩
        · have h5' : inDD (.str s) (Reserved.map .str) = true := h5
          rw [inDD_strs, decide_eq_true_eq] at h5'
          have e : isNameD (.str s) = false := by simp [isNameD, nameB, h5']
          rw [e] at z
          exact ⟨_, _, .refl, z⟩
        · have h5' : inDD (.str s) (Reserved.map .str) = false := h5
          rw [inDD_strs, decide_eq_false_iff_not] at h5'
          exact hN _ _ ⟨rfl, rfl, h5'⟩
    · exact ⟨_, rfl, _, _, .type "int", .type "str", false, rfl, .inr ⟨_, rfl, rfl⟩, .int i, rfl, _, rfl, _, _, .refl, z⟩

/-- only for what is a name -/
inductive FChN (ds : List D) (μ : Sto) (Q : QD) (E : XD) : Prop
  | mk (s : Str) (a1 : ds = [.str s]) (a2 : nameB s = true) (a3 : s.cps.toList.length ≤ sizeLine) (a4 : bdS μ.length μ = true) (a5 : Q .non μ) : FChN ds μ Q E
theorem FChN.mono  : MonF (FChN) := fun ds μ Q Q' E E' h he q => match q with | .mk s a1 a2 a3 a4 a5 => .mk s a1 a2 a3 a4 (h _ _ a5)
theorem FChN.len  : ∀ ds μ Q E, FChN ds μ Q E → ds.length = 1 := fun ds μ Q E q => by obtain ⟨_, e, _, _, _, _⟩ := q; rw [e]; rfl
end
end Dl

namespace Dl
open PySem PySem.Spec L2
open PyProof.Rows hiding St Binds
def Asc (s : Str) : Prop := ∀ c ∈ s.cps.toList, c < 16 ^ 8
theorem Asc.app {a b : Str} (ha : Asc a) (hb : Asc b) : Asc (a ++ b) := fun c hc => by
  have e : (a ++ b).cps.toList = a.cps.toList ++ b.cps.toList := by show (a.cps ++ b.cps).toList = _; rw [Array.toList_append]
  rw [e] at hc
  rcases List.mem_append.mp hc with h | h
  · exact ha c h
  · exact hb c h
theorem asc_of {s : Str} (h : (s.cps.toList.all fun c => decide (c < 16 ^ 8)) = true) : Asc s := fun c hc => of_decide_eq_true (List.all_eq_true.mp h c hc)
theorem asc_name {s : Str} (h : NameOk s) : Asc s := fun c hc => by
  have := (h.low c hc).2
  have : (16 : Nat) ^ 8 = 4294967296 := by decide
  omega
theorem fitW {p : PyData} (h : p.leavesShort 40 = true) (w : p.weight ≤ 300000) : p.shown.length ≤ sizeLine := by
  have := PyData.shown_le 40 (by decide) p h
  have := sizeLine_eq
  omega
theorem leaf_asc {s : Str} (h : Asc s) : PyData.leavesShort 40 (.str s) = true := List.all_eq_true.mpr fun c hc => decide_eq_true (h c hc)
theorem okR_s {s : Str} (h : Asc s) (l : s.length ≤ 300000) : okR (.str s) := by
  refine ⟨rfl, rfl, fitW (leaf_asc h) ?_, by simp [PyData.depth]⟩
  show s.cps.size ≤ 300000
  have : s.length = s.cps.size := rfl
  omega
theorem pyT_l {μ : Sto} {ds : List D} : pyT μ (.lst ds) = (pyAllS μ ds).map .list := rfl
theorem pyAllS_c {μ : Sto} {d : D} {ds : List D} {p : PyData} {ps : List PyData} (h : pyS μ d = some p) (h' : pyAllS μ ds = some ps) : pyAllS μ (d :: ds) = some (p :: ps) := by
  show (match pyS μ d, pyAllS μ ds with | some p, some ps => some (p :: ps) | _, _ => none) = _
  rw [h, h']
theorem okR_of {p : PyData} (h1 : p.showable = true) (h2 : p.hasDict = false) (h3 : p.leavesShort 40 = true) (h4 : p.weight ≤ 300000) (h5 : p.depth ≤ 10) : okR p := ⟨h1, h2, fitW h3 h4, by omega⟩
structure Itm (n : Nat) (p : PyData) : Prop where
  sh : p.showable = true
  nd : p.hasDict = false
  lv : p.leavesShort 40 = true
  w : p.weight ≤ n
  d : p.depth ≤ 5
theorem itm_all {n : Nat} : ∀ {ps : List PyData}, (∀ p ∈ ps, Itm n p) → PyData.showableAll ps = true ∧ PyData.hasDictAll ps = false ∧ PyData.leavesShortAll 40 ps = true ∧ PyData.weightAll ps ≤ (n + 1) * ps.length ∧ PyData.depthAll ps ≤ 6
  | [], _ => ⟨rfl, rfl, rfl, Nat.le_refl _, Nat.zero_le _⟩
  | p :: ps, h => by
    obtain ⟨i1, i2, i3, i4, i5⟩ := itm_all (ps := ps) fun x hx => h x (List.mem_cons_of_mem _ hx)
    obtain ⟨a1, a2, a3, a4, a5⟩ := h p List.mem_cons_self
    refine ⟨by simp [PyData.showableAll, a1, i1], by simp [PyData.hasDictAll, a2, i2], by show (_ && _) = true; rw [a3, i3]; rfl, ?_, ?_⟩
    · simp only [PyData.weightAll, List.length_cons, Nat.mul_succ]
      omega
    · simp only [PyData.depthAll]
      omega
theorem okR_items {n : Nat} {ps : List PyData} (h : ∀ p ∈ ps, Itm n p) (w : (n + 1) * ps.length ≤ 300000) : okR (.list ps) := by
  obtain ⟨i1, i2, i3, i4, i5⟩ := itm_all h
  exact okR_of i1 i2 i3 (Nat.le_trans i4 w) (by simp only [PyData.depth]; omega)
theorem itm_str {n : Nat} {s : Str} (h : Asc s) (l : s.length ≤ n) : Itm n (.str s) := ⟨rfl, rfl, leaf_asc h, l, by simp [PyData.depth]⟩
end Dl

namespace Dl
open PySem PySem.Spec L2
open PyProof.Rows hiding St Binds
section
variable {P : Program} {w : World} {K : PySem.W.Frag} {mg : Str → Option Value} {base : Heap} 
end
end Dl


namespace Dl
open PySem PySem.Spec L2
open PyProof.Rows hiding St Binds
section
variable {P : Program} {w : World} {K : PySem.W.Frag} {mg : Str → Option Value} {base : Heap} {C_BadName : Addr}
abbrev sE_BadName : Stmt := inCls (top 2) 0
abbrev eOk_BadName : List D → Sto → Prop := okX 1 [.arg 0, .txt " is no name"]
abbrev eFl_BadName : List D → List (Str × D) := flX [("name", 0)]
theorem scE_BadName : SupScope ["self", "name"] ["self", "name"] (defScope sE_BadName) := ⟨rfl, rfl, rfl, by decide +kernel, rfl, by decide +kernel, by decide +kernel, by decide +kernel, by decide +kernel, by decide +kernel⟩
theorem erc_BadName {k : Nat} {C f cda cc : Addr} {kV doc pm ct oc : Value} {an od : Option Addr} {osl : Array (Option Value)} (T : SupK P K mg C cda cc)
    (lk : K.lookup f = some ⟨oc, od, .func (PySem.W.ksFn "__init__" "BadName.__init__" (defArgs sE_BadName) (defBody sE_BadName) (defScope sE_BadName) .none kV doc pm an (.ref cda) ct cc), osl⟩)
    (hcd : PySem.W.codeIn K (.ref cda) "BadName.__init__" = true) (tI : PySem.W.typeIn K (.ref f) = some (.type "function")) (iC : PySem.W.findIn K (.ref C) "__init__" = some (some (.ref f))) (hm : mg "BadName" = some (.ref C))
    (f0 : PySem.W.findIn K (.ref C) "name" = some none) : Erc P w K mg base (k + 1) "BadName" C eOk_BadName eFl_BadName := by
  refine ⟨f, _, ["self", "name"], erc_mk 1 [.arg 0, .txt " is no name"] [("name", 0)] T lk hcd scE_BadName rfl rfl (fun env => rfl) (fun env => rfl) rfl (by simp) (fun p hp => ?_) (by simp) (fun A outer s H E hG hr => ⟨?_, ?_⟩), T.cls, iC, tI, hm, ?_⟩
  · simp only [List.mem_cons, List.not_mem_nil, or_false] at hp
    rcases hp with rfl
    · exact ⟨f0, by decide⟩
  · have hu : (cxS (L2.CX P w) P w K mg base ["self", "name"] "BadName.__init__" (defScope sE_BadName) f (.ref cda) cc A outer s H E).A.units + 64 < cLine := by have := hr.un; show (A.deeper _).units + 64 < _; omega
    exact (.cons (pe_fmtRD hG hu (pe_var (i := 1) rfl (.inl rfl))) (.cons pe_str .nil))
  · exact (pss_cons (ps_ost (pe_var (i := 0) rfl (.inl rfl)) (pe_var (i := 1) rfl (.inl rfl))) pss_nil)
  · exact .all fun us hl => match us, hl with | [_, _], _ => rfl
theorem bn_ok {s : Str} {μ : Sto} (ha : Asc s) (hl : s.length ≤ 100) : eOk_BadName [.str s] μ := by
  have h := PyData.shown_le 40 (by decide) (.str s) (leaf_asc ha)
  have sz := sizeLine_eq
  have e0 : (" is no name" : Str).length = 11 := by decide
  have w : PyData.weight (.str s) ≤ 100 := hl
  have h2 : (Str.empty ++ (PyData.str s).shown).length ≤ sizeLine - 11 := by
    rw [Str.length_append]
    show 0 + _ ≤ _
    omega
  exact ⟨rfl, .str s, .str s, rfl, rfl, okR_s ha (by omega), by omega, by rw [Str.length_append, e0]; omega, trivial⟩
abbrev sChE : Stmt := top 10
abbrev nChE : List Str := ["name"]
theorem scChE : FnScope nChE ["name"] (defScope sChE) := ⟨rfl, rfl, rfl, by decide +kernel, rfl, by decide +kernel, by decide +kernel⟩
/-- a text of any kind -/
inductive FChE (C_BadName : Addr) (ds : List D) (μ : Sto) (Q : QD) (E : XD) : Prop
  | mk (s : Str) (a1 : ds = [.str s]) (a2 : Asc s) (a3 : s.length ≤ 100) (a4 : bdS μ.length μ = true) (a5 : (nameB s = true → Q .non μ)) (a6 : (nameB s = false → E (.ref C_BadName) [("name", .str s)] μ)) : FChE C_BadName ds μ Q E
theorem FChE.mono {C_BadName : Addr} : MonF (FChE C_BadName) := fun ds μ Q Q' E E' h he q => match q with | .mk s a1 a2 a3 a4 a5 a6 => .mk s a1 a2 a3 a4 (by intros; apply h; apply a5 <;> assumption) (by intros; apply he; apply a6 <;> assumption)
theorem FChE.len {C_BadName : Addr} : ∀ ds μ Q E, FChE C_BadName ds μ Q E → ds.length = 1 := fun ds μ Q E q => by obtain ⟨_, e, _, _, _, _, _⟩ := q; rw [e]; rfl
theorem cal_che (cIsN : Cal P w K mg base 2 "is_name" FIsN []) (erc_BadName : Erc P w K mg base 1 "BadName" C_BadName eOk_BadName eFl_BadName) {f : Addr} {fd : FuncData} {qual : Str} (T : NoB mg) (Fu : Fun K "check_name" qual sChE f fd) (hm : mg "check_name" = some (.ref f)) (hk : PySem.W.keepIn K (.ref f) = true) (hb : L2.Binds K fd ["name"] []) : Cal P w K mg base 3 "check_name" (FChE C_BadName) [] := by
  have nd := scChE.nd
  refine cal_fun Fu scChE hm hk hb ?_ ?_ (fun cdv A outer s H E hG hr =>
    have hu : (cxOf (L2.CX P w) P w K mg base nChE qual (defScope sChE) f cdv A outer s H E).A.units + 64 < cLine := by have := hr.un; show (A.deeper _).units + 64 < _; omega
    have hv : (cxOf (L2.CX P w) P w K mg base nChE qual (defScope sChE) f cdv A outer s H E).A.units + 1 < cLine := by omega
    have tk := takes_of (X := cxOf (L2.CX P w) P w K mg base nChE qual (defScope sChE) f cdv A outer s H E) (E := E) rfl rfl rfl rfl
    have pw := passes_of (X := cxOf (L2.CX P w) P w K mg base nChE qual (defScope sChE) f cdv A outer s H E) rfl
    (ds_one (ds_if (dt_not (dt_val (de_call cIsN hG hr (by decide) (by rfl) tk (da_cons (de_var 0 rfl) da_nil)))) (ds_one (ds_raise erc_BadName rfl hG hr (by decide) (by rfl) tk passL (da_cons (de_var 0 rfl) da_nil))) ds_nil))) ?_
  · exact FChE.mono
  · exact FChE.len
  · rintro ds μ Q E ⟨s, rfl, ha, hl, hb', z, z2⟩
    have sz := sizeLine_eq
    refine ⟨_, rfl, .str s, rfl, .inl ⟨s, rfl, by have : s.length = s.cps.toList.length := by simp [Str.length]
                                                  omega⟩, hb', _, rfl, ?_⟩
    show (if (!nameB s) = true then _ else _)
    cases hn : nameB s with
    | true => exact ⟨_, _, .refl, z hn⟩
    | false => exact ⟨_, rfl, by show 1 ≤ 1000; omega, bn_ok ha hl, _, [], (List.append_nil _).symm, Nat.le_refl _, rfl, hb', z2 hn⟩

end
end Dl

namespace Dl
open PySem PySem.Spec L2
open PyProof.Rows hiding St Binds
section
variable {X : Cx} {W : WX} {kx vx tg iter : Expr} {ifs : List Expr} {scope : Scope} {own : List (Str × Nat)} {pos : Pos} {fi : FI} {tgf : FG} {ft : FT} {fk fv : FE} {vs : List Nat}
/-- {k: v for .. in a list or a tuple} -/
def fDcS (fi : FI) (tgf : FG) (ft : FT) (fk fv : FE) (vs : List Nat) : FE := fun ρ μ Q E => fi ρ μ (fun xs st m => DcI tgf ft fk fv vs xs st ρ m Q) E
theorem de_dcS (hc : X.calm = true) (hN : X.N.Nodup) (hi : DI X W tg iter fi) (ok : BlkOk X.N X.env.scope scope own)
    (hg : ∀ (s : Shared) (H : Hp) (C : Addr) (cl : List (Str × Addr)) (fp : List Addr), DGw (X.blk s H scope (compEnvC scope cl C X.env) fp) tg (own.map (·.2)) tgf)
    (ht : ∀ (s : Shared) (H : Hp) (C : Addr) (cl : List (Str × Addr)) (fp : List Addr), DTs (X.blk s H scope (compEnvC scope cl C X.env) fp) ifs ft)
    (hk : ∀ (s : Shared) (H : Hp) (C : Addr) (cl : List (Str × Addr)) (fp : List Addr), DE (X.blk s H scope (compEnvC scope cl C X.env) fp) NW kx fk)
    (he : ∀ (s : Shared) (H : Hp) (C : Addr) (cl : List (Str × Addr)) (fp : List Addr), DE (X.blk s H scope (compEnvC scope cl C X.env) fp) NW vx fv)
    (hs : ∀ x, foldedSetIterable iter X.env x = pure x := by intro _; rfl) : DE X W (.DictComp kx vx [⟨tg, iter, ifs, 0⟩] scope pos) (fDcS fi tgf ft fk fv (own.map (·.2))) :=
  ⟨fun ρ μ Q Q' E E' h he q => hi.mono ρ μ _ _ E E' (fun xs st m ⟨I, h0, h1, h2, h3⟩ => ⟨I, h0, h1, h2, fun μ' z => let ⟨d2, μ2, e, q⟩ := h3 μ' z; ⟨d2, μ2, e, h _ _ q⟩⟩) he q,
   PE.imp (pe_dc (pos := pos) (g := rdG X.K (own.map (·.2)) tgf) (tt := rdT X.K NW ft) (tk := rdE X.K NW fk) (tv := rdE X.K NW fv) hc hN hi.run ok (fun s H C cl fp => (hg s H C cl fp).run) (fun s H C cl fp => (ht s H C cl fp).run) (fun s H C cl fp => (hk s H C cl fp).run) (fun s H C cl fp => (he s H C cl fp).run) hs)
    fun σ H Q ⟨ι, ρ, μ, r, l, q⟩ => ⟨ι, ρ, μ, r, l, hi.mono ρ μ _ _ _ _ (fun xs st m z ι1 H1 J g1 r1 wk => dc_core2 (hg X.s_0 X.H_0 0 [] []).mono (ht X.s_0 X.H_0 0 [] []).mono (hk X.s_0 X.H_0 0 [] []).mono (he X.s_0 X.H_0 0 [] []).mono r1 (l.gr g1) wk (fun d μ' q => QV.gr g1 q) z) (fun _ _ _ z => z) q⟩⟩
end
section
variable {g : FG} {ft : FT} {fk fv : FE} {ρ : Rho} {vs : List Nat} {Q : QD}
end
end Dl

namespace Dl
open PySem PySem.Spec L2
open PyProof.Rows hiding St Binds
/-! conditions worked out over numbers that stand for words -/
abbrev alw : Str := "always"
abbrev nev : Str := "never"
def Tr.val (f : Str → Nat) : Tr → Nat
  | .is s => f s | .al => f alw | .nv => f nev | .no t => f alw ^^^ t.val f | .an a b => b.val f &&& a.val f | .or a b => b.val f ||| a.val f
/-- the names of a tree, from the left -/
def Tr.nms : Tr → List Str
  | .is s => [s] | .al => [] | .nv => [] | .no t => t.nms | .an a b => a.nms ++ b.nms | .or a b => a.nms ++ b.nms
/-! texts in order -/
theorem ltCps_total {a b : List Nat} (h1 : ltCps a b = false) (h2 : ltCps b a = false) : a = b := by
  rw [ltCps_eq, decide_eq_false_iff_not] at h1 h2
  exact List.le_antisymm (List.not_lt.mp h2) (List.not_lt.mp h1)
theorem str_ext {a b : Str} (h : a.cps.toList = b.cps.toList) : a = b := by
  cases a with
  | mk x => cases b with
    | mk y => have : x = y := Array.toList_inj.mp h; rw [this]
theorem rising_all : ∀ (l : List Str) (p : Str), risingS p l = true → ∀ x ∈ l, ltCps x.cps.toList p.cps.toList = false
  | [], _, _, _, h => by cases h
  | y :: l, p, h, x, hx => by
    have h : (!ltCps y.cps.toList p.cps.toList && risingS y l) = true := h
    rw [Bool.and_eq_true, Bool.not_eq_true'] at h
    rcases List.mem_cons.mp hx with rfl | hx
    · exact h.1
    · have q := rising_all l y h.2 x hx
      have h1 := h.1
      rw [ltCps_eq, decide_eq_false_iff_not] at h1 q ⊢
      exact fun z => by
        rw [List.not_lt] at h1 q
        exact absurd z (List.not_lt.mpr (List.le_trans h1 q))
theorem sorted_tail {x : Str} {l : List Str} (h : sortedS (x :: l) = true) : sortedS l = true := by
  cases l with
  | nil => rfl
  | cons y l =>
    have h : (!ltCps y.cps.toList x.cps.toList && risingS y l) = true := h
    rw [Bool.and_eq_true] at h
    exact h.2
/-- one order, no doubles: one list -/
theorem sorted_one : ∀ (l r : List Str), l.Nodup → r.Nodup → sortedS l = true → sortedS r = true → (∀ x, x ∈ l ↔ x ∈ r) → l = r
  | [], r, _, _, _, _, h => by
    cases r with
    | nil => rfl
    | cons y r => exact absurd ((h y).mpr List.mem_cons_self) (by simp)
  | x :: l, r, n1, n2, s1, s2, h => by
    cases r with
    | nil => exact absurd ((h x).mp List.mem_cons_self) (by simp)
    | cons y r =>
      have a1 : ∀ z ∈ l, ltCps z.cps.toList x.cps.toList = false := rising_all l x s1
      have a2 : ∀ z ∈ r, ltCps z.cps.toList y.cps.toList = false := rising_all r y s2
      have e : x = y := by
        rcases List.mem_cons.mp ((h x).mp List.mem_cons_self) with e | m1
        · exact e
        · rcases List.mem_cons.mp ((h y).mpr List.mem_cons_self) with e | m2
          · exact e.symm
          · exact str_ext (ltCps_total (a2 x m1) (a1 y m2))
      subst e
      obtain ⟨x1, n1⟩ := List.nodup_cons.mp n1
      obtain ⟨x2, n2⟩ := List.nodup_cons.mp n2
      rw [sorted_one l r n1 n2 (sorted_tail s1) (sorted_tail s2) fun z => ⟨fun m => ?_, fun m => ?_⟩]
      · rcases List.mem_cons.mp ((h z).mp (List.mem_cons_of_mem _ m)) with e | m'
        · exact absurd (e ▸ m) x1
        · exact m'
      · rcases List.mem_cons.mp ((h z).mpr (List.mem_cons_of_mem _ m)) with e | m'
        · exact absurd (e ▸ m) x2
        · exact m'
end Dl

namespace Dl
open PySem PySem.Spec L2
open PyProof.Rows hiding St Binds
/-! what stands in a dict behind a write -/
/-! whether a condition holds -/
def Tr.hold (S : Str → Bool) : Tr → Bool
  | .is s => S s | .al => true | .nv => false | .no t => !t.hold S | .an a b => a.hold S && b.hold S | .or a b => a.hold S || b.hold S
theorem ds_try1b {X : Cx} {Wout : WX} {x n : Str} {C : Addr} {i : Nat} {body suite : List Stmt} {b₀ : Stmt} {np pos pos' : Pos} {fb : FS} {word : Str} {fs : List Str}
    (hs : X.stack = X.env :: X.outer) (hf : X.env.frame = some X.env.locals) (hN : X.N.Nodup) (hi : X.N[i]? = some n) (hln : X.env.kindOf n = some .local) (hc : Names X x (.ref C)) (tk : Takes X Wout)
    (hb0 : DB X Wout body fb) (hb : ∀ (W : WX) (pn : List (Addr × Obj)) (xe : Value → Shared → Prop), Takes (X.tr pn xe) W → PassesOwn (model X.prog X.w) X.A X.env xe → DB (X.tr pn xe) W body fb)
    (hsu : ∀ (a : Addr) (oe : Obj) (cls : Value) (d : Option Addr) (pn : List (Addr × Obj)), Zc cls d oe → (∃ vs, oe.data = .fields vs) → PSs (X.suite a ((a, oe) :: pn)) (b₀ :: suite) (tSeq (tRet (tTup (tCons (tC (.str word)) (tXfs a cls d C i fs)))) tNext)) {K : PySem.W.Frag} (hK : X.K = K := by rfl) :
    DS X Wout (.Try body [.ExceptHandler (some (.Name x np)) (some n) (b₀ :: suite) pos'] [] [] pos) (fTry1 K C i word fs fb) := hK ▸
  ds_try1 hs hf hN hi hln hc tk hb0.mono hb hsu
theorem perm_erase {α : Type} : ∀ (l : List α) (i : Nat) (h : i < l.length), (l[i] :: l.eraseIdx i).Perm l
  | x :: l, 0, h => by simp
  | x :: l, i + 1, h => by
    have h' : i < l.length := by simpa using h
    show (l[i] :: x :: l.eraseIdx i).Perm (x :: l)
    exact (List.Perm.swap x l[i] _).trans (List.Perm.cons x (perm_erase l i h'))
end Dl

namespace Dl
open PySem PySem.Spec L2
open PyProof.Rows hiding St Binds
section
variable {X : Cx} {W : WX} {o : Expr} {pos : Pos} {fo : FE} {C : Addr} {F : FD} {j k : Nat}
end
section
variable {X : Cx} {W : WX} {a : Expr} {ta : TE} {p p2 q pos : Pos} {f : FE}
end
/-! lists of texts among data -/
end Dl

/-! try with several clauses that name the error -/
namespace Dl
open PySem PySem.Spec L2
open PyProof.Rows hiding St Binds
structure Cl1 where
  x : Str
  n : Str
  np : Pos
  p : Pos
  c : Value
  i : Nat
  b0 : Stmt
  bs : List Stmt
  ts : Addr → Value → Option Addr → TS
def Cl1.h (q : Cl1) : ExceptHandler := .ExceptHandler (some (.Name q.x q.np)) (some q.n) (q.b0 :: q.bs) q.p
structure Cl1.ok (X : Cx) (q : Cl1) : Prop where
  ix : X.N[q.i]? = some q.n
  lo : X.env.kindOf q.n = some .local
  nm : Names X q.x q.c
  su : ∀ (a : Addr) (oe : Obj) (cls : Value) (d : Option Addr) (pn : List (Addr × Obj)), Zc cls d oe → (∃ vs, oe.data = .fields vs) → PSs (X.suite a ((a, oe) :: pn)) (q.b0 :: q.bs) (q.ts a cls d)
/-- behind a clause's suite its name goes -/
def offN (i : Nat) (D : Ends) : Ends := { nx := fun σ' H' => D.nx (σ'.set i none) H', rt := D.rt, bk := fun σ' H' => D.bk (σ'.set i none) H', ct := fun σ' H' => D.ct (σ'.set i none) H' }
def wCls (K : PySem.W.Frag) (Wout : WX) (D : Ends) : List Cl1 → WX
  | [] => Wout
  | q :: r => fun cls d σ H => ∃ b, PySem.W.exmOne K cls q.c = some b ∧ (b = true → ∀ a, H a = none → q.ts a cls d (offN q.i D) (σ.set q.i (some (.ref a))) H) ∧ (b = false → wCls K Wout D r cls d σ H)
section
variable {X : Cx} {Wout : WX} {body : List Stmt} {pos : Pos} {tb : WX → TS} {pins : List (Addr × Obj)} {De : Ends} {B : Heap} {sI s' : Shared} {h3 : Heap} {σ' : L2.St} {H' : Hp} {cls : Value} {d : Option Addr} {a : Addr}
/-- a caught error stands before clauses -/
theorem cls_go (hs : X.stack = X.env :: X.outer) (hf : X.env.frame = some X.env.locals) (hN : X.N.Nodup) (tk : Takes X Wout) (J : Inv X pins σ' H' sI) (nb : ∀ b o, sI.heap.get? b = some o → b ∉ frs X.stack → B.get? b = some o)
    (up : sI.heap.UpToSlots h3) (fl : HandSPX.FlyingZ B (X.env :: X.outer) a (Zc cls d) h3) (na : H' a = none) (os : s'.os = sI.os) (ag : AllBare s'.gens) :
    ∀ l : List Cl1, (∀ q ∈ l, q.ok X) → wCls X.K Wout De l cls d σ' H' → wpAny (model X.prog X.w) X.A (handleBy (.ref a) X.env (l.map Cl1.h)) (SP X pins De) X.xe { s' with heap := h3 }
  | [], _, w => by
    refine wpAny_handleBy_nil ?_
    obtain ⟨k1, k2, k3, oe, vs, T, oT, ts', he, hz, hd, h1, hr⟩ := id fl
    have fin : wpAny (model X.prog X.w) X.A (setFlight (.ref a) X.env.frame) (fun _ s4 => wpAny (model X.prog X.w) X.A (throw (.ref a) : Sem Flow) (SP X pins De) X.xe s4) X.xe { s' with heap := h3 } := by
      rw [hf]
      exact HandSPX.setFlight_upZ fl fun h4 hh4 up4 => wpAny_throw (tk _ _ ⟨a, B, sI, pins, σ', H', cls, d, rfl, J, nb, up.trans up4, .inr (.inr (by rw [hs]; exact hh4)), na, os, ag, w⟩)
    unfold PySem.passOn; refine wpAny_bind (wpAny_field he hd h1 ?_); rw [if_neg (show ¬ ((Value.ref T == Value.none) = true) by simp)]
    first | exact wpAny_bind (wpAny_pure (wpAny_bind fin)) | exact wpAny_bind fin
  | q :: l, ok, ⟨b, hb1, hyes, hno⟩ => by
    have Q := ok q List.mem_cons_self
    have J3 : Inv X pins σ' H' { s' with heap := h3 } := J.landed nb fl.1 up os ag
    obtain ⟨oe3, vs3, he3, hz3, hd3⟩ := fl.there
    have nfr : a ∉ frs (X.env :: X.outer) := fun hm => by
      obtain ⟨_, o', e', hnf⟩ := fl.2.2.1.mem hm
      rw [he3] at e'; cases e'; exact hnf _ hd3
    have nL : a ≠ X.env.locals := fun z => nfr (List.mem_filterMap.mpr ⟨X.env, .head _, by rw [hf, z]⟩)
    have nF : a ∉ X.fs := fun hm => by
      obtain ⟨e, he, h⟩ := List.mem_filterMap.mp hm
      exact nfr (List.mem_filterMap.mpr ⟨e, .tail _ he, h⟩)
    have S3 := J3.suite he3 hd3 na nL nF
    have lt : PySem.W.Looks (model X.prog X.w) h3 (typeOf (.ref a)) cls := fun A Q E s k h => wpAny_typeOf_ref (k _ _ he3) (by rw [hz3.1]; exact h)
    have lm := PySem.W.exm_one (M := model X.prog X.w) J3.kIn lt hb1
    have look : ∀ {Q : Value → Shared → Prop} {E : Value → Shared → Prop}, Q q.c { s' with heap := h3 } → wpAny (model X.prog X.w) (X.A.mark (some (.ref a))) (eval (.Name q.x q.np) X.env) Q E { s' with heap := h3 } := fun {Q' E'} h => by
      obtain ⟨hg, hd, hm | ⟨hm, hv, hn⟩⟩ := Q.nm
      · exact ld_glob (X := X.suite a ((a, oe3) :: (X.pn ++ pins))) S3 hg hm h hd
      · exact ld_blt (X := X.suite a ((a, oe3) :: (X.pn ++ pins))) S3 hg hm hv h hn hd
    show wpAny _ X.A (handleBy (.ref a) X.env (.ExceptHandler (some (.Name q.x q.np)) (some q.n) (q.b0 :: q.bs) q.p :: l.map Cl1.h)) _ _ _
    refine wpAny_handleBy_cons (codeAny_handlers_test (look (lm.here ?_))) (by intro z; cases z)
    cases b with
    | false => exact cls_go hs hf hN tk J nb up fl na os ag l (fun q hq => ok q (List.mem_cons_of_mem _ hq)) (hno rfl)
    | true =>
      refine codeAny_handlers_suite_as (HandSPX.lands_againZ fl fun h4 fl4 up4 => ?_)
      have J4 : Inv X pins σ' H' { s' with heap := h4 } := J.landed nb fl4.1 (up.trans up4) os ag
      obtain ⟨oe4, vs4, he4, hz4, hd4⟩ := fl4.there
      have S4 := J4.suite he4 hd4 na nL nF
      refine store_ok (X := X.suite a ((a, oe4) :: (X.pn ++ pins))) (v := .ref a) S4 hN Q.ix (.inl Q.lo) rfl (fun s5 S5 => ?_) (.inr Q.lo)
      have off : ∀ {s6 : Shared} {σ6 : L2.St} {H6 : Hp} {R : Shared → Prop}, Inv (X.suite a ((a, oe4) :: (X.pn ++ pins))) [] σ6 H6 s6 → (∀ s7, Inv X pins (σ6.set q.i none) H6 s7 → R s7) →
          wpAny (model X.prog X.w) X.A (do bindName X.env q.n .none; unbindBehindTheSuite X.env q.n q.p) (fun _ s7 => R s7) X.xe s6 := fun {s6 σ6 H6 R} S6 h => gone_ok (S6.unsuite J.ok) hN Q.ix Q.lo h
      refine wpAny_mono ((Q.su a oe4 cls d (X.pn ++ pins) hz4 ⟨_, hd4⟩).run [] s5 _ H' _ S5 (hyes rfl a na)) (fun f s6 sp => ?_) fun _ _ z => z.elim
      match f, sp with
      | .next, ⟨σ6, H6, S6, q6⟩ => exact off S6 fun s7 J7 => ⟨_, _, J7, q6⟩
      | .brk, ⟨σ6, H6, S6, q6⟩ => exact off S6 fun s7 J7 => ⟨_, _, J7, q6⟩
      | .cont, ⟨σ6, H6, S6, q6⟩ => exact off S6 fun s7 J7 => ⟨_, _, J7, q6⟩
      | .ret u, ⟨v6, σ6, H6, S6, r6, q6⟩ => exact off S6 fun s7 J7 => ⟨_, _, _, J7, r6, q6⟩
theorem ps_tryM (hs : X.stack = X.env :: X.outer) (hf : X.env.frame = some X.env.locals) (hN : X.N.Nodup) (tk : Takes X Wout) (q0 : Cl1) (l : List Cl1) (ok : ∀ q ∈ q0 :: l, q.ok X)
    (hb : ∀ (W : WX) (pn : List (Addr × Obj)) (xe : Value → Shared → Prop), Takes (X.tr pn xe) W → PassesOwn (model X.prog X.w) X.A X.env xe → PSs (X.tr pn xe) body (tb W)) :
    PS X (.Try body ((q0 :: l).map Cl1.h) [] [] pos) (fun D σ H => tb (wCls X.K Wout D (q0 :: l)) D σ H) := ⟨fun pins s σ H D I h => by
  have hfr : X.A.frames = some (X.env :: X.outer) := by rw [I.ok.frames, hs]
  have caught : Takes (X.tr (X.pn ++ pins) (fun e s₁ => wpAny (model X.prog X.w) X.A (noteFrame e X.env) (fun _ s₂ => wpAny (model X.prog X.w) X.A (setFlight e none) (fun _ s₃ =>
      wpAny (model X.prog X.w) X.A (handleBy e X.env ((q0 :: l).map Cl1.h)) (SP X pins D) X.xe s₃) X.xe s₂) X.xe s₁)) (wCls X.K Wout D (q0 :: l)) := fun u s' xx => by
    obtain ⟨a, B, sI, pins', σ', H', cls, d, rfl, J', nb, up, sky, na, os, ag, w⟩ := xx
    have sky' : Sky B (X.env :: X.outer) a (Zc cls d) X.env.locals s'.heap := by rw [← hs]; exact sky
    exact Sky.land Zc.steady hfr hf sky' fun h3 fl3 up3 => cls_go hs hf hN tk (J'.ofTry I.ok) nb (up.trans up3) fl3 na os ag (q0 :: l) ok w
  refine wpAny_Try_except (wpAny_mono ((hb _ _ _ caught PassesOwn.looking).run [] s σ H D (I.toTry _) h) (fun f s1 sp => ?_) fun e s1 he => he)
  match f, sp with
  | .next, ⟨σ', H', J', q⟩ => exact wpAny_execs_nil ⟨σ', H', J'.ofTry I.ok, q⟩
  | .brk, ⟨σ', H', J', q⟩ => exact ⟨σ', H', J'.ofTry I.ok, q⟩
  | .cont, ⟨σ', H', J', q⟩ => exact ⟨σ', H', J'.ofTry I.ok, q⟩
  | .ret u, ⟨v, σ', H', J', r, q⟩ => exact ⟨v, σ', H', J'.ofTry I.ok, r, q⟩⟩
end
end Dl

namespace Dl
open PySem PySem.Spec L2
open PyProof.Rows hiding St Binds
/-- except C as e (slot i): return (word, e.f, ..), or slot j = (word, e.f, ..) -/
structure Cd where
  x : Str
  n : Str
  np : Pos
  p : Pos
  C : Addr
  i : Nat
  word : Str
  fs : List Str
  to : Option Nat
  b0 : Stmt
  bs : List Stmt
def cdT (q : Cd) (a : Addr) (cls : Value) (d : Option Addr) : TE := tTup (tCons (tC (.str q.word)) (tXfs a cls d q.C q.i q.fs))
def Cd.cl (q : Cd) : Cl1 := ⟨q.x, q.n, q.np, q.p, .ref q.C, q.i, q.b0, q.bs, fun a cls d => match q.to with
  | none => tSeq (tRet (cdT q a cls d)) tNext
  | some j => tSeq (tAsg (cdT q a cls d) (gName j)) tNext⟩
/-- where a caught error leads -/
def exM (K : PySem.W.Frag) (A : DK) : List Cd → ED
  | [] => A.ex
  | q :: r => fun cls l ρ' m => ∃ b, PySem.W.exmOne K cls (.ref q.C) = some b ∧
    (b = true → cls = .ref q.C ∧ q.i < ρ'.length ∧ ∃ ds, getF l q.fs = some ds ∧ ds.length < 1000 ∧ (match q.to with
      | none => A.rt (.tup (.str q.word :: ds)) m
      | some j => A.nx (((ρ'.set q.i (some (.ref 0))).set j (some (.tup (.str q.word :: ds)))).set q.i none) m)) ∧
    (b = false → exM K A r cls l ρ' m)
theorem exM_mono {K : PySem.W.Frag} {A B : DK} (le : A.le B) : ∀ (l : List Cd) (c : Value) (f : List (Str × D)) (ρ : Rho) (m : Sto), exM K A l c f ρ m → exM K B l c f ρ m
  | [], c, f, ρ, m, h => le.ex c f ρ m h
  | q :: r, c, f, ρ, m, ⟨b, e, y, z⟩ => ⟨b, e, fun h => by
      obtain ⟨y1, y2, ds, y3, y4, y5⟩ := y h
      refine ⟨y1, y2, ds, y3, y4, ?_⟩
      cases q with
      | mk x n np p C i word fs to b0 bs =>
        cases to with
        | none => exact le.rt _ _ y5
        | some j => exact le.nx _ _ y5, fun h => exM_mono le r c f ρ m (z h)⟩
def fTryM (K : PySem.W.Frag) (l : List Cd) (fb : FS) : FS := fun A ρ μ => fb { A with ex := exM K A l } ρ μ
theorem Loc.wipe1 {K : PySem.W.Frag} {ι : Io} {H : Hp} {σ : L2.St} {ρ : Rho} (h : Loc K ι H σ ρ) (i : Nat) : Loc K ι H (σ.set i none) (ρ.set i none) := by
  refine ⟨by simp [h.1], fun j d e => ?_⟩
  by_cases hj : i = j
  · subst hj
    by_cases hl : i < ρ.length
    · rw [List.getElem?_set_self hl] at e; cases e
    · rw [List.getElem?_eq_none (by simp; omega)] at e; cases e
  · rw [List.getElem?_set_ne hj] at e
    obtain ⟨v, e1, a⟩ := h.2 j d e
    exact ⟨v, by rw [List.getElem?_set_ne hj]; exact e1, a⟩
section
variable {X : Cx} {Wout : WX} {body : List Stmt} {pos : Pos} {fb : FS}
theorem wcls_of {De : Ends} {ι : Io} {H : Hp} : ∀ (l : List Cd) (cls : Value) (lf : List (Str × D)) (ρ' : Rho) (m : Sto), exM X.K (KV X.K Wout ι H De) l cls lf ρ' m →
    ∀ ι' H' dd fv σ', Gr ι H ι' H' → Rep X.K ι' m H' → H' dd = some (.xd fv) → Pts X.K ι' H' fv lf → Loc X.K ι' H' σ' ρ' → wCls X.K Wout De (l.map Cd.cl) cls (some dd) σ' H'
  | [], cls, lf, ρ', m, h, ι', H', dd, fv, σ', g, r, hd, p, l' => h ι' H' dd fv σ' g r hd p l'
  | q :: l, cls, lf, ρ', m, ⟨b, e, y, z⟩, ι', H', dd, fv, σ', g, r, hd, p, l' => by
    refine ⟨b, e, fun h a na => ?_, fun h => wcls_of l cls lf ρ' m (z h) ι' H' dd fv σ' g r hd p l'⟩
    obtain ⟨rfl, y2, ds, y3, y4, y5⟩ := y h
    cases q with
    | mk x n np p0 C i word fs to b0 bs =>
      have h0 : (σ'.set i (some (.ref a)))[i]? = some (some (.ref a)) := by rw [List.getElem?_set_self (by rw [l'.1]; exact y2)]
      have tupS : ∀ (R : VK), (∀ pt vs, H' pt = none → Ats X.K ι' H' vs ds → R (.ref pt) (upd H' pt (.tup (.str word :: vs)))) → tTup (tCons (tC (.str word)) (tXfs a (.ref C) (some dd) C i fs)) (σ'.set i (some (.ref a))) H' R := fun R k =>
        sem_xfs h0 hd p fs ds y3 _ fun vs as_ => ⟨by rw [List.length_cons, as_.1, sizeLine_eq]; omega, fun pt hp => k pt vs hp as_⟩
      cases to with
      | none =>
        refine tupS _ fun pt vs hp as_ => ?_
        have gn := Gr.new (o := .tup (.str word :: vs)) hp (r.free hp)
        have at_ : Ats X.K ι' (upd H' pt (.tup (.str word :: vs))) (.str word :: vs) (.str word :: ds) := Ats.cons (.str word) (as_.gr gn)
        exact y5 ι' _ _ (g.trans gn) (r.new hp) (.tup (.inl upd_same) (r.free hp) at_.1 at_.2)
      | some j =>
        refine tupS (fun v H1 => De.nx (((σ'.set i (some (.ref a))).set j (some v)).set i none) H1) fun pt vs hp as_ => ?_
        have gn := Gr.new (o := .tup (.str word :: vs)) hp (r.free hp)
        have at_ : Ats X.K ι' (upd H' pt (.tup (.str word :: vs))) (.str word :: vs) (.str word :: ds) := Ats.cons (.str word) (as_.gr gn)
        have lo : Loc X.K ι' (upd H' pt (.tup (.str word :: vs))) ((σ'.set i (some (.ref a))).set j (some (.ref pt))) ((ρ'.set i (some (.ref a))).set j (some (.tup (.str word :: ds)))) :=
          ((l'.gr gn).set (.ref a) i).set (.tup (.inl upd_same) (r.free hp) at_.1 at_.2) j
        have lo2 := lo.wipe1 i
        refine y5 ι' _ _ (g.trans gn) (r.new hp) ?_
        refine ⟨by rw [lo2.1]; simp, fun k d ek => ?_⟩
        by_cases hki : i = k
        · subst hki
          rw [List.getElem?_set_self (by simpa using y2)] at ek; cases ek
        · rw [List.getElem?_set_ne hki] at ek
          refine lo2.2 k d ?_
          rw [List.getElem?_set_ne hki]
          by_cases hkj : j = k
          · subst hkj
            have hl : j < ρ'.length := by have := (List.getElem?_eq_some_iff.mp ek).1; simpa using this
            rw [List.getElem?_set_self (by simpa using hl)] at ek ⊢
            exact ek
          · rw [List.getElem?_set_ne hkj, List.getElem?_set_ne hki] at ek ⊢
            exact ek
theorem ds_tryM (hs : X.stack = X.env :: X.outer) (hf : X.env.frame = some X.env.locals) (hN : X.N.Nodup) (tk : Takes X Wout) (q0 : Cd) (l : List Cd) (ok : ∀ q ∈ q0 :: l, q.cl.ok X) (hb0 : DB X Wout body fb)
    (hb : ∀ (W : WX) (pn : List (Addr × Obj)) (xe : Value → Shared → Prop), Takes (X.tr pn xe) W → PassesOwn (model X.prog X.w) X.A X.env xe → DB (X.tr pn xe) W body fb) {K : PySem.W.Frag} (hK : X.K = K := by rfl) :
    DS X Wout (.Try body ((q0 :: l).map fun q => q.cl.h) [] [] pos) (fTryM K (q0 :: l) fb) := by
  subst hK
  have run := ps_tryM (pos := pos) (tb := fun W => rdS X.K W fb) hs hf hN tk q0.cl (l.map Cd.cl) (fun q hq => by
    have hq : q ∈ (q0 :: l).map Cd.cl := hq
    obtain ⟨q', h1, rfl⟩ := List.mem_map.mp hq
    exact ok q' h1) (fun W pn xe t p => (hb W pn xe t p).run)
  have e : (q0.cl :: l.map Cd.cl).map Cl1.h = (q0 :: l).map fun q => q.cl.h := by simp
  rw [e] at run
  refine ⟨fun ρ μ A B le q => hb0.mono ρ μ { A with ex := exM X.K A (q0 :: l) } { B with ex := exM X.K B (q0 :: l) } ⟨le.nx, le.rt, fun c f ρ' m h => exM_mono le (q0 :: l) c f ρ' m h, le.bk, le.ct⟩ q, PS.imp run fun De σ H ⟨ι, ρ, μ, r, lo, q⟩ => ⟨ι, ρ, μ, r, lo, hb0.mono ρ μ { KV X.K Wout ι H De with ex := exM X.K (KV X.K Wout ι H De) (q0 :: l) } _ ⟨fun ρ m z => z, fun d m z => z, fun cls lf ρ' m h => ?_, fun ρ m z => z, fun ρ m z => z⟩ q⟩⟩
  exact wcls_of (q0 :: l) cls lf ρ' m h
end
end Dl

/-! lists of lists in the store -/
namespace Dl
open PySem PySem.Spec L2
open PyProof.Rows hiding St Binds
theorem ap_get {μ : Sto} {a : CT} : (μ ++ [a])[μ.length]? = some a := by simp
theorem ap_set {μ : Sto} {a b : CT} : (μ ++ [a]).set μ.length b = μ ++ [b] := by rw [List.set_append_right _ _ (Nat.le_refl _), Nat.sub_self]; rfl
/-- new cells behind -/
theorem okRest.more {rest ν : Sto} (h : okRest rest) (b : bdS (rest.length + ν.length + 2) ν = true) : okRest (rest ++ ν) := by
  unfold okRest at h ⊢
  rw [bdS_app, List.length_append, b, Bool.and_true]
  exact bdS_mono (by omega) h
section
variable {g : FG} {ft : FT} {fe : FE} {ρ : Rho} {vs : List Nat} {Q : QD} {NE : Value → List (Str × D) → Rho → Sto → Prop}
end
end Dl

/-! repr of lists and tuples whose items hold cells themselves -/
namespace Dl
open PySem PySem.Spec L2
open PyProof.Rows hiding St Binds
section
variable {K : PySem.W.Frag} {ι : Io} {H : Hp} {μ : Sto}
end
end Dl

/-! == and != of data with texts of any signs -/
namespace Dl
open PySem PySem.Spec L2
open PyProof.Rows hiding St Binds
section
variable {X : Cx}
end
end Dl

/-! sorted(texts, key=str) -/
namespace Dl
open PySem PySem.Spec L2
open PyProof.Rows hiding St Binds
def isT (v : Value) (x : Str) : Prop := ∃ t, v = Value.str x t
theorem each_strs : ∀ {ss : List Str} {us : List Value}, Vals (ss.map V.str) us → W.EachIs isT us ss
  | [], _, .nil => .nil
  | _ :: _, _, .cons r rs => .cons r (each_strs rs)
theorem vals_each : ∀ {ss : List Str} {us : List Value}, W.EachIs isT us ss → Vals (ss.map V.str) us
  | [], _, .nil => .nil
  | _ :: _, _, .cons r rs => .cons r (vals_each rs)
def ordS (ss : List Str) : List Str := ss.mergeSort (W.dataLe false PyData.str)
theorem ordS_perm (ss : List Str) : (ordS ss).Perm ss := List.mergeSort_perm _ _
theorem ordS_sorted (ss : List Str) : sortedS (ordS ss) = true := by
  refine sortedS_of_pairwise _ ((W.sort_pairwise (W.sortLe_total _ _ _) ss).imp fun {a b} h => ?_)
  have h' : (!lexLt itemOrd [.inr b.cps.toList] [.inr a.cps.toList]) = true := h
  rw [Bool.not_eq_true'] at h'
  have h2 : (itemLt (.inr b.cps.toList) (.inr a.cps.toList) || (!itemLt (.inr a.cps.toList) (.inr b.cps.toList) && false)) = false := h'
  rw [Bool.and_false, Bool.or_false] at h2
  rw [ltCps_eq]
  exact h2
def rSKey (K : PySem.W.Frag) : List V → List V → Hp → VK → Prop := fun vs zs H Q => ∃ (a : Addr) (ss : List Str), vs = [.ref a] ∧ zs = [.ty "str"] ∧ SqL K H a (ss.map V.str) ∧
  ∀ (p : Addr), H p = none → Q (.ref p) (upd H p (.lst ((ordS ss).map V.str)))
section
variable {X : Cx}
theorem cr_sortedKS (hu : X.A.units + 64 < cLine) : CallRK X (.builtin "sorted") [Str.ofString "key"] (rSKey X.K) := by
  intro pins s σ H vs zs us ws Q I r rz h
  obtain ⟨a, ss, rfl, rfl, hs, q⟩ := h
  cases r with
  | cons r1 r2 =>
  cases r2
  cases rz with
  | cons z1 z2 =>
  cases z2
  cases (show _ = Value.ref a from r1)
  cases (show _ = Value.type "str" from z1)
  obtain ⟨its, rv, hl, hz⟩ := I.list hs
  have hlen : its.length = ss.length := by rw [← rv.length, List.length_map]
  have lz : ss.length ≤ sizeLine := by rw [List.length_map] at hz; exact hz
  refine W.sorted_key_data (f := .type "str") (b := false) PyData.str hl.isList (each_strs rv) (fun d h1 d' h2 => ?_) (.inr fun d hd => ?_) lz (fun x _ => by show X.A.units + 2 + 0 < _; omega) (ksk_s1 _ _) (fun x => ksk_l1 _ _) (fun x => rfl) (fun v x hv _ h tk kp => ?_) fun out c h' tk kp fr hg ol eo => ?_
  · obtain ⟨x, _, rfl⟩ := List.mem_map.mp h1
    obtain ⟨y, _, rfl⟩ := List.mem_map.mp h2
    rfl
  · obtain ⟨x, _, rfl⟩ := List.mem_map.mp hd
    exact ⟨fun e => (nomatch e), fun xs e => nomatch e⟩
  · obtain ⟨t, rfl⟩ := hv
    exact PySem.P.str_of_str ⟨h, tk, rfl, fun _ _ e => e, .str _ _⟩
  · have hn : H (s.heap.objs.size + 1) = none := I.hok.fresh (Nat.le_succ _)
    have hz' : ((ordS ss).map V.str).length ≤ sizeLine := by rw [List.length_map, (ordS_perm ss).length_eq]; exact lz
    exact ⟨.ref _, upd H (s.heap.objs.size + 1) (.lst ((ordS ss).map V.str)), I.laid (t' := tk) kp (Nat.le_succ _) ⟨hz', _, c, vals_each eo, hg⟩, rfl, q _ hn⟩
/-- sorted(texts, key=str) -/
def fSK (f : FE) : FE := fun ρ μ Q E => f ρ μ (fun d m => ∃ xs : List Str, asL m d = some (xs.map .str) ∧ Q (.lst ((ordS xs).map .str)) m) E
theorem de_sortK {a : Expr} {p p2 kp pos : Pos} {W : WX} {f : FE} (hu : X.A.units + 64 < cLine) (hg : Gl X "sorted") (hm : X.mg "sorted" = none) (hg2 : Gl X "str") (hm2 : X.mg "str" = none) (ha : DE X W a f)
    (na : starEach [a] X.env = (false, eval a X.env) :: starEach [] X.env := by rfl) (he : backTo pos (starEach [a] X.env) = (false, eval a X.env) :: backTo pos (starEach [] X.env) := by rfl) (hpl : (backTo pos (starEach [a] X.env)).any (·.1) = false := by rfl)
    (hall : (backToKw pos (keywordEach [⟨some "key", .Name "str" p2, kp⟩] X.env)).all (·.1.isSome) = true := by rfl) (hnone : (backToKw pos (keywordEach [⟨some "key", .Name "str" p2, kp⟩] X.env)).any (·.1.isNone) = false := by rfl)
    (hks : (backToKw pos (keywordEach [⟨some "key", .Name "str" p2, kp⟩] X.env)).filterMap (·.1) = [Str.ofString "key"] := by rfl) : DE X W (.Call (.Name "sorted" p) [a] [⟨some "key", .Name "str" p2, kp⟩] pos) (fSK f) :=
  ⟨fun ρ μ Q Q' E E' hq he z => ha.mono ρ μ _ _ E E' (fun d m ⟨xs, e, z⟩ => ⟨xs, e, hq _ _ z⟩) he z,
   PE.imp (pe_callBK (cr_sortedKS hu) hg hm (by rfl) (pa_cons ha.run pa_nil na) (pk_cons (pe_bltn (v := .ty "str") hg2 hm2 (by rfl) rfl) pk_nil) (he := he) (hpl := hpl) (hall := hall) (hnone := hnone) (hks := hks)) fun σ H Q ⟨ι, ρ, μ, r, l, z⟩ => by
    refine chain1 ha.mono r l z fun d μ1 ι1 H1 v ⟨xs, e, z⟩ g1 r1 l1 a1 => ?_
    obtain ⟨b, vs, rfl, hb, hv⟩ := asL_at r1 a1 e
    cases ats_strs hv
    exact ⟨b, xs, rfl, rfl, SqL.of hb, fun p hp => z ι1 _ _ (g1.trans (Gr.new hp (r1.free hp))) (r1.new hp) (.newL hp (r1.free hp) (ats_of_strs (ordS xs)))⟩⟩
end
end Dl

/-! a walk over a dict that is a cell, with errors that leave it -/
namespace Dl
open PySem PySem.Spec L2
open PyProof.Rows hiding St Binds
theorem ga_app {μ ν : Sto} {n : Nat} {c : CT} (h : μ[n]? = some c) : (μ ++ ν)[n]? = some c := by
  rw [List.getElem?_append_left (List.getElem?_eq_some_iff.mp h).1]; exact h
section
variable {X : Cx} {W : WX} {tg iter : Expr} {sb : List Stmt} {its : List (Key × D) → List D} {tgf : FG} {fb : FS} {pos : Pos} {i : Nat}
end
end Dl

namespace Dl
open PySem PySem.Spec L2
open PyProof.Rows hiding St Binds
section
variable {P : Program} {w : World} {K : PySem.W.Frag} {mg : Str → Option Value} {base : Heap} {k : Nat} {f C : Addr} {fd : FuncData} {ps N : List Str} {x cn qual : Str} {st : Stmt} {F : FD} {fs : FS} {dvs : List V} {dsv : List Value} {dds : List D}
/-- a class whose __init__ is called with defaults -/
theorem mak_funD (Fu : FunA K x qual st f fd) (S : FnScope N ps (defScope st)) (hm : mg cn = some (.ref C)) (M : Mk K C f) (hb : L2.Binds K fd ps dsv) (hv : Vals dvs dsv) (ha : ∀ ι H, Ats K ι H dvs dds) (mono : MonF F) (len : ∀ ds μ Q E, F ds μ Q E → ds.length = ps.length)
    (body : ∀ (cdv : Value) (A : Around) (outer : List Env) (s : Shared) (H : Hp) (E : XK), (A.deeper (envOfC qual (defScope st) s.heap.objs.size f cdv)).guards = some [] → Room k (A.deeper (envOfC qual (defScope st) s.heap.objs.size f cdv)) →
      DB (cxOf (L2.CX P w) P w K mg base N qual (defScope st) f cdv A outer s H E) (fun c d _ H' => E c d H') (defBody st) fs)
    (sem : ∀ ds μ Q E, F ds μ Q E → fs (endK μ.length Q E) (startD N.length ds) μ) : Mak P w K mg base (k + 1) cn C F dds :=
  ⟨mono, f, fd, ps, dvs, dsv, fn_body Fu S len body sem, hm, M, hb, hv, ha⟩
theorem binds_d {oc : Value} {od an : Option Addr} {osl : Array (Option Value)} {T : Addr} {kV doc pm cdv ct : Value} {oT : Option Addr} {nT : Nat} {slT : Array (Option Value)} {its : Array Value} (n j : Nat)
    (l : K.lookup f = some ⟨oc, od, .func (PySem.W.fnOf x qual (defArgs st) (defBody st) (defScope st) (.ref T) kV doc pm an cdv ct), osl⟩) (c : PySem.W.codeIn K cdv qual = true) (kp : PySem.W.keepIn K (.ref f) = true)
    (lT : K.lookup T = some ⟨.type "tuple", oT, .seq its nT, slT⟩) (hv : Vals dvs its.toList) (hd : dvs ≠ []) (hn : n + (dvs.length - j) = ps.length := by rfl)
    (h : ∀ (T : Addr) (kV doc pm : Value) (an : Option Addr) (cdv ct : Value) (us is : List Value), us.length = n → is.length = dvs.length →
      ∃ k, bindArgs (PySem.W.fnOf x qual (defArgs st) (defBody st) (defScope st) (.ref T) kV doc pm an cdv ct) ⟨us, []⟩ = seqItems? (.ref T) >>= k ∧ k (some is.toArray) = pure (ps.zip (us ++ is.drop j))) :
    ∃ ds, Vals (dvs.drop j) ds ∧ L2.Binds K (PySem.W.fnOf x qual (defArgs st) (defBody st) (defScope st) (.ref T) kV doc pm an cdv ct) ps ds := by
  have F : FunD K x qual (defArgs st) (defBody st) (defScope st) dvs [] f (PySem.W.fnOf x qual (defArgs st) (defBody st) (defScope st) (.ref T) kV doc pm an cdv ct) :=
    ⟨⟨_, _, _, _, _, _, _, _, _, _, rfl, l, c, .inr ⟨hd, T, _, its.toList, nT, rfl, by simpa using lT, rfl, hv⟩, .inl rfl⟩, kp⟩
  exact F.binds1 (ps := ps) n j hd hn h
end
end Dl

namespace Dl
open PySem PySem.Spec L2
open PyProof.Rows hiding St Binds
/-! len of own objects and of dicts, list of a dict's keys -/
section
variable {X : Cx} {W : WX} {C : Addr} {F : FD} {j k : Nat}
/-- list(d), d a dict -/
def gListK : GC := fun xs μ Q => ∃ d kd, xs = [d] ∧ asD μ d = some kd ∧ gNewL (kd.map fun q => kOf q.1) μ Q
theorem keys_at {K : PySem.W.Frag} {ι : Io} {H : Hp} : ∀ {kv : List (Key × V)} {kd : List (Key × D)}, kv.map (·.1) = kd.map (·.1) → Ats K ι H (kv.map fun q => kV q.1) (kd.map fun q => kOf q.1)
  | [], [], _ => .nil
  | (a, b) :: kv, (c, d) :: kd, h => by
    simp only [List.map_cons, List.cons.injEq] at h
    obtain ⟨h1, h2⟩ := h
    subst h1
    exact Ats.cons kOf_at (keys_at h2)
theorem cad_listK (hc : X.calm = true) : CaD X (.type "list") gListK :=
  ⟨fun xs μ Q Q' h ⟨d, kd, e1, e2, q⟩ => ⟨d, kd, e1, e2, gNewL_mono h q⟩, _, call_listD hc, fun ι H μ vs ds Q r a ⟨d, kd, e1, e2, q⟩ => by
    subst e1
    obtain ⟨v, rfl, a1⟩ := a.one
    obtain ⟨p, kv, rfl, h1, h2⟩ := asD_at r a1 e2
    exact ⟨p, kv, rfl, h1, fun l hl => newL_ok r (keys_at h2.1) q l hl⟩⟩
def gListKD : GC := fun xs μ Q => ∃ d kd, xs = [d] ∧ asD μ d = some kd ∧ gD (kd.map fun q => kOf q.1) μ Q
theorem cad_listKD (hc : X.calm = true) : CaD X (.type "list") gListKD := (cad_listK hc).weak (fun xs μ Q Q' h ⟨d, ds, e, e2, q⟩ => ⟨d, ds, e, e2, gD_mono h q⟩) fun xs μ Q ⟨d, ds, e, e2, q⟩ => ⟨d, ds, e, e2, gD_new q⟩
end
end Dl

/-! d.pop(k, other), d a dict that is a cell -/
namespace Dl
open PySem PySem.Spec L2
open PyProof.Rows hiding St Binds
section
variable {X : Cx} {W : WX} {o a b : Expr} {fo fa fb : FE} {apos cpos : Pos}
end
end Dl

/-! o[k] = v of a class of one's own, whose __setitem__ may raise -/
namespace Dl
open PySem PySem.Spec L2
open PyProof.Rows hiding St Binds
def sSetO (C : Addr) (F : FD) (fv fo fa : FE) : FS := fun A ρ μ => fv ρ μ (fun v m1 => fo ρ m1 (fun x m2 => fa ρ m2 (fun y m3 => ∃ fd, asI m3 x = some (C, fd) ∧ F [x, y, v] m3 (fun _ m4 => A.nx ρ m4) (fun c l m4 => A.ex c l ρ m4)) A.ex) A.ex) A.ex
section
variable {X : Cx} {W : WX} {o a e : Expr} {fo fa fv : FE} {pos pos' : Pos} {C : Addr} {F : FD} {j k : Nat}
theorem ds_setO (c : MetX X k C "__setitem__" F []) (hq : PySem.W.noSeq X.K C = true) (hG : X.A.guards = some []) (hr : Room j X.A) (hk : k ≤ j) (tk : Takes X W) (ho : DE X W o fo) (ha : DE X W a fa) (hv : DE X W e fv)
    (hs : swapsWith e (some (.Subscript o a pos')) pos.line X.env = pure false := by rfl) : DS X W (.Assign [.Subscript o a pos'] e pos) (sSetO C F fv fo fa) := by
  obtain ⟨f, fd0, ps, dvs, ds, Fg, hM, hbd, hvs, hd⟩ := c.ex
  refine ⟨fun ρ μ A B h q => hv.mono ρ μ _ _ _ _ (fun v m1 z => ho.mono ρ m1 _ _ _ _ (fun x m2 z => ha.mono ρ m2 _ _ _ _ (fun y m3 ⟨fd, e1, z⟩ => ⟨fd, e1, c.mono _ _ _ _ _ _ (fun _ _ z => h.nx _ _ z) (fun _ _ _ z => h.ex _ _ _ _ z) z⟩) (fun _ _ _ z => h.ex _ _ _ _ z) z) (fun _ _ _ z => h.ex _ _ _ _ z) z) (fun _ _ _ z => h.ex _ _ _ _ z) q, ?_⟩
  have run : PS X (.Assign [.Subscript o a pos'] e pos) (fun D σ H => rdE X.K W fv σ H fun v H1 => rdE X.K W fo σ H1 fun x H2 => rdE X.K W fa σ H2 fun y H3 => ∃ p dx fw, x = .ref p ∧ H3 p = some (.ins C dx fw) ∧
      spD X.K F ([x, y, v] ++ dvs) H3 (fun _ H' => D.nx σ H') (WE W σ)) := by
    refine ⟨fun pins s σ H D I h => ?_⟩
    refine wpAny_Assign_Subscript (thn (hv.run.run pins s σ H _ I h) fun r s1 ⟨v, H1, I1, rv, q1⟩ => thn (ho.run.run pins s1 σ H1 _ I1 q1) fun u s2 ⟨x, H2, I2, rx, q2⟩ => thn (ha.run.run pins s2 σ H2 _ I2 q2) fun iv s3 ⟨y, H3, I3, ry, p, dx, fw, ex, hp, q3⟩ => ?_) hs
    subst ex
    cases (show u = Value.ref p from rx)
    obtain ⟨mA, O, _, _, _, _⟩ := ins_get I3.hok hp
    obtain ⟨od, J, _⟩ := O.look
    obtain ⟨m, hF⟩ := I3.fr
    refine PySem.W.ksp_setItem hF I3.ok.mod.kin J hq hM.at_ hM.fn ?_
    refine wpAny_mono (g_run (us := [.ref p, iv, r]) (vs := [.ref p, y, v]) hG Fg (hr.mono hk) hbd hvs (passAt tk σ) I3 (.cons rfl (.cons ry (.cons rv .nil))) q3) (fun w s' z => ?_) fun _ _ z => z
    obtain ⟨z', H', I', rz, qz⟩ := z
    exact ⟨σ, H', I', qz⟩
  refine PS.imp run fun D σ H ⟨ι, ρ, μ, r, l, q⟩ => chS hv.mono rfl r l q fun y μ1 ι1 H1 v z g1 r1 l1 a1 => ?_
  refine chS (De := D) (A := KV X.K W ι1 H1 D) ho.mono rfl r1 l1 (ho.mono ρ μ1 _ _ _ _ (fun _ _ z => z) (fun _ _ _ z => WV.gr g1 z) z) fun x μ2 ι2 H2 u z g2 r2 l2 a2 => ?_
  refine chS (De := D) (A := KV X.K W ι2 H2 D) ha.mono rfl r2 l2 (ha.mono ρ μ2 _ _ _ _ (fun _ _ z => z) (fun _ _ _ z => WV.gr (g1.trans g2) z) z) fun w μ3 ι3 H3 t z g3 r3 l3 a3 => ?_
  obtain ⟨fd, e1, q3⟩ := z
  obtain ⟨p, dxx, fw, rfl, hp, _⟩ := asI_at r3 (a2.gr g3) e1
  have gr := (g1.trans g2).trans g3
  refine ⟨p, dxx, fw, rfl, hp, ι3, μ3, _, r3, (Ats.cons (a2.gr g3) (Ats.cons a3 (Ats.cons ((a1.gr g2).gr g3) Ats.nil))).app (hd ι3 H3), c.mono [x, w, y] μ3 _ _ _ _ (fun d' m3 z => ?_) (fun cl lf m3 z => ?_) q3⟩
  · intro ι4 H4 v4 g4 r4 a4
    exact z ι4 H4 σ (gr.trans g4) r4 (l3.gr g4)
  · intro ι4 H4 dd fv4 g4 r4 hdd p4
    exact z ι4 H4 dd fv4 σ (gr.trans g4) r4 hdd p4 (l3.gr g4)
end
end Dl

/-! two dicts compared, values without dicts -/
namespace Dl
open PySem PySem.Spec L2
open PyProof.Rows hiding St Binds
/-- a dict's values read as data -/
inductive DpK (K : PySem.W.Frag) (H : Hp) : List (Key × V) → List (Key × PyData) → Prop
  | nil : DpK K H [] []
  | cons {k : Key} {v : V} {p : PyData} {kv : List (Key × V)} {la : List (Key × PyData)} : Dp K H v p → DpK K H kv la → DpK K H ((k, v) :: kv) ((k, p) :: la)
def lookP (l : List (Key × PyData)) (k : Key) : Option PyData := (l.find? fun q => decide (q.1 = k)).map (·.2)
section
variable {K : PySem.W.Frag} {H : Hp}
theorem DpK.length : ∀ {kv : List (Key × V)} {la : List (Key × PyData)}, DpK K H kv la → kv.length = la.length
  | _, _, .nil => rfl
  | _, _, .cons _ h => congrArg (· + 1) h.length
theorem DpK.val {k : Key} : ∀ {kv : List (Key × V)} {la : List (Key × PyData)}, DpK K H kv la → (valV kv k = none ∧ lookP la k = none) ∨ ∃ v p, valV kv k = some v ∧ lookP la k = some p ∧ Dp K H v p ∧ (k, p) ∈ la
  | _, _, .nil => .inl ⟨rfl, rfl⟩
  | _, _, .cons (k := g) (v := v) (p := p) (kv := kv) (la := la) d h => by
    by_cases e : g = k
    · exact .inr ⟨v, p, by simp [valV, e], by simp [lookP, e], d, by rw [e]; exact List.mem_cons_self ..⟩
    · rcases h.val (k := k) with ⟨h1, h2⟩ | ⟨v', p', h1, h2, h3, h4⟩
      · exact .inl ⟨by simpa [valV, e] using h1, by simpa [lookP, e] using h2⟩
      · exact .inr ⟨v', p', by simpa [valV, e] using h1, by simpa [lookP, e] using h2, h3, List.mem_cons_of_mem _ h4⟩
end
section
variable {X : Cx} {pins : List (Addr × Obj)} {σ : L2.St} {H : Hp} {s : Shared} {A : Around}
end
end Dl

/-! sorted(texts, key=str), a list that may be changed -/
namespace Dl
open PySem PySem.Spec L2
open PyProof.Rows hiding St Binds
section
variable {X : Cx}
end
end Dl

namespace Dl
open PySem PySem.Spec L2
open PyProof.Rows hiding St Binds
section
variable {P : Program} {w : World} {K : PySem.W.Frag} {mg : Str → Option Value} {base : Heap} {C_BadName C_BadNumber C_Stock : Addr}
abbrev sE_BadNumber : Stmt := inCls (top 3) 0
abbrev eOk_BadNumber : List D → Sto → Prop := okX 1 [.arg 0, .txt " is below 0"]
abbrev eFl_BadNumber : List D → List (Str × D) := flX [("number", 0)]
theorem scE_BadNumber : SupScope ["self", "number"] ["self", "number"] (defScope sE_BadNumber) := ⟨rfl, rfl, rfl, by decide +kernel, rfl, by decide +kernel, by decide +kernel, by decide +kernel, by decide +kernel, by decide +kernel⟩
theorem erc_BadNumber {k : Nat} {C f cda cc : Addr} {kV doc pm ct oc : Value} {an od : Option Addr} {osl : Array (Option Value)} (T : SupK P K mg C cda cc)
    (lk : K.lookup f = some ⟨oc, od, .func (PySem.W.ksFn "__init__" "BadNumber.__init__" (defArgs sE_BadNumber) (defBody sE_BadNumber) (defScope sE_BadNumber) .none kV doc pm an (.ref cda) ct cc), osl⟩)
    (hcd : PySem.W.codeIn K (.ref cda) "BadNumber.__init__" = true) (tI : PySem.W.typeIn K (.ref f) = some (.type "function")) (iC : PySem.W.findIn K (.ref C) "__init__" = some (some (.ref f))) (hm : mg "BadNumber" = some (.ref C))
    (f0 : PySem.W.findIn K (.ref C) "number" = some none) : Erc P w K mg base (k + 1) "BadNumber" C eOk_BadNumber eFl_BadNumber := by
  refine ⟨f, _, ["self", "number"], erc_mk 1 [.arg 0, .txt " is below 0"] [("number", 0)] T lk hcd scE_BadNumber rfl rfl (fun env => rfl) (fun env => rfl) rfl (by simp) (fun p hp => ?_) (by simp) (fun A outer s H E hG hr => ⟨?_, ?_⟩), T.cls, iC, tI, hm, ?_⟩
  · simp only [List.mem_cons, List.not_mem_nil, or_false] at hp
    rcases hp with rfl
    · exact ⟨f0, by decide⟩
  · have hu : (cxS (L2.CX P w) P w K mg base ["self", "number"] "BadNumber.__init__" (defScope sE_BadNumber) f (.ref cda) cc A outer s H E).A.units + 64 < cLine := by have := hr.un; show (A.deeper _).units + 64 < _; omega
    exact (.cons (pe_fmtRD hG hu (pe_var (i := 1) rfl (.inl rfl))) (.cons pe_str .nil))
  · exact (pss_cons (ps_ost (pe_var (i := 0) rfl (.inl rfl)) (pe_var (i := 1) rfl (.inl rfl))) pss_nil)
  · exact .all fun us hl => match us, hl with | [_, _], _ => rfl
theorem iff_ {c : Bool} {a b : Prop} (hc : c = false) (h : b) : if c = true then a else b := by rw [hc]; exact h
theorem ift_ {c : Bool} {a b : Prop} (hc : c = true) (h : a) : if c = true then a else b := by rw [hc]; exact h
/-! ### numbers shown -/
theorem int_len {i : Int} (h : i.natAbs < 10 ^ 31) : (PyData.shown (.int i)).length ≤ 32 := by
  have e := int_text_length_le10 (k := 31) (by decide) h
  show (Str.ofString (toString i)).length ≤ 32
  rw [PySem.ofString_length]; exact e
theorem int_sh {i : Int} (h : i.natAbs < 10 ^ 31) : PyData.showable (.int i) = true := by
  simp only [PyData.showable, decide_eq_true_eq]
  exact log2_small (Nat.lt_of_lt_of_le h (by decide +kernel))
theorem itm_i {n : Nat} {i : Int} (h : i.natAbs < 10 ^ 31) (hn : 110 ≤ n) : Itm n (.int i) := ⟨int_sh h, rfl, decide_eq_true (Nat.le_trans (int_len h) (by decide)), by
  simp only [PyData.weight]
  split
  · omega
  · have h2 : i.natAbs < 2 ^ 109 := Nat.lt_trans h (by decide +kernel)
    have : i.natAbs.log2 < 109 := (Nat.log2_lt (Int.natAbs_ne_zero.mpr (by rename_i hz; simpa using hz))).mpr h2
    omega, by simp [PyData.depth]⟩
theorem okR_i {i : Int} (h : i.natAbs < 10 ^ 31) : okR (.int i) := okR_of (itm_i h (Nat.le_refl _)).sh rfl (itm_i h (Nat.le_refl _)).lv (by have := (itm_i h (Nat.le_refl _)).w; omega) (by have := (itm_i h (Nat.le_refl _)).d; omega)
theorem bnu_ok {i : Int} {μ : Sto} (h : i.natAbs < 10 ^ 31) : eOk_BadNumber [.int i] μ := by
  have sz := sizeLine_eq
  have e0 : (" is below 0" : Str).length = 11 := by decide
  have h2 : (Str.empty ++ (PyData.int i).shown).length ≤ sizeLine - 11 := by
    rw [Str.length_append]
    have := int_len h
    show 0 + _ ≤ _
    omega
  exact ⟨rfl, .int i, .int i, rfl, rfl, okR_i h, by omega, by rw [Str.length_append, e0]; omega, trivial⟩
abbrev sCkM : Stmt := top 12
abbrev nCkM : List Str := ["number"]
theorem scCkM : FnScope nCkM ["number"] (defScope sCkM) := ⟨rfl, rfl, rfl, by decide +kernel, rfl, by decide +kernel, by decide +kernel⟩
inductive FCkM (C_BadNumber : Addr) (ds : List D) (μ : Sto) (Q : QD) (E : XD) : Prop
  | mk (i : Int) (a1 : ds = [.int i]) (a2 : i.natAbs < 10 ^ 31) (a3 : bdS μ.length μ = true) (a4 : (0 ≤ i → Q .non μ)) (a5 : (i < 0 → E (.ref C_BadNumber) [("number", .int i)] μ)) : FCkM C_BadNumber ds μ Q E
theorem FCkM.mono {C_BadNumber : Addr} : MonF (FCkM C_BadNumber) := fun ds μ Q Q' E E' h he q => match q with | .mk i a1 a2 a3 a4 a5 => .mk i a1 a2 a3 (by intros; apply h; apply a4 <;> assumption) (by intros; apply he; apply a5 <;> assumption)
theorem FCkM.len {C_BadNumber : Addr} : ∀ ds μ Q E, FCkM C_BadNumber ds μ Q E → ds.length = 1 := fun ds μ Q E q => by obtain ⟨_, e, _, _, _, _⟩ := q; rw [e]; rfl
theorem cal_ckm (erc_BadNumber : Erc P w K mg base 1 "BadNumber" C_BadNumber eOk_BadNumber eFl_BadNumber) {f : Addr} {fd : FuncData} {qual : Str} (T : NoB mg) (Fu : Fun K "check_number" qual sCkM f fd) (hm : mg "check_number" = some (.ref f)) (hk : PySem.W.keepIn K (.ref f) = true) (hb : L2.Binds K fd ["number"] []) : Cal P w K mg base 3 "check_number" (FCkM C_BadNumber) [] := by
  have nd := scCkM.nd
  refine cal_fun Fu scCkM hm hk hb ?_ ?_ (fun cdv A outer s H E hG hr =>
    have hu : (cxOf (L2.CX P w) P w K mg base nCkM qual (defScope sCkM) f cdv A outer s H E).A.units + 64 < cLine := by have := hr.un; show (A.deeper _).units + 64 < _; omega
    have hv : (cxOf (L2.CX P w) P w K mg base nCkM qual (defScope sCkM) f cdv A outer s H E).A.units + 1 < cLine := by omega
    have tk := takes_of (X := cxOf (L2.CX P w) P w K mg base nCkM qual (defScope sCkM) f cdv A outer s H E) (E := E) rfl rfl rfl rfl
    have pw := passes_of (X := cxOf (L2.CX P w) P w K mg base nCkM qual (defScope sCkM) f cdv A outer s H E) rfl
    (ds_one (ds_if (dt_cmp opd_lt (de_var 0 rfl) de_int) (ds_one (ds_raise erc_BadNumber rfl hG hr (by decide) (by rfl) tk passL (da_cons (de_var 0 rfl) da_nil))) ds_nil))) ?_
  · exact FCkM.mono
  · exact FCkM.len
  · rintro ds μ Q E ⟨i, rfl, hi, hb', z, z2⟩
    have sz := sizeLine_eq
    exact ⟨_, rfl, _, rfl, ite_b (fun h => ⟨_, rfl, by show 1 ≤ 1000; omega, bnu_ok hi, _, [], (List.append_nil _).symm, Nat.le_refl _, rfl, hb', z2 h⟩) (fun h => ⟨_, _, .refl, z (by omega)⟩)⟩

/-! ### tables of numbers -/
abbrev NL := List (Str × Int)
def nK (es : NL) : List (Key × D) := es.map fun p => (.inr p.1, .int p.2)
def nz (es : NL) : NL := es.filter fun p => decide (p.2 ≠ 0)
def look (es : NL) (s : Str) : Option Int := (es.find? fun p => decide (p.1 = s)).map (·.2)
def num (es : NL) (s : Str) : Int := (look es s).getD 0
abbrev stF (es : NL) : List (Str × D) := [("_numbers", .dct (nK es))]
def bname (es : NL) : Option Str := (es.map (·.1)).find? fun s => !nameB s
def bnum (es : NL) : Option Int := (es.map (·.2)).find? fun i => decide (i < 0)
def nOk (es : NL) : Prop := ∀ p ∈ es, Asc p.1 ∧ p.1.length ≤ 100 ∧ p.2.natAbs < 10 ^ 31
theorem nK_bd {es : NL} {n : Nat} : bdK n (nK es) = true := by
  induction es with
  | nil => rfl
  | cons p es ih => show (true && bdK n (nK es)) = true; rw [ih]; rfl
theorem nK_keys {es : NL} : (nK es).map (·.1) = (es.map (·.1)).map Sum.inr := by simp [nK]
theorem nK_kOf {es : NL} : ((nK es).map fun q => kOf q.1) = (es.map (·.1)).map D.str := by
  rw [nK, List.map_map, List.map_map]; rfl
theorem nK_nd {es : NL} (h : (es.map (·.1)).Nodup) : ((nK es).map (·.1)).Nodup := by
  rw [nK_keys]
  exact List.pairwise_map.mpr (h.imp fun ne e => ne (Sum.inr.inj e))
theorem val_nK (s : Str) : ∀ es : NL, valD (nK es) (.inr s) = (look es s).map D.int
  | [] => rfl
  | p :: es => by
    have ih := val_nK s es
    unfold valD look nK at *
    rw [List.map_cons, List.find?_cons, List.find?_cons]
    by_cases h : p.1 = s
    · simp [h]
    · have h' : ¬ (Sum.inr p.1 : Key) = .inr s := fun e => h (Sum.inr.inj e)
      simpa [h, h'] using ih
theorem val_num (s : Str) (es : NL) : (valD (nK es) (.inr s)).getD (.int 0) = .int (num es s) := by
  rw [val_nK]; unfold num; cases look es s <;> rfl
theorem nz_ok {es : NL} (h : nOk es) : nOk (nz es) := fun p hp => h p (List.mem_filter.mp hp).1
theorem nz_nd {es : NL} (h : (es.map (·.1)).Nodup) : ((nz es).map (·.1)).Nodup := (List.filter_sublist.map _).nodup h
theorem nz_len {es : NL} : (nz es).length ≤ es.length := List.length_filter_le ..
theorem look_none {es : NL} {s : Str} : look es s = none ↔ s ∉ es.map (·.1) := by
  unfold look
  rw [Option.map_eq_none_iff, List.find?_eq_none]
  constructor
  · intro h hs
    obtain ⟨p, hp, e⟩ := List.mem_map.mp hs
    exact h p hp (decide_eq_true e)
  · intro h p hp e
    exact h (List.mem_map.mpr ⟨p, hp, of_decide_eq_true e⟩)
theorem look_cons {p : Str × Int} {es : NL} {s : Str} : look (p :: es) s = if p.1 = s then some p.2 else look es s := by
  unfold look
  rw [List.find?_cons]
  by_cases h : p.1 = s <;> simp [h]
theorem look_mem : ∀ {es : NL} {s : Str} {i : Int}, (es.map (·.1)).Nodup → (look es s = some i ↔ (s, i) ∈ es)
  | [], s, i, _ => by simp [look]
  | p :: es, s, i, nd => by
    have ih := look_mem (es := es) (s := s) (i := i) (List.nodup_cons.mp nd).2
    rw [look_cons]
    by_cases h : p.1 = s
    · rw [if_pos h]
      constructor
      · intro e
        have e' : p.2 = i := Option.some.inj e
        rw [← h, ← e']; exact List.mem_cons_self ..
      · intro e
        rcases List.mem_cons.mp e with e | e
        · rw [← e]
        · exact absurd (List.mem_map.mpr ⟨(s, i), e, h.symm⟩) (List.nodup_cons.mp nd).1
    · rw [if_neg h, ih]
      constructor
      · exact fun e => List.mem_cons_of_mem _ e
      · intro e
        rcases List.mem_cons.mp e with e | e
        · exact absurd (by rw [← e]) h
        · exact e
theorem look_nz {es : NL} (nd : (es.map (·.1)).Nodup) (s : Str) : look (nz es) s = (look es s).filter fun i => decide (i ≠ 0) := by
  cases e : look es s with
  | none =>
    rw [look_none] at e
    show look (nz es) s = none
    rw [look_none]
    exact fun h => e ((List.filter_sublist.map _).subset h)
  | some i =>
    have m := (look_mem nd).mp e
    by_cases hi : i = 0
    · subst hi
      show look (nz es) s = none
      rw [look_none]
      intro h
      obtain ⟨p, hp, e2⟩ := List.mem_map.mp h
      obtain ⟨h1, h2⟩ := List.mem_filter.mp hp
      have : look es s = some p.2 := (look_mem nd).mpr (by rw [← e2]; exact h1)
      rw [e] at this
      have e3 : (0 : Int) = p.2 := Option.some.inj this
      exact (of_decide_eq_true h2) e3.symm
    · have : (Option.some i).filter (fun i => decide (i ≠ 0)) = some i := by simp [hi]
      rw [this]
      exact (look_mem (nz_nd nd)).mpr (List.mem_filter.mpr ⟨m, decide_eq_true hi⟩)
theorem num_nz {es : NL} (nd : (es.map (·.1)).Nodup) (s : Str) : num (nz es) s = num es s := by
  unfold num
  rw [look_nz nd]
  cases e : look es s with
  | none => rfl
  | some i => by_cases hi : i = 0 <;> simp [Option.filter, hi]
abbrev sWoZ : Stmt := top 13
abbrev nWoZ : List Str := ["numbers", "name", "number"]
theorem scWoZ : FnScope nWoZ ["numbers"] (defScope sWoZ) := ⟨rfl, rfl, rfl, by decide +kernel, rfl, by decide +kernel, by decide +kernel⟩
def pWz : D → Option (Key × D)
  | .tup [k, .int i] => if i ≠ 0 then (kD k).map fun k => (k, .int i) else none
  | _ => none
theorem pWz_map : ∀ es : NL, ((nK es).map fun q => D.tup [kOf q.1, q.2]).filterMap pWz = nK (nz es)
  | [] => rfl
  | p :: es => by
    have ih := pWz_map es
    unfold nK nz at *
    rw [List.map_cons, List.map_cons, List.filterMap_cons]
    have e : pWz (D.tup [kOf (Sum.inr p.1), .int p.2]) = if p.2 ≠ 0 then some (.inr p.1, .int p.2) else none := rfl
    rw [e, List.filter_cons]
    by_cases h : p.2 = 0
    · simp [h]; simpa using ih
    · simp [h]; simpa using ih
theorem nd_Wz {es : NL} (nd : (es.map (·.1)).Nodup) : ((nK (nz es)).map (·.1)).Nodup := nK_nd (nz_nd nd)
inductive FWzD (ds : List D) (μ : Sto) (Q : QD) (E : XD) : Prop
  | mk (es : NL) (a1 : ds = [.dct (nK es)]) (a2 : (es.map (·.1)).Nodup) (a3 : es.length ≤ 1000) (a4 : bdS μ.length μ = true) (a5 : Q (.dct (nK (nz es))) μ) : FWzD ds μ Q E
theorem FWzD.mono  : MonF (FWzD) := fun ds μ Q Q' E E' h he q => match q with | .mk es a1 a2 a3 a4 a5 => .mk es a1 a2 a3 a4 (h _ _ a5)
theorem FWzD.len  : ∀ ds μ Q E, FWzD ds μ Q E → ds.length = 1 := fun ds μ Q E q => by obtain ⟨_, e, _, _, _, _⟩ := q; rw [e]; rfl
theorem cal_wzD {f : Addr} {fd : FuncData} {qual : Str} (T : NoB mg) (Fu : Fun K "without_zeros" qual sWoZ f fd) (hm : mg "without_zeros" = some (.ref f)) (hk : PySem.W.keepIn K (.ref f) = true) (hb : L2.Binds K fd ["numbers"] []) : Cal P w K mg base 1 "without_zeros" FWzD [] := by
  have nd := scWoZ.nd
  refine cal_fun Fu scWoZ hm hk hb ?_ ?_ (fun cdv A outer s H E hG hr =>
    have hu : (cxOf (L2.CX P w) P w K mg base nWoZ qual (defScope sWoZ) f cdv A outer s H E).A.units + 64 < cLine := by have := hr.un; show (A.deeper _).units + 64 < _; omega
    have hv : (cxOf (L2.CX P w) P w K mg base nWoZ qual (defScope sWoZ) f cdv A outer s H E).A.units + 1 < cLine := by omega
    have tk := takes_of (X := cxOf (L2.CX P w) P w K mg base nWoZ qual (defScope sWoZ) f cdv A outer s H E) (E := E) rfl rfl rfl rfl
    have pw := passes_of (X := cxOf (L2.CX P w) P w K mg base nWoZ qual (defScope sWoZ) f cdv A outer s H E) rfl
    (ds_one (ds_ret (de_dcD (own := [("name", 1), ("number", 2)]) rfl nd (wd_items (pth_var 0)) (blkOk_by (N := nWoZ) (sc := defScope sWoZ) (by decide +kernel)) (fun _ _ _ _ _ => (dgw_tup (n := 2) rfl (dgsw_cons (dgw_name (i := 1) nd rfl (by first | exact .inl rfl | exact .inr rfl) (by decide)) (dgsw_cons (dgw_name (i := 2) nd rfl (by first | exact .inl rfl | exact .inr rfl) (by decide)) dgsw_nil)))) (fun _ _ _ _ _ => (dts_one (dt_cmp opd_neI (de_var 2 rfl) de_int))) (fun _ _ _ _ _ => (de_var 1 rfl)) (fun _ _ _ _ _ => (de_var 2 rfl)))))) ?_
  · exact FWzD.mono
  · exact FWzD.len
  · rintro ds μ Q E ⟨es, rfl, nd, hl, hb', z⟩
    have sz := sizeLine_eq
    refine ⟨nK es, rfl, dc_pure pWz (fun _ => trivial) (fun x hx acc NX N0 n1 n2 => ?_) (by rw [pWz_map]; exact nd_Wz nd) (by rw [List.length_map, nK, List.length_map]; omega) (by rw [pWz_map]; exact nK_bd) hb' (by rw [pWz_map]; exact ⟨_, _, .refl, z⟩)⟩
    obtain ⟨q, hq, rfl⟩ := List.mem_map.mp hx
    obtain ⟨p, hp, rfl⟩ := List.mem_map.mp hq
    refine ⟨_, rfl, rfl, _, _, rfl, _, _, rfl, rfl, _, rfl, _, _, rfl, rfl, _, rfl, ite_n (fun h => ?_) (fun h => ?_)⟩
    · exact ⟨_, rfl, _, rfl, n1 (.inr p.1) _ _ (by simp [pWz, h, kOf, kD]) rfl⟩
    · exact n2 (by simp [pWz, h])
inductive FWzC (ds : List D) (μ : Sto) (Q : QD) (E : XD) : Prop
  | mk (n : Nat) (es : NL) (a1 : ds = [.cell n]) (a2 : μ[n]? = some (.dct (nK es))) (a3 : (es.map (·.1)).Nodup) (a4 : es.length ≤ 1000) (a5 : bdS μ.length μ = true) (a6 : Q (.dct (nK (nz es))) μ) : FWzC ds μ Q E
theorem FWzC.mono  : MonF (FWzC) := fun ds μ Q Q' E E' h he q => match q with | .mk n es a1 a2 a3 a4 a5 a6 => .mk n es a1 a2 a3 a4 a5 (h _ _ a6)
theorem FWzC.len  : ∀ ds μ Q E, FWzC ds μ Q E → ds.length = 1 := fun ds μ Q E q => by obtain ⟨_, _, e, _, _, _, _, _⟩ := q; rw [e]; rfl
theorem find_take {α : Type} {p : α → Bool} {l : List α} {j : Nat} {a : α} (hj : l[j]? = some a) (h : (l.take j).find? p = none) (ha : p a = true) : l.find? p = some a := by
  have hl := (List.getElem?_eq_some_iff.mp hj).1
  have e : l = l.take j ++ a :: l.drop (j + 1) := by
    rw [← (List.getElem?_eq_some_iff.mp hj).2, List.getElem_cons_drop, List.take_append_drop]
  rw [e, List.find?_append, h, List.find?_cons, ha]; rfl
theorem find_next {α : Type} {p : α → Bool} {l : List α} {j : Nat} {a : α} (hj : l[j]? = some a) (h : (l.take j).find? p = none) (ha : p a = false) : (l.take (j + 1)).find? p = none := by
  rw [List.take_add_one, hj, List.find?_append, h]
  show List.find? p [a] = none
  rw [List.find?_cons, ha]; rfl
abbrev sSIni : Stmt := inCls (top 16) 0
abbrev nSIni : List Str := ["self", "numbers", "given", "name", "number"]
theorem scSIni : FnScope nSIni ["self", "numbers"] (defScope sSIni) := ⟨rfl, rfl, rfl, by decide +kernel, rfl, by decide +kernel, by decide +kernel⟩
inductive FSIniC (C_BadName C_BadNumber C_Stock : Addr) (ds : List D) (μ : Sto) (Q : QD) (E : XD) : Prop
  | mk (n : Nat) (m : Nat) (es : NL) (a1 : ds = [.cell n, .cell m]) (a2 : μ[n]? = some (.ins C_Stock [])) (a3 : μ[m]? = some (.dct (nK es))) (a4 : nOk es) (a5 : (es.map (·.1)).Nodup) (a6 : es.length ≤ 1000) (a7 : bdS μ.length μ = true) (a8 : (bname es = none → bnum es = none → Q .non (μ.set n (.ins C_Stock (stF (nz es)))))) (a9 : (∀ s, bname es = some s → E (.ref C_BadName) [("name", .str s)] μ)) (a10 : (∀ i, bname es = none → bnum es = some i → E (.ref C_BadNumber) [("number", .int i)] μ)) : FSIniC C_BadName C_BadNumber C_Stock ds μ Q E
theorem FSIniC.mono {C_BadName C_BadNumber C_Stock : Addr} : MonF (FSIniC C_BadName C_BadNumber C_Stock) := fun ds μ Q Q' E E' h he q => match q with | .mk n m es a1 a2 a3 a4 a5 a6 a7 a8 a9 a10 => .mk n m es a1 a2 a3 a4 a5 a6 a7 (by intros; apply h; apply a8 <;> assumption) (by intros; apply he; apply a9 <;> assumption) (by intros; apply he; apply a10 <;> assumption)
theorem FSIniC.len {C_BadName C_BadNumber C_Stock : Addr} : ∀ ds μ Q E, FSIniC C_BadName C_BadNumber C_Stock ds μ Q E → ds.length = 2 := fun ds μ Q E q => by obtain ⟨_, _, _, e, _, _, _, _, _, _, _, _, _⟩ := q; rw [e]; rfl
inductive FSIniD (C_Stock : Addr) (ds : List D) (μ : Sto) (Q : QD) (E : XD) : Prop
  | mk (n : Nat) (c : D) (es : NL) (a1 : ds = [.cell n, c]) (a2 : μ[n]? = some (.ins C_Stock [])) (a3 : ((c = .non ∧ es = []) ∨ c = .dct (nK es))) (a4 : nOk es) (a5 : (es.map (·.1)).Nodup) (a6 : es.length ≤ 1000) (a7 : bname es = none) (a8 : bnum es = none) (a9 : bdS μ.length μ = true) (a10 : Q .non (μ.set n (.ins C_Stock (stF (nz es))))) : FSIniD C_Stock ds μ Q E
theorem FSIniD.mono {C_Stock : Addr} : MonF (FSIniD C_Stock) := fun ds μ Q Q' E E' h he q => match q with | .mk n c es a1 a2 a3 a4 a5 a6 a7 a8 a9 a10 => .mk n c es a1 a2 a3 a4 a5 a6 a7 a8 a9 (h _ _ a10)
theorem FSIniD.len {C_Stock : Addr} : ∀ ds μ Q E, FSIniD C_Stock ds μ Q E → ds.length = 2 := fun ds μ Q E q => by obtain ⟨_, _, _, e, _, _, _, _, _, _, _, _, _⟩ := q; rw [e]; rfl
theorem bname_ok {es : NL} (h : bname es = none) : ∀ p ∈ es, nameB p.1 = true := fun p hp => by
  have := List.find?_eq_none.mp h p.1 (List.mem_map.mpr ⟨p, hp, rfl⟩)
  cases e : nameB p.1 with
  | true => rfl
  | false => rw [e] at this; exact absurd rfl this
theorem bnum_ok {es : NL} (h : bnum es = none) : ∀ p ∈ es, 0 ≤ p.2 := fun p hp => by
  have := List.find?_eq_none.mp h p.2 (List.mem_map.mpr ⟨p, hp, rfl⟩)
  rw [decide_eq_true_eq] at this
  omega
theorem mak_stD (cls_Stock : Cls K C_Stock) (na_numbers : NoAttr K C_Stock ("_numbers" : Str)) (cChE : Cal P w K mg base 3 "check_name" (FChE C_BadName) []) (cCkM : Cal P w K mg base 3 "check_number" (FCkM C_BadNumber) []) (cwzD : Cal P w K mg base 1 "without_zeros" FWzD []) {f : Addr} {fd : FuncData} {qual : Str} (T : NoB mg) (Fu : FunA K "__init__" qual sSIni f fd) (hm : mg "Stock" = some (.ref C_Stock)) (M : Mk K C_Stock f) {dvs : List V} {dsv : List Value} (hb : L2.Binds K fd ["self", "numbers"] dsv) (hv : Vals dvs dsv) {dds : List D} (ha : ∀ ι H, Ats K ι H dvs dds) : Mak P w K mg base 5 "Stock" C_Stock (FSIniD C_Stock) dds := by
  have nd := scSIni.nd
  refine mak_funD Fu scSIni hm M hb hv ha ?_ ?_ (fun cdv A outer s H E hG hr =>
    have hu : (cxOf (L2.CX P w) P w K mg base nSIni qual (defScope sSIni) f cdv A outer s H E).A.units + 64 < cLine := by have := hr.un; show (A.deeper _).units + 64 < _; omega
    have hv : (cxOf (L2.CX P w) P w K mg base nSIni qual (defScope sSIni) f cdv A outer s H E).A.units + 1 < cLine := by omega
    have tk := takes_of (X := cxOf (L2.CX P w) P w K mg base nSIni qual (defScope sSIni) f cdv A outer s H E) (E := E) rfl rfl rfl rfl
    have pw := passes_of (X := cxOf (L2.CX P w) P w K mg base nSIni qual (defScope sSIni) f cdv A outer s H E) rfl
    (ds_cons (ds_set (i := 2) nd rfl (by first | exact .inl rfl | exact .inr rfl) (de_ifx (dt_cmp opd_isN (de_var 1 rfl) de_non) de_dict0 (de_var 1 rfl)))
      (ds_cons (ds_forD pw rfl (wd_keys (pth_var 2)) (dg_name (i := 3) nd rfl (by first | exact .inl rfl | exact .inr rfl)) (ds_one (ds_expr (de_call cChE hG hr (by decide) (by rfl) tk (da_cons (de_var 3 rfl) da_nil)))))
      (ds_cons (ds_forD pw rfl (wd_vals (pth_var 2)) (dg_name (i := 4) nd rfl (by first | exact .inl rfl | exact .inr rfl)) (ds_one (ds_expr (de_call cCkM hG hr (by decide) (by rfl) tk (da_cons (de_var 4 rfl) da_nil)))))
      (ds_one (ds_fld (de_var 0 rfl) (de_call cwzD hG hr (by decide) (by rfl) tk (da_cons (de_var 2 rfl) da_nil)))))))) ?_
  · exact FSIniD.mono
  · exact FSIniD.len
  · rintro ds μ Q E ⟨n, c, es, rfl, hn, hc, ho, nd, hl, hbn, hbm, hb', z⟩
    have sz := sizeLine_eq
    have bo := bname_ok hbn
    have io := bnum_ok hbm
    refine seq_cut (fun ρ' ν => ρ' = [some (.cell n), some c, some (.dct (nK es)), none, none] ∧ ν = μ) ?_ fun N hN => ?_
    · rintro _ ν ⟨rfl, rfl⟩
      refine ⟨nK es, rfl, fun j ρ' μ' => ∃ v3 : Option D, ρ' = [some (.cell n), some c, some (.dct (nK es)), v3, none] ∧ μ' = ν, ⟨_, rfl, rfl⟩, ?_, ?_⟩
      · rintro j y ρ' μ' hy ⟨v3, rfl, rfl⟩
        obtain ⟨q, hq, rfl⟩ := List.mem_map.mp (List.mem_of_getElem? hy)
        obtain ⟨p, hp, rfl⟩ := List.mem_map.mp hq
        obtain ⟨h1, h2, h3⟩ := ho p hp
        exact ⟨_, rfl, p.1, rfl, h1, h2, hb', fun _ => ⟨_, rfl, rfl⟩, fun h => by rw [bo p hp] at h; cases h⟩
      · rintro ρ' μ' ⟨v3, rfl, rfl⟩
        refine ⟨nK es, rfl, fun j ρ' μ2 => ∃ v4 : Option D, ρ' = [some (.cell n), some c, some (.dct (nK es)), v3, v4] ∧ μ2 = μ', ⟨_, rfl, rfl⟩, ?_, ?_⟩
        · rintro j y ρ' μ2 hy ⟨v4, rfl, rfl⟩
          obtain ⟨q, hq, rfl⟩ := List.mem_map.mp (List.mem_of_getElem? hy)
          obtain ⟨p, hp, rfl⟩ := List.mem_map.mp hq
          obtain ⟨h1, h2, h3⟩ := ho p hp
          exact ⟨_, rfl, p.2, rfl, h3, hb', fun _ => ⟨_, rfl, rfl⟩, fun h => absurd (io p hp) (by omega)⟩
        · rintro ρ' μ2 ⟨v4, rfl, rfl⟩
          exact ⟨_, rfl, es, rfl, nd, hl, hb', _, rfl, n, C_Stock, [], rfl, hn, cls_Stock, na_numbers, by decide, _, _, .refl, z⟩
    · rcases hc with ⟨rfl, rfl⟩ | rfl
      · exact ⟨_, rfl, rfl, _, rfl, ift_ rfl (.inl (hN _ _ ⟨rfl, rfl⟩))⟩
      · exact ⟨_, rfl, rfl, _, rfl, iff_ rfl ⟨_, rfl, hN _ _ ⟨rfl, rfl⟩⟩⟩
/-- a stock and its table -/
def StAt (C_Stock : Addr) (es : NL) (d : D) (μ : Sto) : Prop := asI μ d = some (C_Stock, stF es)

abbrev sSNm : Stmt := inCls (top 16) 1
abbrev nSNm : List Str := ["self"]
theorem scSNm : FnScope nSNm ["self"] (defScope sSNm) := ⟨rfl, rfl, rfl, by decide +kernel, rfl, by decide +kernel, by decide +kernel⟩
inductive FSNm (C_Stock : Addr) (ds : List D) (μ : Sto) (Q : QD) (E : XD) : Prop
  | mk (d : D) (es : NL) (a1 : ds = [d]) (a2 : StAt C_Stock es d μ) (a3 : es.length ≤ 1000) (a4 : Q (.lst ((ordS (es.map (·.1))).map .str)) μ) : FSNm C_Stock ds μ Q E
theorem FSNm.mono {C_Stock : Addr} : MonF (FSNm C_Stock) := fun ds μ Q Q' E E' h he q => match q with | .mk d es a1 a2 a3 a4 => .mk d es a1 a2 a3 (h _ _ a4)
theorem FSNm.len {C_Stock : Addr} : ∀ ds μ Q E, FSNm C_Stock ds μ Q E → ds.length = 1 := fun ds μ Q E q => by obtain ⟨_, _, e, _, _, _⟩ := q; rw [e]; rfl
theorem met_SNm (na_numbers : NoAttr K C_Stock ("_numbers" : Str)) {f : Addr} {fd : FuncData} {qual : Str} (T : NoB mg) (Fu : FunA K "names" qual sSNm f fd) (cC : Cls K C_Stock) (M : Meth K C_Stock "names" f) (hb : L2.Binds K fd ["self"] []) : Met P w K mg base 1 C_Stock "names" (FSNm C_Stock) [] := by
  have nd := scSNm.nd
  refine met_fun Fu scSNm cC M hb ?_ ?_ (fun cdv A outer s H E hG hr =>
    have hu : (cxOf (L2.CX P w) P w K mg base nSNm qual (defScope sSNm) f cdv A outer s H E).A.units + 64 < cLine := by have := hr.un; show (A.deeper _).units + 64 < _; omega
    have hv : (cxOf (L2.CX P w) P w K mg base nSNm qual (defScope sSNm) f cdv A outer s H E).A.units + 1 < cLine := by omega
    have tk := takes_of (X := cxOf (L2.CX P w) P w K mg base nSNm qual (defScope sSNm) f cdv A outer s H E) (E := E) rfl rfl rfl rfl
    have pw := passes_of (X := cxOf (L2.CX P w) P w K mg base nSNm qual (defScope sSNm) f cdv A outer s H E) rfl
    (ds_one (ds_ret (de_sortK hu (by rfl) T.sorted (by rfl) T.str (de_callTy (cad_listKD rfl) (by rfl) T.list (by decide +kernel) (da_cons (de_fld (de_var 0 rfl)) da_nil)))))) ?_
  · exact FSNm.mono
  · exact FSNm.len
  · rintro ds μ Q E ⟨d, es, rfl, h, hl, z⟩
    have sz := sizeLine_eq
    refine ⟨_, rfl, C_Stock, _, _, h, cC, na_numbers, rfl, _, nK es, rfl, rfl, by simp [nK]; omega, ?_⟩
    rw [nK_kOf]
    exact ⟨es.map (·.1), rfl, _, _, .refl, z⟩
inductive FSNmC (C_Stock : Addr) (ds : List D) (μ : Sto) (Q : QD) (E : XD) : Prop
  | mk (d : D) (es : NL) (a1 : ds = [d]) (a2 : StAt C_Stock es d μ) (a3 : es.length ≤ 1000) (a4 : Q (.cell μ.length) (μ ++ [CT.lst ((ordS (es.map (·.1))).map .str)])) : FSNmC C_Stock ds μ Q E
theorem FSNmC.mono {C_Stock : Addr} : MonF (FSNmC C_Stock) := fun ds μ Q Q' E E' h he q => match q with | .mk d es a1 a2 a3 a4 => .mk d es a1 a2 a3 (h _ _ a4)
theorem FSNmC.len {C_Stock : Addr} : ∀ ds μ Q E, FSNmC C_Stock ds μ Q E → ds.length = 1 := fun ds μ Q E q => by obtain ⟨_, _, e, _, _, _⟩ := q; rw [e]; rfl
abbrev sSGi : Stmt := inCls (top 16) 3
abbrev nSGi : List Str := ["self", "name"]
theorem scSGi : FnScope nSGi ["self", "name"] (defScope sSGi) := ⟨rfl, rfl, rfl, by decide +kernel, rfl, by decide +kernel, by decide +kernel⟩
inductive FSGi (C_Stock : Addr) (ds : List D) (μ : Sto) (Q : QD) (E : XD) : Prop
  | mk (d : D) (s : Str) (es : NL) (a1 : ds = [d, .str s]) (a2 : StAt C_Stock es d μ) (a3 : Q (.int (num es s)) μ) : FSGi C_Stock ds μ Q E
theorem FSGi.mono {C_Stock : Addr} : MonF (FSGi C_Stock) := fun ds μ Q Q' E E' h he q => match q with | .mk d s es a1 a2 a3 => .mk d s es a1 a2 (h _ _ a3)
theorem FSGi.len {C_Stock : Addr} : ∀ ds μ Q E, FSGi C_Stock ds μ Q E → ds.length = 2 := fun ds μ Q E q => by obtain ⟨_, _, _, e, _, _⟩ := q; rw [e]; rfl
theorem met_SGi (na_numbers : NoAttr K C_Stock ("_numbers" : Str)) {f : Addr} {fd : FuncData} {qual : Str} (T : NoB mg) (Fu : FunA K "__getitem__" qual sSGi f fd) (cC : Cls K C_Stock) (M : Meth K C_Stock "__getitem__" f) (hb : L2.Binds K fd ["self", "name"] []) : Met P w K mg base 1 C_Stock "__getitem__" (FSGi C_Stock) [] := by
  have nd := scSGi.nd
  refine met_fun Fu scSGi cC M hb ?_ ?_ (fun cdv A outer s H E hG hr =>
    have hu : (cxOf (L2.CX P w) P w K mg base nSGi qual (defScope sSGi) f cdv A outer s H E).A.units + 64 < cLine := by have := hr.un; show (A.deeper _).units + 64 < _; omega
    have hv : (cxOf (L2.CX P w) P w K mg base nSGi qual (defScope sSGi) f cdv A outer s H E).A.units + 1 < cLine := by omega
    have tk := takes_of (X := cxOf (L2.CX P w) P w K mg base nSGi qual (defScope sSGi) f cdv A outer s H E) (E := E) rfl rfl rfl rfl
    have pw := passes_of (X := cxOf (L2.CX P w) P w K mg base nSGi qual (defScope sSGi) f cdv A outer s H E) rfl
    (ds_one (ds_ret (de_get2 hv (de_fld (de_var 0 rfl)) (de_var 1 rfl) de_int)))) ?_
  · exact FSGi.mono
  · exact FSGi.len
  · rintro ds μ Q E ⟨d, s, es, rfl, h, z⟩
    refine ⟨_, rfl, C_Stock, _, _, h, cC, na_numbers, rfl, nK es, rfl, _, rfl, nK es, _, rfl, rfl, ?_⟩
    rw [val_num]
    exact ⟨_, _, .refl, z⟩
abbrev sSCp : Stmt := inCls (top 16) 2
abbrev nSCp : List Str := ["self"]
theorem scSCp : FnScope nSCp ["self"] (defScope sSCp) := ⟨rfl, rfl, rfl, by decide +kernel, rfl, by decide +kernel, by decide +kernel⟩
structure SOk (es : NL) : Prop where
  ok : nOk es
  nd : (es.map (·.1)).Nodup
  nm : bname es = none
  nn : bnum es = none
  nz : ∀ p ∈ es, p.2 ≠ 0
theorem SOk.nz_eq {es : NL} (h : SOk es) : Dl.nz es = es := List.filter_eq_self.mpr fun p hp => decide_eq_true (h.nz p hp)
inductive FSCp (C_Stock : Addr) (ds : List D) (μ : Sto) (Q : QD) (E : XD) : Prop
  | mk (d : D) (es : NL) (a1 : ds = [d]) (a2 : StAt C_Stock es d μ) (a3 : SOk es) (a4 : es.length ≤ 1000) (a5 : bdS μ.length μ = true) (a6 : Q (.ins C_Stock (stF es)) μ) : FSCp C_Stock ds μ Q E
theorem FSCp.mono {C_Stock : Addr} : MonF (FSCp C_Stock) := fun ds μ Q Q' E E' h he q => match q with | .mk d es a1 a2 a3 a4 a5 a6 => .mk d es a1 a2 a3 a4 a5 (h _ _ a6)
theorem FSCp.len {C_Stock : Addr} : ∀ ds μ Q E, FSCp C_Stock ds μ Q E → ds.length = 1 := fun ds μ Q E q => by obtain ⟨_, _, e, _, _, _, _, _⟩ := q; rw [e]; rfl
inductive FSCpC (C_Stock : Addr) (ds : List D) (μ : Sto) (Q : QD) (E : XD) : Prop
  | mk (d : D) (es : NL) (a1 : ds = [d]) (a2 : StAt C_Stock es d μ) (a3 : SOk es) (a4 : es.length ≤ 1000) (a5 : bdS μ.length μ = true) (a6 : Q (.cell μ.length) (μ ++ [CT.ins C_Stock (stF es)])) : FSCpC C_Stock ds μ Q E
theorem FSCpC.mono {C_Stock : Addr} : MonF (FSCpC C_Stock) := fun ds μ Q Q' E E' h he q => match q with | .mk d es a1 a2 a3 a4 a5 a6 => .mk d es a1 a2 a3 a4 a5 (h _ _ a6)
theorem FSCpC.len {C_Stock : Addr} : ∀ ds μ Q E, FSCpC C_Stock ds μ Q E → ds.length = 1 := fun ds μ Q E q => by obtain ⟨_, _, e, _, _, _, _, _⟩ := q; rw [e]; rfl
theorem met_SCpC (na_numbers : NoAttr K C_Stock ("_numbers" : Str)) (cstD : Mak P w K mg base 5 "Stock" C_Stock (FSIniD C_Stock) []) {f : Addr} {fd : FuncData} {qual : Str} (T : NoB mg) (Fu : FunA K "copy" qual sSCp f fd) (cC : Cls K C_Stock) (M : Meth K C_Stock "copy" f) (hb : L2.Binds K fd ["self"] []) : Met P w K mg base 7 C_Stock "copy" (FSCpC C_Stock) [] := by
  have nd := scSCp.nd
  refine met_fun Fu scSCp cC M hb ?_ ?_ (fun cdv A outer s H E hG hr =>
    have hu : (cxOf (L2.CX P w) P w K mg base nSCp qual (defScope sSCp) f cdv A outer s H E).A.units + 64 < cLine := by have := hr.un; show (A.deeper _).units + 64 < _; omega
    have hv : (cxOf (L2.CX P w) P w K mg base nSCp qual (defScope sSCp) f cdv A outer s H E).A.units + 1 < cLine := by omega
    have tk := takes_of (X := cxOf (L2.CX P w) P w K mg base nSCp qual (defScope sSCp) f cdv A outer s H E) (E := E) rfl rfl rfl rfl
    have pw := passes_of (X := cxOf (L2.CX P w) P w K mg base nSCp qual (defScope sSCp) f cdv A outer s H E) rfl
    (ds_one (ds_ret (de_make cstD hG hr (by decide) (by rfl) tk (da_cons (de_fld (de_var 0 rfl)) da_nil))))) ?_
  · exact FSCpC.mono
  · exact FSCpC.len
  · rintro ds μ Q E ⟨d, es, rfl, h, ho, hl, hb', z⟩
    have bb : bdS (μ ++ [CT.ins C_Stock []]).length (μ ++ [CT.ins C_Stock []]) = true := by rw [bdS_app, bdS_mono (by simp) hb']; rfl
    refine ⟨_, rfl, C_Stock, _, _, h, cC, na_numbers, rfl, μ.length, .dct (nK es), es, rfl, ap_get, .inr rfl, ho.ok, ho.nd, hl, ho.nm, ho.nn, bb, ?_⟩
    rw [ap_set, ho.nz_eq]
    exact ⟨rfl, _, _, .refl, _, _, .refl, z⟩
/-! ### a number set -/
def putN (es : NL) (s : Str) (i : Int) : NL := if (es.any fun p => decide (p.1 = s)) = true then es.map (fun p => if p.1 = s then (p.1, i) else p) else es ++ [(s, i)]
theorem put_nK (es : NL) (s : Str) (i : Int) : putKD (nK es) (.inr s) (.int i) = nK (putN es s i) := by
  unfold putKD putN nK
  rw [List.any_map]
  have e : ((fun q : Key × D => decide (q.1 = Sum.inr s)) ∘ fun p : Str × Int => ((Sum.inr p.1 : Key), D.int p.2)) = fun p => decide (p.1 = s) := by
    funext p
    exact decide_eq_decide.mpr ⟨fun h => Sum.inr.inj h, fun h => congrArg Sum.inr h⟩
  rw [e]
  split
  · rw [List.map_map, List.map_map]
    refine List.map_congr_left fun p _ => ?_
    show (if (Sum.inr p.1 : Key) = .inr s then ((Sum.inr p.1 : Key), D.int i) else (.inr p.1, .int p.2)) = _
    by_cases h : p.1 = s
    · simp [h]
    · have h' : ¬ (Sum.inr p.1 : Key) = .inr s := fun e => h (Sum.inr.inj e)
      simp [h, h']
  · rw [List.map_append]; rfl
theorem putN_keys {es : NL} {s : Str} {v : Int} (h : (es.any fun p => decide (p.1 = s)) = true) : (putN es s v).map (·.1) = es.map (·.1) := by
  unfold putN
  rw [if_pos h, List.map_map]
  refine List.map_congr_left fun p _ => ?_
  show (if p.1 = s then (p.1, v) else p).1 = p.1
  by_cases e : p.1 = s <;> simp [e]
theorem putN_mem {es : NL} {s : Str} {v : Int} {p : Str × Int} (h : p ∈ putN es s v) : p = (s, v) ∨ (p ∈ es ∧ p.1 ≠ s) := by
  unfold putN at h
  split at h
  · obtain ⟨q, hq, rfl⟩ := List.mem_map.mp h
    by_cases e : q.1 = s
    · rw [if_pos e]; exact .inl (by rw [e])
    · rw [if_neg e]; exact .inr ⟨hq, e⟩
  · rename_i hn
    rcases List.mem_append.mp h with h1 | h1
    · exact .inr ⟨h1, fun e => hn (List.any_eq_true.mpr ⟨p, h1, decide_eq_true e⟩)⟩
    · exact .inl (List.mem_singleton.mp h1)
theorem putN_nd {es : NL} {s : Str} {v : Int} (h : (es.map (·.1)).Nodup) : ((putN es s v).map (·.1)).Nodup := by
  by_cases hany : (es.any fun p => decide (p.1 = s)) = true
  · rw [putN_keys hany]; exact h
  · unfold putN
    rw [if_neg hany, List.map_append, List.nodup_append]
    refine ⟨h, by simp, fun a ha' b hb e => hany ?_⟩
    have hb' : b = s := by simpa using hb
    obtain ⟨p, hp, rfl⟩ := List.mem_map.mp ha'
    exact List.any_eq_true.mpr ⟨p, hp, decide_eq_true (e.trans hb')⟩
theorem putN_len {es : NL} {s : Str} {v : Int} : (putN es s v).length ≤ es.length + 1 := by
  unfold putN
  split
  · rw [List.length_map]; omega
  · rw [List.length_append]; exact Nat.le_refl _
theorem putN_ok {es : NL} {s : Str} {v : Int} (h : nOk es) (ha : Asc s) (hl : s.length ≤ 100) (hv : v.natAbs < 10 ^ 31) : nOk (putN es s v) := fun p hp => by
  rcases putN_mem hp with rfl | ⟨h1, _⟩
  · exact ⟨ha, hl, hv⟩
  · exact h p h1
theorem look_put {s t : Str} {v : Int} : ∀ {es : NL}, (es.map (·.1)).Nodup → look (putN es s v) t = if s = t then some v else look es t := fun {es} nd => by
  have np := putN_nd (s := s) (v := v) nd
  have sv : (s, v) ∈ putN es s v := by
    unfold putN
    split
    · rename_i h
      obtain ⟨p, hp, e⟩ := List.any_eq_true.mp h
      have e' : p.1 = s := of_decide_eq_true e
      exact List.mem_map.mpr ⟨p, hp, by rw [if_pos e', e']⟩
    · exact List.mem_append_right _ (List.mem_singleton.mpr rfl)
  by_cases e : s = t
  · subst e; rw [if_pos rfl]; exact (look_mem np).mpr sv
  · rw [if_neg e]
    have keep : ∀ p ∈ es, p.1 ≠ s → p ∈ putN es s v := fun p hp hs => by
      unfold putN
      split
      · exact List.mem_map.mpr ⟨p, hp, by rw [if_neg hs]⟩
      · exact List.mem_append_left _ hp
    cases h : look es t with
    | some i => exact (look_mem np).mpr (keep (t, i) ((look_mem nd).mp h) fun h => e h.symm)
    | none =>
      rw [look_none] at h ⊢
      intro h2
      obtain ⟨p, hp, rfl⟩ := List.mem_map.mp h2
      rcases putN_mem hp with rfl | ⟨h3, _⟩
      · exact e rfl
      · exact h (List.mem_map.mpr ⟨p, h3, rfl⟩)
theorem bname_iff {es : NL} : bname es = none ↔ ∀ p ∈ es, nameB p.1 = true := ⟨bname_ok, fun h => List.find?_eq_none.mpr fun s hs => by
  obtain ⟨p, hp, rfl⟩ := List.mem_map.mp hs
  rw [h p hp]; simp⟩
theorem bnum_iff {es : NL} : bnum es = none ↔ ∀ p ∈ es, 0 ≤ p.2 := ⟨bnum_ok, fun h => List.find?_eq_none.mpr fun i hi => by
  obtain ⟨p, hp, rfl⟩ := List.mem_map.mp hi
  have := h p hp
  simp; omega⟩
theorem SOk.put {es : NL} {s : Str} {v : Int} (h : SOk es) (ha : Asc s) (hl : s.length ≤ 100) (hn : nameB s = true) (hv : v.natAbs < 10 ^ 31) (h0 : 0 ≤ v) : SOk (Dl.nz (putN es s v)) := by
  refine ⟨nz_ok (putN_ok h.ok ha hl hv), nz_nd (putN_nd h.nd), bname_iff.mpr fun p hp => ?_, bnum_iff.mpr fun p hp => ?_, fun p hp => of_decide_eq_true (List.mem_filter.mp hp).2⟩
  · rcases putN_mem (List.mem_filter.mp hp).1 with rfl | ⟨h1, _⟩
    · exact hn
    · exact bname_ok h.nm p h1
  · rcases putN_mem (List.mem_filter.mp hp).1 with rfl | ⟨h1, _⟩
    · exact h0
    · exact bnum_ok h.nn p h1
theorem merge_nil' {kd : List (Key × D)} (nd : (kd.map (·.1)).Nodup) : mergeKD [] kd = kd := by
  have gen : ∀ (l acc : List (Key × D)), ((acc ++ l).map (·.1)).Nodup → mergeKD acc l = acc ++ l := by
    intro l
    induction l with
    | nil => intro acc _; simp [mergeKD]
    | cons q r ih =>
      intro acc h
      have e : putKD acc q.1 q.2 = acc ++ [q] := by
        unfold putKD
        rw [if_neg]
        intro e
        obtain ⟨p, hp, e2⟩ := List.any_eq_true.mp e
        rw [List.map_append, List.nodup_append] at h
        exact h.2.2 p.1 (List.mem_map.mpr ⟨p, hp, rfl⟩) q.1 (by simp) (of_decide_eq_true e2)
      show mergeKD (putKD acc q.1 q.2) r = _
      rw [e, ih (acc ++ [q]) (by rw [List.append_assoc]; exact h)]
      simp
  exact gen kd [] (by simpa using nd)
theorem dwa {μ : Sto} {c d e : CT} : (μ ++ [c]).set μ.length d ++ [e] = μ ++ [d, e] := by
  rw [List.set_append_right _ _ (Nat.le_refl _), Nat.sub_self]
  simp
theorem dwb {μ : Sto} {d e : CT} : (μ ++ [d, e])[μ.length]? = some d := by simp
theorem dwc {μ : Sto} {c d e : CT} : (μ ++ [d, e])[(μ ++ [c]).length]? = some e := by
  rw [List.length_append, List.getElem?_append_right (by simp)]
  simp
theorem dwd {μ : Sto} {c d e f g : CT} : ((μ ++ [d, e]).set (μ ++ [c]).length f).set μ.length g = μ ++ [g] ++ [f] := by
  rw [List.length_append, List.set_append_right _ _ (by simp), List.set_append_right _ _ (Nat.le_refl _)]
  simp
abbrev sSSi : Stmt := inCls (top 16) 4
abbrev nSSi : List Str := ["self", "name", "number"]
theorem scSSi : FnScope nSSi ["self", "name", "number"] (defScope sSSi) := ⟨rfl, rfl, rfl, by decide +kernel, rfl, by decide +kernel, by decide +kernel⟩
inductive FSSi (C_BadName C_BadNumber C_Stock : Addr) (ds : List D) (μ : Sto) (Q : QD) (E : XD) : Prop
  | mk (n : Nat) (s : Str) (i : Int) (es : NL) (a1 : ds = [.cell n, .str s, .int i]) (a2 : μ[n]? = some (.ins C_Stock (stF es))) (a3 : (es.map (·.1)).Nodup) (a4 : es.length ≤ 900) (a5 : Asc s) (a6 : s.length ≤ 100) (a7 : i.natAbs < 10 ^ 31) (a8 : bdS μ.length μ = true) (a9 : (nameB s = true → 0 ≤ i → Q .non (μ.set n (.ins C_Stock (stF (nz (putN es s i))))))) (a10 : (nameB s = false → E (.ref C_BadName) [("name", .str s)] μ)) (a11 : (nameB s = true → i < 0 → E (.ref C_BadNumber) [("number", .int i)] μ)) : FSSi C_BadName C_BadNumber C_Stock ds μ Q E
theorem FSSi.mono {C_BadName C_BadNumber C_Stock : Addr} : MonF (FSSi C_BadName C_BadNumber C_Stock) := fun ds μ Q Q' E E' h he q => match q with | .mk n s i es a1 a2 a3 a4 a5 a6 a7 a8 a9 a10 a11 => .mk n s i es a1 a2 a3 a4 a5 a6 a7 a8 (by intros; apply h; apply a9 <;> assumption) (by intros; apply he; apply a10 <;> assumption) (by intros; apply he; apply a11 <;> assumption)
theorem FSSi.len {C_BadName C_BadNumber C_Stock : Addr} : ∀ ds μ Q E, FSSi C_BadName C_BadNumber C_Stock ds μ Q E → ds.length = 3 := fun ds μ Q E q => by obtain ⟨_, _, _, _, e, _, _, _, _, _, _, _, _, _, _⟩ := q; rw [e]; rfl
theorem met_SSi (cls_Stock : Cls K C_Stock) (na_numbers : NoAttr K C_Stock ("_numbers" : Str)) (cChE : Cal P w K mg base 3 "check_name" (FChE C_BadName) []) (cCkM : Cal P w K mg base 3 "check_number" (FCkM C_BadNumber) []) (cwzD : Cal P w K mg base 1 "without_zeros" FWzD []) {f : Addr} {fd : FuncData} {qual : Str} (T : NoB mg) (Fu : FunA K "__setitem__" qual sSSi f fd) (cC : Cls K C_Stock) (M : Meth K C_Stock "__setitem__" f) (hb : L2.Binds K fd ["self", "name", "number"] []) : Met P w K mg base 5 C_Stock "__setitem__" (FSSi C_BadName C_BadNumber C_Stock) [] := by
  have nd := scSSi.nd
  refine met_fun Fu scSSi cC M hb ?_ ?_ (fun cdv A outer s H E hG hr =>
    have hu : (cxOf (L2.CX P w) P w K mg base nSSi qual (defScope sSSi) f cdv A outer s H E).A.units + 64 < cLine := by have := hr.un; show (A.deeper _).units + 64 < _; omega
    have hv : (cxOf (L2.CX P w) P w K mg base nSSi qual (defScope sSSi) f cdv A outer s H E).A.units + 1 < cLine := by omega
    have tk := takes_of (X := cxOf (L2.CX P w) P w K mg base nSSi qual (defScope sSSi) f cdv A outer s H E) (E := E) rfl rfl rfl rfl
    have pw := passes_of (X := cxOf (L2.CX P w) P w K mg base nSSi qual (defScope sSSi) f cdv A outer s H E) rfl
    (ds_cons (ds_expr (de_call cChE hG hr (by decide) (by rfl) tk (da_cons (de_var 1 rfl) da_nil)))
      (ds_cons (ds_expr (de_call cCkM hG hr (by decide) (by rfl) tk (da_cons (de_var 2 rfl) da_nil)))
      (ds_one (ds_fld (de_var 0 rfl) (de_call cwzD hG hr (by decide) (by rfl) tk (da_cons (de_dw (de_fld (de_var 0 rfl)) (de_var 1 rfl) (de_var 2 rfl)) da_nil))))))) ?_
  · exact FSSi.mono
  · exact FSSi.len
  · rintro ds μ Q E ⟨n, s, i, es, rfl, hn, nd, hl, ha, hls, hi, hb', z, zb, zc⟩
    have sz := sizeLine_eq
    have nl : n < μ.length := (List.getElem?_eq_some_iff.mp hn).1
    refine ⟨_, rfl, s, rfl, ha, hls, hb', fun h1 => ?_, fun h1 => ⟨_, [], (List.append_nil _).symm, Nat.le_refl _, rfl, hb', zb h1⟩⟩
    refine ⟨_, rfl, i, rfl, hi, hb', fun h2 => ?_, fun h2 => ⟨_, [], (List.append_nil _).symm, Nat.le_refl _, rfl, hb', zc h1 h2⟩⟩
    refine ⟨_, rfl, C_Stock, stF es, .dct (nK es), (by simp only [asI, List.getElem?_append_left nl, hn]), cC, na_numbers, rfl, nK es, rfl, nofun, by simp, by simp [nK]; omega, ?_⟩
    rw [dwa, merge_nil' (nK_nd nd)]
    refine ⟨_, rfl, _, rfl, .inr s, nK es, rfl, dwc, dwb, by simp [nK]; omega, ?_⟩
    rw [dwd, put_nK]
    refine ⟨.dct (nK (putN es s i)), μ, .drop (μ := μ ++ [.dct (nK (putN es s i))]) (by simp) ?_ ?_ (.dct (Nat.le_refl _) nK_bd hb' .refl), putN es s i, rfl, putN_nd nd, by have := putN_len (es := es) (s := s) (v := i); omega, hb', ?_⟩
    · show decide (μ.length < (μ ++ [CT.dct _]).length) = true
      simp
    · rw [bdS_app, Bool.and_eq_true]
      exact ⟨bdS_mono (by simp) hb', by show ((CT.dct _).bd _ && true) = true; rw [Bool.and_true]; exact nK_bd⟩
    · exact ⟨_, rfl, n, C_Stock, _, rfl, hn, cls_Stock, na_numbers, by show 1 < 1000; decide, _, _, .refl, z h1 h2⟩
end
end Dl

/-! [*d, ..]: d a dict, its keys -/
namespace Dl
open PySem PySem.Spec L2
open PyProof.Rows hiding St Binds
section
variable {X : Cx} {pins : List (Addr × Obj)} {σ : L2.St} {H : Hp} {s : Shared}
theorem star_dict {a : Addr} {kvs : List (Key × V)} {E : Value → Shared → Prop} {Q : List Value → Shared → Prop} (hcalm : X.calm = true) (I : Inv X pins σ H s) (hd : Rd H a (.dK kvs)) (hQ : ∀ us s', Inv X pins σ H s' → Vals (kvs.map fun kv => kV kv.1) us → Q us s') : PySem.W.StarOf (model X.prog X.w) X.A E (.ref a) Q s := by
  obtain ⟨z, lo, vs, rel, dd⟩ := dk_rd I.hok hd
  obtain ⟨ep, hat⟩ := dd.dictAt
  have ek : (kvs.map fun kv => kV kv.1) = vs.map fun p => kV p.1 := by
    have e := congrArg (List.map kV) rel.keys
    rw [List.map_map, List.map_map] at e
    exact e
  have zc : wpAny (model X.prog X.w) X.A (collect (.ref a)) Q E s := by
    refine PySem.W.kdu_collect (PySem.W.kdl_dict (knd := mixKind X.prog X.w) (kvs := vs) (ep := ep) lo) (I.ok.hd hcalm) hat (by rw [← rel.length]; exact z) fun h' tk acc hk hacc => ?_
    have hv : Vals (vs.map fun p => kV p.1) acc.toList := L2.keys_at (by rw [Array.length_toList]; exact hacc.1) fun j v e => hacc.2 j v (by rw [← Array.getElem?_toList]; exact e)
    rw [← ek] at hv
    exact hQ _ _ (I.kept (t' := tk) hk) hv
  unfold PySem.W.StarOf notIterableAtAll
  exact wpAny_bind (wpAny_specialOf hat.dictOf.typeIs PySem.F.slot_dict_iter.lookup (wpAny_pure ⟨rfl, zc⟩))
end
section
variable {X : Cx} {W : WX} {e : Expr} {es : List Expr} {te : TE} {t : TA} {f : FE} {fl : FA} {p : Pos}
def tStarD (te : TE) (t : TA) : TA := fun σ H Q => te σ H fun x H1 => ∃ a kvs, x = V.ref a ∧ Rd H1 a (.dK kvs) ∧ t σ H1 fun ys H2 => Q ((kvs.map fun kv => kV kv.1) ++ ys) H2
theorem pa_starD (hcalm : X.calm = true) (he : PE X e te) (hr : PA X es t) (hs : starEach (.Starred e p :: es) X.env = (true, eval e X.env) :: starEach es X.env := by rfl) : PA X (.Starred e p :: es) (tStarD te t) := by
  refine ⟨fun pos pins s σ H Q I h => ?_⟩
  refine PySem.W.items_star (thn (he.run pins s σ H _ I h) fun v s1 ⟨y, H1, I1, ry, a, xs, ey, hx, q⟩ => ?_) hs
  subst ey
  obtain rfl : v = Value.ref a := ry
  refine star_dict hcalm I1 hx fun us s2 I2 rv => ?_
  exact thn (hr.run pos pins s2 σ H1 _ I2 q) fun ws s3 ⟨vs, H3, I3, r3, q3⟩ => ⟨_, H3, I3, rv.append r3, q3⟩
def fStarD (f : FE) (g : FA) : FA := fun ρ μ Q E => f ρ μ (fun d m => ∃ kd, asD m d = some kd ∧ g ρ m (fun ys m2 => Q ((kd.map fun q => kOf q.1) ++ ys) m2) E) E
theorem da_starD (hc : X.calm = true) (h : DE X W e f) (h' : DA X W es fl) (hs : starEach (.Starred e p :: es) X.env = (true, eval e X.env) :: starEach es X.env := by rfl) : DA X W (.Starred e p :: es) (fStarD f fl) :=
  ⟨fun ρ μ Q Q' E E' hh he q => h.mono ρ μ _ _ E E' (fun d mm ⟨ds, e, z⟩ => ⟨ds, e, h'.mono ρ mm _ _ E E' (fun ys m2 z2 => hh _ m2 z2) he z⟩) he q,
    PA.imp (pa_starD hc h.run h'.run hs) fun σ H Q ⟨ι, ρ, μ, rp, l, q⟩ => chain1 h.mono rp l q fun d μ1 ι1 H1 v q1 g1 r1 l1 a1 => by
    obtain ⟨kd, e, z⟩ := q1
    obtain ⟨a, kv, rfl, hx, pt⟩ := asD_at r1 a1 e
    refine ⟨a, kv, rfl, hx, ?_⟩
    exact chainA h'.mono r1 l1 (h'.mono ρ μ1 _ _ _ _ (fun _ _ z => z) (fun _ _ _ z => EW.gr g1 z) z) fun ys μ2 ι2 H2 us q2 g2 r2 l2 a2 => q2 ι2 H2 _ (g1.trans g2) r2 ((Dl.keys_at pt.1).app a2)⟩
end
end Dl

/-! x op y of one own class, whose method may raise -/
namespace Dl
open PySem PySem.Spec L2
open PyProof.Rows hiding St Binds
section
variable {X : Cx} {W : WX} {a b : Expr} {fa fb : FE} {pos : Pos} {C : Addr} {F : FD} {j k : Nat} {op : Operator} {n : Str}
def fBinE (C : Addr) (F : FD) (fa fb : FE) : FE := fun ρ μ Q E => fa ρ μ (fun x m1 => fb ρ m1 (fun y m2 => ∃ fd fd', asI m2 x = some (C, fd) ∧ asI m2 y = some (C, fd') ∧ F [x, y] m2 Q (fun c l m' => E c l ρ m')) E) E
theorem de_binE (iC : IsC X.K C) (sf : PySem.W.selfFirst X.K C = true) (c : MetX X k C n F []) (hG : X.A.guards = some []) (hr : Room j X.A) (hk : k ≤ j) (tk : Takes X W) (ha : DE X W a fa) (hb : DE X W b fb) (hn : dunder op.info.2 = n := by rfl) : DE X W (.BinOp a op b pos) (fBinE C F fa fb) := by
  subst hn
  obtain ⟨f, fd0, ps, dvs, ds, Fg, hM, hbd, hv, hd⟩ := c.ex
  refine ⟨fun ρ μ Q Q' E E' hh he q => ha.mono ρ μ _ _ E E' (fun x m1 z => hb.mono ρ m1 _ _ E E' (fun y m2 ⟨fd, fd', e1, e2, z⟩ => ⟨fd, fd', e1, e2, c.mono _ _ _ _ _ _ hh (fun c l m' z => he c l _ z) z⟩) he z) he q,
    PE.imp (t := fun σ H Q => rdE X.K W fa σ H fun x H1 => rdE X.K W fb σ H1 fun y H2 => ∃ p dx fv, x = .ref p ∧ H2 p = some (.ins C dx fv) ∧ TyX X.K H2 y (.ref C) ∧ spD X.K F ([x, y] ++ dvs) H2 Q (WE W σ)) ⟨fun pins s σ H Q I h => ?_⟩ fun σ H Q h => ?_⟩
  · refine wpAny_BinOp (binT ha.run hb.run I h fun v u s2 x y H2 I2 rx ry q => ?_)
    obtain ⟨p, dx, fv, rfl, h2, ty, q⟩ := q
    cases (show v = Value.ref p from rx)
    obtain ⟨mA, O, _, _, _, _⟩ := ins_get I2.hok h2
    obtain ⟨od, J, _⟩ := O.look
    obtain ⟨m, hF⟩ := I2.fr
    obtain ⟨P, kx, hP, _⟩ := kit_of I2 ry ty
    refine PySem.W.binop_K hF I2.ok.mod.kin J (kx.ty _ _ I2.kIn hP) sf hM.at_ hM.fn ?_
    exact wpAny_mono (g_run (us := [.ref p, u]) (vs := [.ref p, y]) hG Fg (hr.mono hk) hbd hv (passAt tk σ) I2 (.cons rfl (.cons ry .nil)) q) (fun w s' ⟨z', H', I', rz, qz⟩ => SlX.cmpback rz ⟨z', H', I', rz, qz⟩) fun _ _ z => z
  · obtain ⟨ι, ρ, μ, rp, l, q⟩ := h
    refine chain1 ha.mono rp l q fun x μ1 ι1 H1 v q1 g1 r1 l1 a1 => ?_
    refine chain1 hb.mono r1 l1 (hb.mono ρ μ1 _ _ _ _ (fun _ _ q => q) (fun _ _ _ z => EW.gr g1 z) q1) fun y μ2 ι2 H2 u q2 g2 r2 l2 a2 => ?_
    obtain ⟨fd, fd', e1, e2, z⟩ := q2
    obtain ⟨p, dxx, fv, rfl, h2, _⟩ := asI_at r2 (a1.gr g2) e1
    exact ⟨p, dxx, fv, rfl, h2, tyd_of r2 a2 (.ins _ _ _ e2 iC), ι2, μ2, _, r2, (Ats.cons (a1.gr g2) (Ats.cons a2 Ats.nil)).app (hd ι2 H2), c.mono [x, y] μ2 _ _ _ _ (fun d m z => QV.gr (g1.trans g2) z) (fun c l m z => EW.gr (ρ := ρ) (ρ' := ρ) (g1.trans g2) z) z⟩
end
end Dl

/-! name op= y of an own object, whose method may raise -/
namespace Dl
open PySem PySem.Spec L2
open PyProof.Rows hiding St Binds
section
variable {X : Cx} {W : WX} {b : Expr} {fb : FE} {pos pos' : Pos} {C : Addr} {F : FD} {j k i : Nat} {op : Operator} {n x : Str}
def sAugO (i : Nat) (C : Addr) (F : FD) (fb : FE) : FS := fun A ρ μ => ∃ d, ρ[i]? = some (some d) ∧ fb ρ μ (fun y m1 => ∃ fd, asI m1 d = some (C, fd) ∧ F [d, y] m1 (fun z m2 => A.nx (ρ.set i (some z)) m2) (fun c l m2 => A.ex c l ρ m2)) A.ex
theorem ds_augO (sf : PySem.W.selfFirst X.K C = true) (c : MetX X k C n F []) (hG : X.A.guards = some []) (hr : Room j X.A) (hk : k ≤ j) (tk : Takes X W) (hN : X.N.Nodup) (hi : X.N[i]? = some x) (hx : L2.Loc X.env.scope x) (hb : DE X W b fb) (hn : dunderI op.info.2 = n := by rfl)
    (hf : X.fn x = true ∨ X.env.scope.names.lookup x = some .local := by first | exact .inl rfl | exact .inr rfl | assumption) : DS X W (.AugAssign (.Name x pos') op b pos) (sAugO i C F fb) := by
  subst hn
  obtain ⟨f, fd0, ps, dvs, ds, Fg, hM, hbd, hv, hd⟩ := c.ex
  refine ⟨fun ρ μ A B h ⟨d, e, q⟩ => ⟨d, e, hb.mono ρ μ _ _ _ _ (fun y m1 ⟨fd, e1, z⟩ => ⟨fd, e1, c.mono _ _ _ _ _ _ (fun _ _ z => h.nx _ _ z) (fun _ _ _ z => h.ex _ _ _ _ z) z⟩) (fun _ _ _ z => h.ex _ _ _ _ z) q⟩, ?_⟩
  have run : PS X (.AugAssign (.Name x pos') op b pos) (fun D σ H => ∃ v, σ[i]? = some (some v) ∧ rdE X.K W fb σ H fun y H1 => ∃ p dx fw, v = .ref p ∧ H1 p = some (.ins C dx fw) ∧ spD X.K F ([v, y] ++ dvs) H1 (fun z H2 => D.nx (σ.set i (some z)) H2) (WE W σ)) := by
    refine ⟨fun pins s σ H D I h => ?_⟩
    obtain ⟨v, e1, h⟩ := h
    obtain ⟨m, hn, hl⟩ := I.loc
    have vis : Vis X.env.scope x := by rcases hx with k | k; exact .inl k; exact .inr (.inl k)
    obtain ⟨u, r, l⟩ := hl i x v hi e1 vis
    refine wpAny_AugAssign_Name ?_
    have go : wpAny (model X.prog X.w) X.A (eval b X.env) (fun w s₂ => wpAny (model X.prog X.w) X.A (inplaceOp op u w) (fun r s₃ => wpAny (model X.prog X.w) X.A (storeName X.env x r) (fun _ => SP X pins D .next) X.xe s₃) X.xe s₂) X.xe s := by
      refine thn (hb.run.run pins s σ H _ I h) fun w s1 ⟨y, H1, I1, r1, p, dx, fw, ev, hp, q1⟩ => ?_
      subst ev
      cases (show u = Value.ref p from r)
      obtain ⟨mA, O, _, _, _, _⟩ := ins_get I1.hok hp
      obtain ⟨od, J, _⟩ := O.look
      obtain ⟨m', hF⟩ := I1.fr
      refine PySem.W.ksp_inplace hF I1.ok.mod.kin J sf hM.at_ hM.fn ?_
      exact wpAny_mono (g_run (us := [.ref p, w]) (vs := [.ref p, y]) hG Fg (hr.mono hk) hbd hv (passAt tk σ) I1 (.cons rfl (.cons r1 .nil)) q1) (fun w s' ⟨z', H', I', rz, qz⟩ => SlX.cmpback rz (store_ok I' hN hi hx rz (fun s3 I3 => ⟨_, H', I3, qz⟩) hf)) fun _ _ z => z
    rcases l with ⟨hk, hm⟩ | ⟨hk, c, hc, hcell⟩
    · exact wpAny_loadName_local I.ok.kind hk hn hm go
    · rcases hk with hk | hk
      · exact wpAny_loadName_cell I.ok.kind hk hc hcell go
      · rcases hx with k | k
        · have : X.env.scope.names.lookup x = some .free := hk
          rw [k] at this; cases this
        · have : X.env.scope.names.lookup x = some .free := hk
          rw [k] at this; cases this
  refine PS.imp run fun D σ H ⟨ι, ρ, μ, r, l, d, e, q⟩ => ?_
  obtain ⟨v, e1, a⟩ := l.2 i d e
  refine ⟨v, e1, chS hb.mono rfl r l q fun y μ1 ι1 H1 u z g1 r1 l1 a1 => ?_⟩
  obtain ⟨fd, e2, q3⟩ := z
  obtain ⟨p, dxx, fw, rfl, hp, _⟩ := asI_at r1 (a.gr g1) e2
  refine ⟨p, dxx, fw, rfl, hp, ι1, μ1, _, r1, (Ats.cons (a.gr g1) (Ats.cons a1 Ats.nil)).app (hd ι1 H1), c.mono [d, y] μ1 _ _ _ _ (fun d' m3 z => ?_) (fun cl lf m3 z => ?_) q3⟩
  · intro ι4 H4 v4 g4 r4 a4
    exact z ι4 H4 _ (g1.trans g4) r4 ((l1.gr g4).set a4 i)
  · intro ι4 H4 dd fv4 g4 r4 hdd p4
    exact z ι4 H4 dd fv4 σ (g1.trans g4) r4 hdd p4 (l1.gr g4)
end
end Dl

namespace Dl
open PySem PySem.Spec L2
open PyProof.Rows hiding St Binds
section
variable {P : Program} {w : World} {K : PySem.W.Frag} {mg : Str → Option Value} {base : Heap} {C_BadName C_BadNumber C_Short C_Stock : Addr}
abbrev sE_Short : Stmt := inCls (top 4) 0
abbrev eOk_Short : List D → Sto → Prop := okX 1 [.txt "there is not enough of ", .arg 0]
abbrev eFl_Short : List D → List (Str × D) := flX [("name", 0)]
theorem scE_Short : SupScope ["self", "name"] ["self", "name"] (defScope sE_Short) := ⟨rfl, rfl, rfl, by decide +kernel, rfl, by decide +kernel, by decide +kernel, by decide +kernel, by decide +kernel, by decide +kernel⟩
theorem erc_Short {k : Nat} {C f cda cc : Addr} {kV doc pm ct oc : Value} {an od : Option Addr} {osl : Array (Option Value)} (T : SupK P K mg C cda cc)
    (lk : K.lookup f = some ⟨oc, od, .func (PySem.W.ksFn "__init__" "Short.__init__" (defArgs sE_Short) (defBody sE_Short) (defScope sE_Short) .none kV doc pm an (.ref cda) ct cc), osl⟩)
    (hcd : PySem.W.codeIn K (.ref cda) "Short.__init__" = true) (tI : PySem.W.typeIn K (.ref f) = some (.type "function")) (iC : PySem.W.findIn K (.ref C) "__init__" = some (some (.ref f))) (hm : mg "Short" = some (.ref C))
    (f0 : PySem.W.findIn K (.ref C) "name" = some none) : Erc P w K mg base (k + 1) "Short" C eOk_Short eFl_Short := by
  refine ⟨f, _, ["self", "name"], erc_mk 1 [.txt "there is not enough of ", .arg 0] [("name", 0)] T lk hcd scE_Short rfl rfl (fun env => rfl) (fun env => rfl) rfl (by simp) (fun p hp => ?_) (by simp) (fun A outer s H E hG hr => ⟨?_, ?_⟩), T.cls, iC, tI, hm, ?_⟩
  · simp only [List.mem_cons, List.not_mem_nil, or_false] at hp
    rcases hp with rfl
    · exact ⟨f0, by decide⟩
  · have hu : (cxS (L2.CX P w) P w K mg base ["self", "name"] "Short.__init__" (defScope sE_Short) f (.ref cda) cc A outer s H E).A.units + 64 < cLine := by have := hr.un; show (A.deeper _).units + 64 < _; omega
    exact (.cons pe_str (.cons (pe_fmtRD hG hu (pe_var (i := 1) rfl (.inl rfl))) .nil))
  · exact (pss_cons (ps_ost (pe_var (i := 0) rfl (.inl rfl)) (pe_var (i := 1) rfl (.inl rfl))) pss_nil)
  · exact .all fun us hl => match us, hl with | [_, _], _ => rfl
/-! ### sums -/
def foldN (v : Str → Int) (acc : NL) (ss : List Str) : NL := ss.foldl (fun acc s => putN acc s (v s)) acc
theorem foldN_nd {v : Str → Int} : ∀ {ss : List Str} {acc : NL}, (acc.map (·.1)).Nodup → ((foldN v acc ss).map (·.1)).Nodup
  | [], _, h => h
  | s :: ss, acc, h => foldN_nd (ss := ss) (acc := putN acc s (v s)) (putN_nd h)
theorem foldN_len {v : Str → Int} : ∀ {ss : List Str} {acc : NL}, (foldN v acc ss).length ≤ acc.length + ss.length
  | [], _ => Nat.le_refl _
  | s :: ss, acc => by
    have h1 := foldN_len (v := v) (ss := ss) (acc := putN acc s (v s))
    have h2 := putN_len (es := acc) (s := s) (v := v s)
    show (foldN v (putN acc s (v s)) ss).length ≤ _
    rw [List.length_cons]; omega
theorem foldN_snoc {v : Str → Int} {ss : List Str} {acc : NL} {s : Str} : foldN v acc (ss ++ [s]) = putN (foldN v acc ss) s (v s) := by
  unfold foldN; rw [List.foldl_append]; rfl
theorem foldN_look {v : Str → Int} {t : Str} : ∀ {ss : List Str} {acc : NL}, (acc.map (·.1)).Nodup → look (foldN v acc ss) t = if t ∈ ss then some (v t) else look acc t
  | [], acc, _ => by simp [foldN]
  | s :: ss, acc, h => by
    have ih := foldN_look (v := v) (t := t) (ss := ss) (acc := putN acc s (v s)) (putN_nd h)
    show look (foldN v (putN acc s (v s)) ss) t = _
    rw [ih, look_put h]
    by_cases h1 : t ∈ ss
    · rw [if_pos h1, if_pos (List.mem_cons_of_mem _ h1)]
    · rw [if_neg h1]
      by_cases h2 : s = t
      · subst h2; rw [if_pos rfl, if_pos (List.mem_cons_self ..)]
      · rw [if_neg h2, if_neg (fun h3 => (List.mem_cons.mp h3).elim (fun e => h2 e.symm) h1)]
def addN (a b : NL) : NL := foldN (fun s => num a s + num b s) [] (a.map (·.1) ++ b.map (·.1))
section
variable {g : FG} {ft : FT} {fk fv : FE} {vs : List Nat} {ρ : Rho} {Q : QD}
theorem dc_foldN {ss : List Str} {st : Sto → Prop} {m : Sto} (v : Str → Int) (hst : ∀ c, st (m ++ [.dct c]))
    (turn : ∀ s, s ∈ ss → ∀ (acc : List (Key × D)) (NX : D → D → Sto → Prop) (N0 : Sto → Prop), NX (.str s) (.int (v s)) (m ++ [.dct acc]) →
      g (.str s) (wipeD ρ vs) (m ++ [.dct acc]) (fun ρ2 μ2 => ft ρ2 μ2 (fun b m3 => if b = true then fk ρ2 m3 (fun y m4 => fv ρ2 m4 (fun z m5 => NX y z m5) NE) NE else N0 m3) NE))
    (hl : ss.length ≤ 1000) (bm : bdS m.length m = true) (q : Q (.dct (nK (foldN v [] ss))) m) :
    DcI g ft fk fv vs (ss.map .str) st ρ m Q := by
  have sz := sizeLine_eq
  refine ⟨fun i μ' => μ' = m ++ [.dct (nK (foldN v [] (ss.take i)))], rfl, fun i μ' e => by rw [e]; exact hst _, ?_, ?_⟩
  · rintro i x μ' hx rfl
    rw [List.getElem?_map] at hx
    obtain ⟨s, hs, rfl⟩ := Option.map_eq_some_iff.mp hx
    have ht : ss.take (i + 1) = ss.take i ++ [s] := by rw [List.take_add_one, hs]; rfl
    refine turn s (List.mem_of_getElem? hs) _ _ _ ⟨nK (foldN v [] (ss.take i)), .inr s, rfl, by simp, ?_, ?_⟩
    · have h1 := foldN_len (v := v) (ss := ss.take i) (acc := [])
      have h2 : (ss.take i).length ≤ ss.length := by rw [List.length_take]; omega
      unfold nK
      rw [List.length_map]
      simp only [List.length_nil] at h1
      omega
    · dsimp only
      rw [List.set_append_right _ _ (Nat.le_refl _), Nat.sub_self, ht, foldN_snoc, put_nK]
      rfl
  · rintro μ' rfl
    rw [List.length_map, List.take_length]
    exact ⟨_, _, .dct (Nat.le_refl _) nK_bd bm .refl, q⟩
end
abbrev sSum : Stmt := top 14
abbrev nSum : List Str := ["one", "other", "name"]
theorem scSum : FnScope nSum ["one", "other"] (defScope sSum) := ⟨rfl, rfl, rfl, by decide +kernel, rfl, by decide +kernel, by decide +kernel⟩
inductive FSum (ds : List D) (μ : Sto) (Q : QD) (E : XD) : Prop
  | mk (a : NL) (b : NL) (a1 : ds = [.dct (nK a), .dct (nK b)]) (a2 : a.length ≤ 400) (a3 : b.length ≤ 400) (a4 : bdS μ.length μ = true) (a5 : Q (.dct (nK (addN a b))) μ) : FSum ds μ Q E
theorem FSum.mono  : MonF (FSum) := fun ds μ Q Q' E E' h he q => match q with | .mk a b a1 a2 a3 a4 a5 => .mk a b a1 a2 a3 a4 (h _ _ a5)
theorem FSum.len  : ∀ ds μ Q E, FSum ds μ Q E → ds.length = 2 := fun ds μ Q E q => by obtain ⟨_, _, e, _, _, _, _⟩ := q; rw [e]; rfl
theorem cal_sum {f : Addr} {fd : FuncData} {qual : Str} (T : NoB mg) (Fu : Fun K "sums_of" qual sSum f fd) (hm : mg "sums_of" = some (.ref f)) (hk : PySem.W.keepIn K (.ref f) = true) (hb : L2.Binds K fd ["one", "other"] []) : Cal P w K mg base 1 "sums_of" FSum [] := by
  have nd := scSum.nd
  refine cal_fun Fu scSum hm hk hb ?_ ?_ (fun cdv A outer s H E hG hr =>
    have hu : (cxOf (L2.CX P w) P w K mg base nSum qual (defScope sSum) f cdv A outer s H E).A.units + 64 < cLine := by have := hr.un; show (A.deeper _).units + 64 < _; omega
    have hv : (cxOf (L2.CX P w) P w K mg base nSum qual (defScope sSum) f cdv A outer s H E).A.units + 1 < cLine := by omega
    have tk := takes_of (X := cxOf (L2.CX P w) P w K mg base nSum qual (defScope sSum) f cdv A outer s H E) (E := E) rfl rfl rfl rfl
    have pw := passes_of (X := cxOf (L2.CX P w) P w K mg base nSum qual (defScope sSum) f cdv A outer s H E) rfl
    (ds_one (ds_ret (de_dcS (own := [("name", 2)]) rfl nd (di_seq (de_lstD (da_starD rfl (de_var 0 rfl) (da_starD rfl (de_var 1 rfl) da_nil)))) (blkOk_by (N := nSum) (sc := defScope sSum) (by decide +kernel)) (fun _ _ _ _ _ => (dgw_name (i := 2) nd rfl (by first | exact .inl rfl | exact .inr rfl) (by decide))) (fun _ _ _ _ _ => dts_nil) (fun _ _ _ _ _ => (de_var 2 rfl)) (fun _ _ _ _ _ => (de_op opd_addI (de_get2 hv (de_var 0 rfl) (de_var 2 rfl) de_int) (de_get2 hv (de_var 1 rfl) (de_var 2 rfl) de_int))))))) ?_
  · exact FSum.mono
  · exact FSum.len
  · rintro ds μ Q E ⟨a, b, rfl, la, lb, hb', z⟩
    have sz := sizeLine_eq
    have e : (nK a).map (fun q => kOf q.1) ++ ((nK b).map (fun q => kOf q.1) ++ []) = (a.map (·.1) ++ b.map (·.1)).map D.str := by rw [nK_kOf, nK_kOf, List.append_nil, List.map_append]
    refine ⟨_, rfl, nK a, rfl, _, rfl, nK b, rfl, by simp only [List.length_map, List.length_append, nK, List.length_nil]; omega, _, rfl, ?_⟩
    show DcI _ _ _ _ _ ((nK a).map (fun q => kOf q.1) ++ ((nK b).map (fun q => kOf q.1) ++ [])) _ _ _ _
    rw [e]
    refine (dc_foldN (m := μ) (fun s => num a s + num b s) (fun _ => rfl) (fun s hs acc NX N0 n1 => ?_) (by simp only [List.length_map, List.length_append]; omega) hb' ⟨_, _, .refl, z⟩)
    refine ⟨_, rfl, _, rfl, nK a, rfl, _, rfl, nK a, _, rfl, rfl, ?_⟩
    rw [val_num]
    refine ⟨_, rfl, nK b, rfl, _, rfl, nK b, _, rfl, rfl, ?_⟩
    rw [val_num]
    exact ⟨_, _, rfl, rfl, n1⟩

/-! ### differences -/
def shN (a b : NL) : Option Str := (ordS (b.map (·.1))).find? fun s => decide (num a s < num b s)
def subN (a b : NL) : NL := a.map fun p => (p.1, p.2 - num b p.1)
def pSub (b : NL) : D → Option (Key × D)
  | .tup [.str s, .int i] => some (.inr s, .int (i - num b s))
  | _ => none
theorem pSub_map {b : NL} : ∀ es : NL, ((nK es).map fun q => D.tup [kOf q.1, q.2]).filterMap (pSub b) = nK (subN es b)
  | [] => rfl
  | p :: es => by
    have ih := pSub_map (b := b) es
    unfold nK subN at *
    rw [List.map_cons, List.map_cons, List.filterMap_cons]
    show (_, _) :: _ = _
    rw [ih]; rfl
theorem subN_keys {a b : NL} : (subN a b).map (·.1) = a.map (·.1) := by unfold subN; rw [List.map_map]; rfl
theorem sh_ok {s : Str} {μ : Sto} (ha : Asc s) (hl : s.length ≤ 100) : eOk_Short [.str s] μ := by
  have h := PyData.shown_le 40 (by decide) (.str s) (leaf_asc ha)
  have sz := sizeLine_eq
  have w : PyData.weight (.str s) ≤ 100 := hl
  have e0 : (Str.empty ++ ("there is not enough of " : Str)).length = 23 := by decide
  refine ⟨rfl, by rw [e0]; omega, .str s, .str s, rfl, rfl, okR_s ha (by omega), by rw [Str.length_append, e0]; omega, trivial⟩
abbrev sDif : Stmt := top 15
abbrev nDif : List Str := ["one", "other", "name", "number"]
theorem scDif : FnScope nDif ["one", "other"] (defScope sDif) := ⟨rfl, rfl, rfl, by decide +kernel, rfl, by decide +kernel, by decide +kernel⟩
inductive FDif (C_Short : Addr) (ds : List D) (μ : Sto) (Q : QD) (E : XD) : Prop
  | mk (a : NL) (b : NL) (a1 : ds = [.dct (nK a), .dct (nK b)]) (a2 : (a.map (·.1)).Nodup) (a3 : (b.map (·.1)).Nodup) (a4 : nOk b) (a5 : a.length ≤ 900) (a6 : b.length ≤ 900) (a7 : bdS μ.length μ = true) (a8 : (shN a b = none → Q (.dct (nK (nz (subN a b)))) μ)) (a9 : (∀ s, shN a b = some s → E (.ref C_Short) [("name", .str s)] μ)) : FDif C_Short ds μ Q E
theorem FDif.mono {C_Short : Addr} : MonF (FDif C_Short) := fun ds μ Q Q' E E' h he q => match q with | .mk a b a1 a2 a3 a4 a5 a6 a7 a8 a9 => .mk a b a1 a2 a3 a4 a5 a6 a7 (by intros; apply h; apply a8 <;> assumption) (by intros; apply he; apply a9 <;> assumption)
theorem FDif.len {C_Short : Addr} : ∀ ds μ Q E, FDif C_Short ds μ Q E → ds.length = 2 := fun ds μ Q E q => by obtain ⟨_, _, e, _, _, _, _, _, _, _, _⟩ := q; rw [e]; rfl
theorem cal_dif (cwzD : Cal P w K mg base 1 "without_zeros" FWzD []) (erc_Short : Erc P w K mg base 1 "Short" C_Short eOk_Short eFl_Short) {f : Addr} {fd : FuncData} {qual : Str} (T : NoB mg) (Fu : Fun K "differences_of" qual sDif f fd) (hm : mg "differences_of" = some (.ref f)) (hk : PySem.W.keepIn K (.ref f) = true) (hb : L2.Binds K fd ["one", "other"] []) : Cal P w K mg base 3 "differences_of" (FDif C_Short) [] := by
  have nd := scDif.nd
  refine cal_fun Fu scDif hm hk hb ?_ ?_ (fun cdv A outer s H E hG hr =>
    have hu : (cxOf (L2.CX P w) P w K mg base nDif qual (defScope sDif) f cdv A outer s H E).A.units + 64 < cLine := by have := hr.un; show (A.deeper _).units + 64 < _; omega
    have hv : (cxOf (L2.CX P w) P w K mg base nDif qual (defScope sDif) f cdv A outer s H E).A.units + 1 < cLine := by omega
    have tk := takes_of (X := cxOf (L2.CX P w) P w K mg base nDif qual (defScope sDif) f cdv A outer s H E) (E := E) rfl rfl rfl rfl
    have pw := passes_of (X := cxOf (L2.CX P w) P w K mg base nDif qual (defScope sDif) f cdv A outer s H E) rfl
    (ds_cons (ds_for pw rfl (di_seq (de_sortK hu (by rfl) T.sorted (by rfl) T.str (de_callTy (cad_listKD rfl) (by rfl) T.list (by decide +kernel) (da_cons (de_var 1 rfl) da_nil)))) (dg_name (i := 2) nd rfl (by first | exact .inl rfl | exact .inr rfl)) (ds_one (ds_if (dt_cmp opd_lt (de_get2 hv (de_var 0 rfl) (de_var 2 rfl) de_int) (de_dget hv (de_var 1 rfl) (de_var 2 rfl) (fun _ _ => rfl))) (ds_one (ds_raise erc_Short rfl hG hr (by decide) (by rfl) tk passL (da_cons (de_var 2 rfl) da_nil))) ds_nil)))
      (ds_one (ds_ret (de_call cwzD hG hr (by decide) (by rfl) tk (da_cons (de_dcD (own := [("name", 2), ("number", 3)]) rfl nd (wd_items (pth_var 0)) (blkOk_by (N := nDif) (sc := defScope sDif) (by decide +kernel)) (fun _ _ _ _ _ => (dgw_tup (n := 2) rfl (dgsw_cons (dgw_name (i := 2) nd rfl (by first | exact .inl rfl | exact .inr rfl) (by decide)) (dgsw_cons (dgw_name (i := 3) nd rfl (by first | exact .inl rfl | exact .inr rfl) (by decide)) dgsw_nil)))) (fun _ _ _ _ _ => dts_nil) (fun _ _ _ _ _ => (de_var 2 rfl)) (fun _ _ _ _ _ => (de_op opd_sub (de_var 3 rfl) (de_get2 hv (de_var 1 rfl) (de_var 2 rfl) de_int)))) da_nil)))))) ?_
  · exact FDif.mono
  · exact FDif.len
  · rintro ds μ Q E ⟨a, b, rfl, na, nb, ob, la, lb, hb', z, ze⟩
    have sz := sizeLine_eq
    let R : Option D → Option D → Rho := fun v2 v3 => [some (.dct (nK a)), some (.dct (nK b)), v2, v3]
    refine ⟨_, rfl, _, nK b, rfl, rfl, by simp [nK]; omega, ?_⟩
    rw [nK_kOf]
    refine ⟨b.map (·.1), rfl, _, rfl, fun i ρ' μ' => (∃ v2 v3 : Option D, ρ' = R v2 v3) ∧ μ' = μ ∧ ((ordS (b.map (·.1))).take i).find? (fun s => decide (num a s < num b s)) = none, ⟨⟨_, _, rfl⟩, rfl, rfl⟩, fun _ _ _ _ => rfl, ?_, ?_⟩
    · rintro i x ρ' μ' hx ⟨⟨v2, v3, rfl⟩, e1, hp⟩
      have e2 := e1.symm
      subst e2
      rw [List.getElem?_map] at hx
      obtain ⟨s, hs, rfl⟩ := Option.map_eq_some_iff.mp hx
      obtain ⟨p, hp1, rfl⟩ := List.mem_map.mp ((ordS_perm _).mem_iff.mp (List.mem_of_getElem? hs))
      have vb : valD (nK b) (.inr p.1) = some (.int (num b p.1)) := by
        rw [val_nK]
        have := (look_mem nb (s := p.1) (i := p.2)).mpr hp1
        unfold num
        rw [this]; rfl
      refine ⟨_, rfl, nK a, rfl, _, rfl, nK a, _, rfl, rfl, ?_⟩
      rw [val_num]
      refine ⟨_, rfl, _, rfl, nK b, _, _, rfl, rfl, vb, _, rfl, ite_b (fun h => ?_) (fun h => ?_)⟩
      · exact ⟨_, rfl, by show 1 ≤ 1000; omega, sh_ok (ob p hp1).1 (ob p hp1).2.1, _, [], (List.append_nil _).symm, Nat.le_refl _, rfl, hb', ze _ (find_take hs hp (decide_eq_true h))⟩
      · exact ⟨⟨_, _, rfl⟩, rfl, find_next hs hp (decide_eq_false h)⟩
    · rintro ρ' μ' ⟨⟨v2, v3, rfl⟩, e1, hp⟩
      have e2 := e1.symm
      subst e2
      rw [List.length_map, List.take_length] at hp
      refine ⟨nK a, rfl, dc_pure (pSub b) (fun _ => trivial) (fun x hx acc NX N0 n1 n2 => ?_) (by rw [pSub_map]; exact nK_nd (by rw [subN_keys]; exact na)) (by rw [List.length_map, nK, List.length_map]; omega) (by rw [pSub_map]; exact nK_bd) hb' ?_⟩
      · obtain ⟨q, hq, rfl⟩ := List.mem_map.mp hx
        obtain ⟨p, hp, rfl⟩ := List.mem_map.mp hq
        refine ⟨_, rfl, rfl, _, _, rfl, _, _, rfl, rfl, _, rfl, _, rfl, _, rfl, nK b, rfl, _, rfl, nK b, _, rfl, rfl, ?_⟩
        rw [val_num]
        exact ⟨_, _, rfl, rfl, n1 (.inr p.1) _ _ rfl rfl⟩
      · rw [pSub_map]
        exact ⟨subN a b, rfl, by rw [subN_keys]; exact na, by unfold subN; rw [List.length_map]; omega, hb', _, _, .refl, z hp⟩


theorem num_mem {es : NL} (nd : (es.map (·.1)).Nodup) {p : Str × Int} (h : p ∈ es) : num es p.1 = p.2 := by
  unfold num
  rw [(look_mem nd (s := p.1) (i := p.2)).mpr h]; rfl
theorem num_no {es : NL} {s : Str} (h : s ∉ es.map (·.1)) : num es s = 0 := by
  unfold num
  rw [look_none.mpr h]; rfl
theorem SOk.pos {es : NL} (h : SOk es) {s : Str} (hs : s ∈ es.map (·.1)) : 0 < num es s := by
  obtain ⟨p, hp, rfl⟩ := List.mem_map.mp hs
  rw [num_mem h.nd hp]
  have h1 := bnum_iff.mp h.nn p hp
  have h2 := h.nz p hp
  omega
theorem SOk.nng {es : NL} (h : SOk es) (s : Str) : 0 ≤ num es s := by
  by_cases hs : s ∈ es.map (·.1)
  · have := h.pos hs; omega
  · rw [num_no hs]; exact Int.le_refl _
theorem num_add {a b : NL} (t : Str) : num (addN a b) t = num a t + num b t := by
  show (look (foldN _ [] _) t).getD 0 = _
  rw [foldN_look (acc := []) List.nodup_nil]
  by_cases h : t ∈ a.map (·.1) ++ b.map (·.1)
  · rw [if_pos h]; rfl
  · rw [if_neg h]
    rw [List.mem_append] at h
    rw [num_no (fun h1 => h (.inl h1)), num_no (fun h1 => h (.inr h1))]; rfl
theorem add_nd {a b : NL} : ((addN a b).map (·.1)).Nodup := foldN_nd List.nodup_nil
theorem add_keys {a b : NL} {s : Str} (h : s ∈ (addN a b).map (·.1)) : s ∈ a.map (·.1) ++ b.map (·.1) := Classical.byContradiction fun hn => by
  obtain ⟨p, hp, rfl⟩ := List.mem_map.mp h
  have h1 := (look_mem add_nd (s := p.1) (i := p.2)).mpr hp
  have h2 : look (addN a b) p.1 = none := by
    show look (foldN _ [] _) p.1 = none
    rw [foldN_look (acc := []) List.nodup_nil, if_neg hn]; rfl
  rw [h2] at h1; cases h1
theorem add_len {a b : NL} : (addN a b).length ≤ a.length + b.length := by
  have := foldN_len (v := fun s => num a s + num b s) (ss := a.map (·.1) ++ b.map (·.1)) (acc := [])
  simp only [List.length_append, List.length_map, List.length_nil] at this
  show (foldN _ [] _).length ≤ _
  omega
theorem SOk.key {es : NL} (h : SOk es) {s : Str} (hs : s ∈ es.map (·.1)) : Asc s ∧ s.length ≤ 100 ∧ nameB s = true := by
  obtain ⟨p, hp, rfl⟩ := List.mem_map.mp hs
  exact ⟨(h.ok p hp).1, (h.ok p hp).2.1, bname_iff.mp h.nm p hp⟩
theorem SOk.add {a b : NL} (ha : SOk a) (hb : SOk b) (hB : ∀ s, num a s + num b s < 10 ^ 31) : SOk (addN a b) := by
  have key : ∀ p ∈ addN a b, (Asc p.1 ∧ p.1.length ≤ 100 ∧ nameB p.1 = true) ∧ 0 < p.2 ∧ p.2 < 10 ^ 31 := fun p hp => by
    have hk := List.mem_append.mp (add_keys (List.mem_map.mpr ⟨p, hp, rfl⟩))
    have e : p.2 = num a p.1 + num b p.1 := by rw [← num_add, num_mem add_nd hp]
    have n1 := ha.nng p.1
    have n2 := hb.nng p.1
    have hB' := hB p.1
    rcases hk with h | h
    · have := ha.pos h; exact ⟨ha.key h, by omega, by omega⟩
    · have := hb.pos h; exact ⟨hb.key h, by omega, by omega⟩
  exact ⟨fun p hp => ⟨(key p hp).1.1, (key p hp).1.2.1, by have := (key p hp).2; omega⟩, add_nd, bname_iff.mpr fun p hp => (key p hp).1.2.2, bnum_iff.mpr fun p hp => by have := (key p hp).2.1; omega, fun p hp => by have := (key p hp).2.1; omega⟩
theorem sh_no {a b : NL} (ob : SOk b) (oa : SOk a) (h : shN a b = none) (s : Str) : num b s ≤ num a s := by
  by_cases hs : s ∈ b.map (·.1)
  · have := List.find?_eq_none.mp h s ((ordS_perm _).mem_iff.mpr hs)
    rw [decide_eq_true_eq] at this
    omega
  · rw [num_no hs]; exact oa.nng s
theorem sub_nd {a b : NL} (h : SOk a) : ((subN a b).map (·.1)).Nodup := by rw [subN_keys]; exact h.nd
theorem sub_mem {a b : NL} {p : Str × Int} (oa : SOk a) (h : p ∈ subN a b) : p.1 ∈ a.map (·.1) ∧ p.2 = num a p.1 - num b p.1 := by
  obtain ⟨q, hq, rfl⟩ := List.mem_map.mp h
  exact ⟨List.mem_map.mpr ⟨q, hq, rfl⟩, by show q.2 - num b q.1 = _; rw [num_mem oa.nd hq]⟩
theorem num_sub {a b : NL} (oa : SOk a) (ob : SOk b) (h : shN a b = none) (t : Str) : num (nz (subN a b)) t = num a t - num b t := by
  rw [num_nz (sub_nd oa)]
  by_cases ht : t ∈ (subN a b).map (·.1)
  · obtain ⟨p, hp, rfl⟩ := List.mem_map.mp ht
    rw [num_mem (sub_nd oa) hp]
    exact (sub_mem oa hp).2
  · have h1 := num_no ht
    rw [subN_keys] at ht
    have h2 := num_no ht
    have h3 := sh_no ob oa h t
    have h4 := ob.nng t
    omega
theorem SOk.sub {a b : NL} (oa : SOk a) (ob : SOk b) (h : shN a b = none) : SOk (Dl.nz (subN a b)) := by
  have key : ∀ p ∈ Dl.nz (subN a b), (Asc p.1 ∧ p.1.length ≤ 100 ∧ nameB p.1 = true) ∧ 0 < p.2 ∧ p.2 < 10 ^ 31 := fun p hp => by
    obtain ⟨hp, h0⟩ := List.mem_filter.mp hp
    have h0 := of_decide_eq_true h0
    obtain ⟨h1, h2⟩ := sub_mem oa hp
    have h3 := sh_no ob oa h p.1
    have h4 := ob.nng p.1
    obtain ⟨q, hq, e⟩ := List.mem_map.mp h1
    have h5 := (oa.ok q hq).2.2
    have h6 := num_mem oa.nd hq
    rw [e] at h6
    exact ⟨oa.key h1, by omega, by omega⟩
  exact ⟨fun p hp => ⟨(key p hp).1.1, (key p hp).1.2.1, by have := (key p hp).2; omega⟩, nz_nd (sub_nd oa), bname_iff.mpr fun p hp => (key p hp).1.2.2, bnum_iff.mpr fun p hp => by have := (key p hp).2.1; omega, fun p hp => by have := (key p hp).2.1; omega⟩
theorem sub_len {a b : NL} : (nz (subN a b)).length ≤ a.length := by
  have := nz_len (es := subN a b)
  unfold subN at this ⊢
  rw [List.length_map] at this
  exact this
abbrev sSAd : Stmt := inCls (top 16) 6
abbrev nSAd : List Str := ["self", "other"]
theorem scSAd : FnScope nSAd ["self", "other"] (defScope sSAd) := ⟨rfl, rfl, rfl, by decide +kernel, rfl, by decide +kernel, by decide +kernel⟩
inductive FSAd (C_Stock : Addr) (ds : List D) (μ : Sto) (Q : QD) (E : XD) : Prop
  | mk (x : D) (y : D) (a : NL) (b : NL) (a1 : ds = [x, y]) (a2 : StAt C_Stock a x μ) (a3 : StAt C_Stock b y μ) (a4 : SOk a) (a5 : SOk b) (a6 : a.length ≤ 400) (a7 : b.length ≤ 400) (a8 : (∀ s, num a s + num b s < 10 ^ 31)) (a9 : bdS μ.length μ = true) (a10 : Q (.cell μ.length) (μ ++ [CT.ins C_Stock (stF (addN a b))])) : FSAd C_Stock ds μ Q E
theorem FSAd.mono {C_Stock : Addr} : MonF (FSAd C_Stock) := fun ds μ Q Q' E E' h he q => match q with | .mk x y a b a1 a2 a3 a4 a5 a6 a7 a8 a9 a10 => .mk x y a b a1 a2 a3 a4 a5 a6 a7 a8 a9 (h _ _ a10)
theorem FSAd.len {C_Stock : Addr} : ∀ ds μ Q E, FSAd C_Stock ds μ Q E → ds.length = 2 := fun ds μ Q E q => by obtain ⟨_, _, _, _, e, _, _, _, _, _, _, _, _, _⟩ := q; rw [e]; rfl
theorem met_SAd (hm_Stock : mg "Stock" = some (.ref C_Stock)) (isC_Stock : IsC K C_Stock) (kit_Stock : PySem.W.kitOne K (.ref C_Stock) (.ref C_Stock) = some true) (na_numbers : NoAttr K C_Stock ("_numbers" : Str)) (cstD : Mak P w K mg base 5 "Stock" C_Stock (FSIniD C_Stock) []) (cSum : Cal P w K mg base 1 "sums_of" FSum []) {f : Addr} {fd : FuncData} {qual : Str} (T : NoB mg) (Fu : FunA K "__add__" qual sSAd f fd) (cC : Cls K C_Stock) (M : Meth K C_Stock "__add__" f) (hb : L2.Binds K fd ["self", "other"] []) : Met P w K mg base 7 C_Stock "__add__" (FSAd C_Stock) [] := by
  have nd := scSAd.nd
  refine met_fun Fu scSAd cC M hb ?_ ?_ (fun cdv A outer s H E hG hr =>
    have hu : (cxOf (L2.CX P w) P w K mg base nSAd qual (defScope sSAd) f cdv A outer s H E).A.units + 64 < cLine := by have := hr.un; show (A.deeper _).units + 64 < _; omega
    have hv : (cxOf (L2.CX P w) P w K mg base nSAd qual (defScope sSAd) f cdv A outer s H E).A.units + 1 < cLine := by omega
    have tk := takes_of (X := cxOf (L2.CX P w) P w K mg base nSAd qual (defScope sSAd) f cdv A outer s H E) (E := E) rfl rfl rfl rfl
    have pw := passes_of (X := cxOf (L2.CX P w) P w K mg base nSAd qual (defScope sSAd) f cdv A outer s H E) rfl
    (ds_cons (ds_if (dt_not (dt_val (de_callB cad_isi (by rfl) T.isinstance (by decide +kernel) (da_cons (de_var 1 rfl) (da_cons (de_cls (by rfl) hm_Stock) da_nil))))) (ds_one ds_never) ds_nil)
      (ds_one (ds_ret (de_make cstD hG hr (by decide) (by rfl) tk (da_cons (de_call cSum hG hr (by decide) (by rfl) tk (da_cons (de_fld (de_var 0 rfl)) (da_cons (de_fld (de_var 1 rfl)) da_nil))) da_nil)))))) ?_
  · exact FSAd.mono
  · exact FSAd.len
  · rintro ds μ Q E ⟨x, y, a, b, rfl, ha, hb2, oa, ob, la, lb, hB, hb', z⟩
    have sz := sizeLine_eq
    have bb : bdS (μ ++ [CT.ins C_Stock []]).length (μ ++ [CT.ins C_Stock []]) = true := by rw [bdS_app, bdS_mono (by simp) hb']; rfl
    refine ⟨_, rfl, _, _, _, _, _, rfl, .inl ⟨_, rfl, rfl⟩, .ins y C_Stock _ hb2 isC_Stock, kit_Stock, _, rfl, iff_ rfl ?_⟩
    have so := oa.add ob hB
    have sl := add_len (a := a) (b := b)
    refine ⟨_, rfl, C_Stock, _, _, ha, cC, na_numbers, rfl, _, rfl, C_Stock, _, _, hb2, cC, na_numbers, rfl, a, b, rfl, la, lb, hb', ?_⟩
    refine ⟨μ.length, .dct (nK (addN a b)), addN a b, rfl, ap_get, .inr rfl, so.ok, so.nd, by omega, so.nm, so.nn, bb, ?_⟩
    rw [ap_set, so.nz_eq]
    exact ⟨rfl, _, _, .refl, _, _, .refl, z⟩

abbrev sSSu : Stmt := inCls (top 16) 7
abbrev nSSu : List Str := ["self", "other"]
theorem scSSu : FnScope nSSu ["self", "other"] (defScope sSSu) := ⟨rfl, rfl, rfl, by decide +kernel, rfl, by decide +kernel, by decide +kernel⟩
inductive FSSu (C_Stock C_Short : Addr) (ds : List D) (μ : Sto) (Q : QD) (E : XD) : Prop
  | mk (x : D) (y : D) (a : NL) (b : NL) (a1 : ds = [x, y]) (a2 : StAt C_Stock a x μ) (a3 : StAt C_Stock b y μ) (a4 : SOk a) (a5 : SOk b) (a6 : a.length ≤ 400) (a7 : b.length ≤ 400) (a8 : bdS μ.length μ = true) (a9 : (shN a b = none → Q (.cell μ.length) (μ ++ [CT.ins C_Stock (stF (nz (subN a b)))]))) (a10 : (∀ s, shN a b = some s → E (.ref C_Short) [("name", .str s)] μ)) : FSSu C_Stock C_Short ds μ Q E
theorem FSSu.mono {C_Stock C_Short : Addr} : MonF (FSSu C_Stock C_Short) := fun ds μ Q Q' E E' h he q => match q with | .mk x y a b a1 a2 a3 a4 a5 a6 a7 a8 a9 a10 => .mk x y a b a1 a2 a3 a4 a5 a6 a7 a8 (by intros; apply h; apply a9 <;> assumption) (by intros; apply he; apply a10 <;> assumption)
theorem FSSu.len {C_Stock C_Short : Addr} : ∀ ds μ Q E, FSSu C_Stock C_Short ds μ Q E → ds.length = 2 := fun ds μ Q E q => by obtain ⟨_, _, _, _, e, _, _, _, _, _, _, _, _, _⟩ := q; rw [e]; rfl
theorem met_SSu (hm_Stock : mg "Stock" = some (.ref C_Stock)) (isC_Stock : IsC K C_Stock) (kit_Stock : PySem.W.kitOne K (.ref C_Stock) (.ref C_Stock) = some true) (na_numbers : NoAttr K C_Stock ("_numbers" : Str)) (cstD : Mak P w K mg base 5 "Stock" C_Stock (FSIniD C_Stock) []) (cDif : Cal P w K mg base 3 "differences_of" (FDif C_Short) []) {f : Addr} {fd : FuncData} {qual : Str} (T : NoB mg) (Fu : FunA K "__sub__" qual sSSu f fd) (cC : Cls K C_Stock) (M : Meth K C_Stock "__sub__" f) (hb : L2.Binds K fd ["self", "other"] []) : Met P w K mg base 7 C_Stock "__sub__" (FSSu C_Stock C_Short) [] := by
  have nd := scSSu.nd
  refine met_fun Fu scSSu cC M hb ?_ ?_ (fun cdv A outer s H E hG hr =>
    have hu : (cxOf (L2.CX P w) P w K mg base nSSu qual (defScope sSSu) f cdv A outer s H E).A.units + 64 < cLine := by have := hr.un; show (A.deeper _).units + 64 < _; omega
    have hv : (cxOf (L2.CX P w) P w K mg base nSSu qual (defScope sSSu) f cdv A outer s H E).A.units + 1 < cLine := by omega
    have tk := takes_of (X := cxOf (L2.CX P w) P w K mg base nSSu qual (defScope sSSu) f cdv A outer s H E) (E := E) rfl rfl rfl rfl
    have pw := passes_of (X := cxOf (L2.CX P w) P w K mg base nSSu qual (defScope sSSu) f cdv A outer s H E) rfl
    (ds_cons (ds_if (dt_not (dt_val (de_callB cad_isi (by rfl) T.isinstance (by decide +kernel) (da_cons (de_var 1 rfl) (da_cons (de_cls (by rfl) hm_Stock) da_nil))))) (ds_one ds_never) ds_nil)
      (ds_one (ds_ret (de_make cstD hG hr (by decide) (by rfl) tk (da_cons (de_call cDif hG hr (by decide) (by rfl) tk (da_cons (de_fld (de_var 0 rfl)) (da_cons (de_fld (de_var 1 rfl)) da_nil))) da_nil)))))) ?_
  · exact FSSu.mono
  · exact FSSu.len
  · rintro ds μ Q E ⟨x, y, a, b, rfl, ha, hb2, oa, ob, la, lb, hb', z, ze⟩
    have sz := sizeLine_eq
    have bb : bdS (μ ++ [CT.ins C_Stock []]).length (μ ++ [CT.ins C_Stock []]) = true := by rw [bdS_app, bdS_mono (by simp) hb']; rfl
    refine ⟨_, rfl, _, _, _, _, _, rfl, .inl ⟨_, rfl, rfl⟩, .ins y C_Stock _ hb2 isC_Stock, kit_Stock, _, rfl, iff_ rfl ?_⟩
    refine ⟨_, rfl, C_Stock, _, _, ha, cC, na_numbers, rfl, _, rfl, C_Stock, _, _, hb2, cC, na_numbers, rfl, a, b, rfl, oa.nd, ob.nd, ob.ok, by omega, by omega, hb', fun h => ?_, fun s h => ⟨_, [], (List.append_nil _).symm, Nat.le_refl _, rfl, hb', ze s h⟩⟩
    have so := oa.sub ob h
    have sl := sub_len (a := a) (b := b)
    refine ⟨μ.length, .dct (nK (nz (subN a b))), nz (subN a b), rfl, ap_get, .inr rfl, so.ok, so.nd, by omega, so.nm, so.nn, bb, ?_⟩
    rw [ap_set, so.nz_eq]
    exact ⟨rfl, _, _, .refl, _, _, .refl, z h⟩

abbrev sSIa : Stmt := inCls (top 16) 8
abbrev nSIa : List Str := ["self", "other"]
theorem scSIa : FnScope nSIa ["self", "other"] (defScope sSIa) := ⟨rfl, rfl, rfl, by decide +kernel, rfl, by decide +kernel, by decide +kernel⟩
inductive FSIa (C_Stock : Addr) (ds : List D) (μ : Sto) (Q : QD) (E : XD) : Prop
  | mk (n : Nat) (y : D) (a : NL) (b : NL) (a1 : ds = [.cell n, y]) (a2 : μ[n]? = some (.ins C_Stock (stF a))) (a3 : StAt C_Stock b y μ) (a4 : SOk a) (a5 : SOk b) (a6 : a.length ≤ 400) (a7 : b.length ≤ 400) (a8 : bdS μ.length μ = true) (a9 : Q (.cell n) (μ.set n (.ins C_Stock (stF (addN a b))))) : FSIa C_Stock ds μ Q E
theorem FSIa.mono {C_Stock : Addr} : MonF (FSIa C_Stock) := fun ds μ Q Q' E E' h he q => match q with | .mk n y a b a1 a2 a3 a4 a5 a6 a7 a8 a9 => .mk n y a b a1 a2 a3 a4 a5 a6 a7 a8 (h _ _ a9)
theorem FSIa.len {C_Stock : Addr} : ∀ ds μ Q E, FSIa C_Stock ds μ Q E → ds.length = 2 := fun ds μ Q E q => by obtain ⟨_, _, _, _, e, _, _, _, _, _, _, _, _⟩ := q; rw [e]; rfl
theorem met_SIa (hm_Stock : mg "Stock" = some (.ref C_Stock)) (isC_Stock : IsC K C_Stock) (kit_Stock : PySem.W.kitOne K (.ref C_Stock) (.ref C_Stock) = some true) (na_numbers : NoAttr K C_Stock ("_numbers" : Str)) (cls_Stock : Cls K C_Stock) (cSum : Cal P w K mg base 1 "sums_of" FSum []) {f : Addr} {fd : FuncData} {qual : Str} (T : NoB mg) (Fu : FunA K "__iadd__" qual sSIa f fd) (cC : Cls K C_Stock) (M : Meth K C_Stock "__iadd__" f) (hb : L2.Binds K fd ["self", "other"] []) : Met P w K mg base 2 C_Stock "__iadd__" (FSIa C_Stock) [] := by
  have nd := scSIa.nd
  refine met_fun Fu scSIa cC M hb ?_ ?_ (fun cdv A outer s H E hG hr =>
    have hu : (cxOf (L2.CX P w) P w K mg base nSIa qual (defScope sSIa) f cdv A outer s H E).A.units + 64 < cLine := by have := hr.un; show (A.deeper _).units + 64 < _; omega
    have hv : (cxOf (L2.CX P w) P w K mg base nSIa qual (defScope sSIa) f cdv A outer s H E).A.units + 1 < cLine := by omega
    have tk := takes_of (X := cxOf (L2.CX P w) P w K mg base nSIa qual (defScope sSIa) f cdv A outer s H E) (E := E) rfl rfl rfl rfl
    have pw := passes_of (X := cxOf (L2.CX P w) P w K mg base nSIa qual (defScope sSIa) f cdv A outer s H E) rfl
    (ds_cons (ds_if (dt_not (dt_val (de_callB cad_isi (by rfl) T.isinstance (by decide +kernel) (da_cons (de_var 1 rfl) (da_cons (de_cls (by rfl) hm_Stock) da_nil))))) (ds_one ds_never) ds_nil)
      (ds_cons (ds_fld (de_var 0 rfl) (de_call cSum hG hr (by decide) (by rfl) tk (da_cons (de_fld (de_var 0 rfl)) (da_cons (de_fld (de_var 1 rfl)) da_nil))))
      (ds_one (ds_ret (de_var 0 rfl)))))) ?_
  · exact FSIa.mono
  · exact FSIa.len
  · rintro ds μ Q E ⟨n, y, a, b, rfl, hn, hb2, oa, ob, la, lb, hb', z⟩
    have sz := sizeLine_eq
    have hI : asI μ (.cell n) = some (C_Stock, stF a) := by simp only [asI, hn]
    refine ⟨_, rfl, _, _, _, _, _, rfl, .inl ⟨_, rfl, rfl⟩, .ins y C_Stock _ hb2 isC_Stock, kit_Stock, _, rfl, iff_ rfl ?_⟩
    refine ⟨_, rfl, C_Stock, _, _, hI, cls_Stock, na_numbers, rfl, _, rfl, C_Stock, _, _, hb2, cls_Stock, na_numbers, rfl, a, b, rfl, la, lb, hb', ?_⟩
    exact ⟨_, rfl, n, C_Stock, _, rfl, hn, cls_Stock, na_numbers, by show 1 < 1000; decide, _, rfl, _, _, .refl, z⟩

abbrev sSIs : Stmt := inCls (top 16) 9
abbrev nSIs : List Str := ["self", "other"]
theorem scSIs : FnScope nSIs ["self", "other"] (defScope sSIs) := ⟨rfl, rfl, rfl, by decide +kernel, rfl, by decide +kernel, by decide +kernel⟩
inductive FSIs (C_Stock C_Short : Addr) (ds : List D) (μ : Sto) (Q : QD) (E : XD) : Prop
  | mk (n : Nat) (y : D) (a : NL) (b : NL) (a1 : ds = [.cell n, y]) (a2 : μ[n]? = some (.ins C_Stock (stF a))) (a3 : StAt C_Stock b y μ) (a4 : SOk a) (a5 : SOk b) (a6 : a.length ≤ 400) (a7 : b.length ≤ 400) (a8 : bdS μ.length μ = true) (a9 : (shN a b = none → Q (.cell n) (μ.set n (.ins C_Stock (stF (nz (subN a b))))))) (a10 : (∀ s, shN a b = some s → E (.ref C_Short) [("name", .str s)] μ)) : FSIs C_Stock C_Short ds μ Q E
theorem FSIs.mono {C_Stock C_Short : Addr} : MonF (FSIs C_Stock C_Short) := fun ds μ Q Q' E E' h he q => match q with | .mk n y a b a1 a2 a3 a4 a5 a6 a7 a8 a9 a10 => .mk n y a b a1 a2 a3 a4 a5 a6 a7 a8 (by intros; apply h; apply a9 <;> assumption) (by intros; apply he; apply a10 <;> assumption)
theorem FSIs.len {C_Stock C_Short : Addr} : ∀ ds μ Q E, FSIs C_Stock C_Short ds μ Q E → ds.length = 2 := fun ds μ Q E q => by obtain ⟨_, _, _, _, e, _, _, _, _, _, _, _, _, _⟩ := q; rw [e]; rfl
theorem met_SIs (hm_Stock : mg "Stock" = some (.ref C_Stock)) (isC_Stock : IsC K C_Stock) (kit_Stock : PySem.W.kitOne K (.ref C_Stock) (.ref C_Stock) = some true) (na_numbers : NoAttr K C_Stock ("_numbers" : Str)) (cls_Stock : Cls K C_Stock) (cDif : Cal P w K mg base 3 "differences_of" (FDif C_Short) []) {f : Addr} {fd : FuncData} {qual : Str} (T : NoB mg) (Fu : FunA K "__isub__" qual sSIs f fd) (cC : Cls K C_Stock) (M : Meth K C_Stock "__isub__" f) (hb : L2.Binds K fd ["self", "other"] []) : Met P w K mg base 4 C_Stock "__isub__" (FSIs C_Stock C_Short) [] := by
  have nd := scSIs.nd
  refine met_fun Fu scSIs cC M hb ?_ ?_ (fun cdv A outer s H E hG hr =>
    have hu : (cxOf (L2.CX P w) P w K mg base nSIs qual (defScope sSIs) f cdv A outer s H E).A.units + 64 < cLine := by have := hr.un; show (A.deeper _).units + 64 < _; omega
    have hv : (cxOf (L2.CX P w) P w K mg base nSIs qual (defScope sSIs) f cdv A outer s H E).A.units + 1 < cLine := by omega
    have tk := takes_of (X := cxOf (L2.CX P w) P w K mg base nSIs qual (defScope sSIs) f cdv A outer s H E) (E := E) rfl rfl rfl rfl
    have pw := passes_of (X := cxOf (L2.CX P w) P w K mg base nSIs qual (defScope sSIs) f cdv A outer s H E) rfl
    (ds_cons (ds_if (dt_not (dt_val (de_callB cad_isi (by rfl) T.isinstance (by decide +kernel) (da_cons (de_var 1 rfl) (da_cons (de_cls (by rfl) hm_Stock) da_nil))))) (ds_one ds_never) ds_nil)
      (ds_cons (ds_fld (de_var 0 rfl) (de_call cDif hG hr (by decide) (by rfl) tk (da_cons (de_fld (de_var 0 rfl)) (da_cons (de_fld (de_var 1 rfl)) da_nil))))
      (ds_one (ds_ret (de_var 0 rfl)))))) ?_
  · exact FSIs.mono
  · exact FSIs.len
  · rintro ds μ Q E ⟨n, y, a, b, rfl, hn, hb2, oa, ob, la, lb, hb', z, ze⟩
    have sz := sizeLine_eq
    have hI : asI μ (.cell n) = some (C_Stock, stF a) := by simp only [asI, hn]
    refine ⟨_, rfl, _, _, _, _, _, rfl, .inl ⟨_, rfl, rfl⟩, .ins y C_Stock _ hb2 isC_Stock, kit_Stock, _, rfl, iff_ rfl ?_⟩
    refine ⟨_, rfl, C_Stock, _, _, hI, cls_Stock, na_numbers, rfl, _, rfl, C_Stock, _, _, hb2, cls_Stock, na_numbers, rfl, a, b, rfl, oa.nd, ob.nd, ob.ok, by omega, by omega, hb', fun h => ?_, fun s h => ⟨_, [], (List.append_nil _).symm, Nat.le_refl _, rfl, hb', ze s h⟩⟩
    exact ⟨_, rfl, n, C_Stock, _, rfl, hn, cls_Stock, na_numbers, by show 1 < 1000; decide, _, rfl, _, _, .refl, z h⟩

end
end Dl

/-! texts.index(text) -/
namespace Dl
open PySem PySem.Spec L2
open PyProof.Rows hiding St Binds
section
variable {X : Cx}
end
end Dl

namespace Dl
open PySem PySem.Spec L2
open PyProof.Rows hiding St Binds
section
variable {P : Program} {w : World} {K : PySem.W.Frag} {mg : Str → Option Value} {base : Heap} {C_BadName C_BadNumber C_Short C_Stock : Addr}

def iK (es : NL) : List (Key × Int) := es.map fun p => (.inr p.1, p.2)
theorem nK_i (es : NL) : nK es = intsD (iK es) := by unfold nK intsD iK; rw [List.map_map]; rfl
theorem lookI_i (s : Str) : ∀ es : NL, lookI (iK es) (.inr s) = look es s
  | [] => rfl
  | p :: es => by
    have ih := lookI_i s es
    unfold lookI look iK at *
    rw [List.map_cons, List.find?_cons, List.find?_cons]
    by_cases h : p.1 = s
    · simp [h]
    · have h' : ¬ (Sum.inr p.1 : Key) = .inr s := fun e => h (Sum.inr.inj e)
      simpa [h, h'] using ih
theorem SOk.key_iff {es : NL} (h : SOk es) {s : Str} : s ∈ es.map (·.1) ↔ num es s ≠ 0 := ⟨fun hs => by have := h.pos hs; omega, fun hn => Classical.byContradiction fun h0 => hn (num_no h0)⟩
theorem eq_st {a b : NL} (oa : SOk a) (ob : SOk b) (h : ∀ s, num a s = num b s) : eqKI (iK a) (iK b) = true := by
  have ks : ∀ s, s ∈ a.map (·.1) ↔ s ∈ b.map (·.1) := fun s => by rw [oa.key_iff, ob.key_iff, h s]
  have pm : (a.map (·.1)).Perm (b.map (·.1)) := (List.perm_ext_iff_of_nodup oa.nd ob.nd).mpr ks
  have pl := pm.length_eq
  rw [List.length_map, List.length_map] at pl
  unfold eqKI
  rw [Bool.and_eq_true]
  refine ⟨by unfold iK; simp [pl], List.all_eq_true.mpr fun q hq => ?_⟩
  obtain ⟨p, hp, rfl⟩ := List.mem_map.mp hq
  rw [decide_eq_true_eq, lookI_i]
  have hk : p.1 ∈ b.map (·.1) := (ks p.1).mp (List.mem_map.mpr ⟨p, hp, rfl⟩)
  obtain ⟨q, hq2, e⟩ := List.mem_map.mp hk
  have h1 := num_mem oa.nd hp
  have h2 := num_mem ob.nd hq2
  have h3 := (look_mem ob.nd (s := q.1) (i := q.2)).mpr hq2
  rw [e] at h2 h3
  rw [h3, ← h2, ← h p.1, h1]
abbrev sSEq : Stmt := inCls (top 16) 10
abbrev nSEq : List Str := ["self", "other"]
theorem scSEq : FnScope nSEq ["self", "other"] (defScope sSEq) := ⟨rfl, rfl, rfl, by decide +kernel, rfl, by decide +kernel, by decide +kernel⟩
inductive FSEq (C_Stock : Addr) (ds : List D) (μ : Sto) (Q : QD) (E : XD) : Prop
  | mk (x : D) (y : D) (a : NL) (b : NL) (a1 : ds = [x, y]) (a2 : StAt C_Stock a x μ) (a3 : StAt C_Stock b y μ) (a4 : SOk a) (a5 : SOk b) (a6 : (∀ s, num a s = num b s)) (a7 : Q (.bl true) μ) : FSEq C_Stock ds μ Q E
theorem FSEq.mono {C_Stock : Addr} : MonF (FSEq C_Stock) := fun ds μ Q Q' E E' h he q => match q with | .mk x y a b a1 a2 a3 a4 a5 a6 a7 => .mk x y a b a1 a2 a3 a4 a5 a6 (h _ _ a7)
theorem FSEq.len {C_Stock : Addr} : ∀ ds μ Q E, FSEq C_Stock ds μ Q E → ds.length = 2 := fun ds μ Q E q => by obtain ⟨_, _, _, _, e, _, _, _, _, _, _⟩ := q; rw [e]; rfl
theorem met_SEq (hm_Stock : mg "Stock" = some (.ref C_Stock)) (isC_Stock : IsC K C_Stock) (kit_Stock : PySem.W.kitOne K (.ref C_Stock) (.ref C_Stock) = some true) (na_numbers : NoAttr K C_Stock ("_numbers" : Str)) {f : Addr} {fd : FuncData} {qual : Str} (T : NoB mg) (Fu : FunA K "__eq__" qual sSEq f fd) (cC : Cls K C_Stock) (M : Meth K C_Stock "__eq__" f) (hb : L2.Binds K fd ["self", "other"] []) : Met P w K mg base 1 C_Stock "__eq__" (FSEq C_Stock) [] := by
  have nd := scSEq.nd
  refine met_fun Fu scSEq cC M hb ?_ ?_ (fun cdv A outer s H E hG hr =>
    have hu : (cxOf (L2.CX P w) P w K mg base nSEq qual (defScope sSEq) f cdv A outer s H E).A.units + 64 < cLine := by have := hr.un; show (A.deeper _).units + 64 < _; omega
    have hv : (cxOf (L2.CX P w) P w K mg base nSEq qual (defScope sSEq) f cdv A outer s H E).A.units + 1 < cLine := by omega
    have tk := takes_of (X := cxOf (L2.CX P w) P w K mg base nSEq qual (defScope sSEq) f cdv A outer s H E) (E := E) rfl rfl rfl rfl
    have pw := passes_of (X := cxOf (L2.CX P w) P w K mg base nSEq qual (defScope sSEq) f cdv A outer s H E) rfl
    (ds_cons (ds_if (dt_not (dt_val (de_callB cad_isi (by rfl) T.isinstance (by decide +kernel) (da_cons (de_var 1 rfl) (da_cons (de_cls (by rfl) hm_Stock) da_nil))))) (ds_one (ds_ret de_bl)) ds_nil)
      (ds_one (ds_ret (de_cmp (opd_eqDI hv) (de_fld (de_var 0 rfl)) (de_fld (de_var 1 rfl))))))) ?_
  · exact FSEq.mono
  · exact FSEq.len
  · rintro ds μ Q E ⟨x, y, a, b, rfl, ha, hb2, oa, ob, h, z⟩
    refine ⟨_, rfl, _, _, _, _, _, rfl, .inl ⟨_, rfl, rfl⟩, .ins y C_Stock _ hb2 isC_Stock, kit_Stock, _, rfl, iff_ rfl ?_⟩
    have e := eq_st oa ob h
    refine ⟨_, rfl, C_Stock, _, _, ha, cC, na_numbers, rfl, _, rfl, C_Stock, _, _, hb2, cC, na_numbers, rfl, iK a, iK b, congrArg some (nK_i a), congrArg some (nK_i b), ?_⟩
    rw [e]
    exact ⟨_, _, .refl, z⟩

def pLeN (b : NL) : D → Option D
  | .tup [.str s, .int i] => some (.bl (decide (i ≤ num b s)))
  | _ => none
theorem pLeN_map (b : NL) : ∀ a : NL, ((nK a).map fun q => D.tup [kOf q.1, q.2]).filterMap (pLeN b) = (a.map fun q => decide (q.2 ≤ num b q.1)).map D.bl
  | [] => rfl
  | p :: a => by
    have ih := pLeN_map b a
    unfold nK at *
    rw [List.map_cons, List.map_cons, List.filterMap_cons]
    show D.bl _ :: _ = _
    rw [ih]; rfl
theorem asI_moreS {μ ν : Sto} {d : D} {C : Addr} {fd : List (Str × D)} (h : asI μ d = some (C, fd)) : asI (μ ++ ν) d = some (C, fd) := by
  cases d with
  | cell n =>
    simp only [asI] at h ⊢
    split at h
    · rename_i C' f' e
      rw [ga_app e]; exact h
    · cases h
  | _ => exact h

abbrev sSLe : Stmt := inCls (top 16) 11
abbrev nSLe : List Str := ["self", "other", "name", "number"]
theorem scSLe : FnScope nSLe ["self", "other"] (defScope sSLe) := ⟨rfl, rfl, rfl, by decide +kernel, rfl, by decide +kernel, by decide +kernel⟩
inductive FSLe (C_Stock : Addr) (ds : List D) (μ : Sto) (Q : QD) (E : XD) : Prop
  | mk (x : D) (y : D) (a : NL) (b : NL) (a1 : ds = [x, y]) (a2 : StAt C_Stock a x μ) (a3 : StAt C_Stock b y μ) (a4 : SOk a) (a5 : a.length ≤ 400) (a6 : (∀ s, num a s ≤ num b s)) (a7 : bdS μ.length μ = true) (a8 : Q (.bl true) μ) : FSLe C_Stock ds μ Q E
theorem FSLe.mono {C_Stock : Addr} : MonF (FSLe C_Stock) := fun ds μ Q Q' E E' h he q => match q with | .mk x y a b a1 a2 a3 a4 a5 a6 a7 a8 => .mk x y a b a1 a2 a3 a4 a5 a6 a7 (h _ _ a8)
theorem FSLe.len {C_Stock : Addr} : ∀ ds μ Q E, FSLe C_Stock ds μ Q E → ds.length = 2 := fun ds μ Q E q => by obtain ⟨_, _, _, _, e, _, _, _, _, _, _, _⟩ := q; rw [e]; rfl
theorem met_SLe (cls_Stock : Cls K C_Stock) (hm_Stock : mg "Stock" = some (.ref C_Stock)) (isC_Stock : IsC K C_Stock) (kit_Stock : PySem.W.kitOne K (.ref C_Stock) (.ref C_Stock) = some true) (na_numbers : NoAttr K C_Stock ("_numbers" : Str)) (cSGi : Met P w K mg base 1 C_Stock "__getitem__" (FSGi C_Stock) []) (cSGif : ∀ f, Meth K C_Stock "__getitem__" f → PySem.W.fnIn K f = true) {f : Addr} {fd : FuncData} {qual : Str} (T : NoB mg) (Fu : FunA K "__le__" qual sSLe f fd) (cC : Cls K C_Stock) (M : Meth K C_Stock "__le__" f) (hb : L2.Binds K fd ["self", "other"] []) : Met P w K mg base 3 C_Stock "__le__" (FSLe C_Stock) [] := by
  have nd := scSLe.nd
  refine met_fun Fu scSLe cC M hb ?_ ?_ (fun cdv A outer s H E hG hr =>
    have hu : (cxOf (L2.CX P w) P w K mg base nSLe qual (defScope sSLe) f cdv A outer s H E).A.units + 64 < cLine := by have := hr.un; show (A.deeper _).units + 64 < _; omega
    have hv : (cxOf (L2.CX P w) P w K mg base nSLe qual (defScope sSLe) f cdv A outer s H E).A.units + 1 < cLine := by omega
    have tk := takes_of (X := cxOf (L2.CX P w) P w K mg base nSLe qual (defScope sSLe) f cdv A outer s H E) (E := E) rfl rfl rfl rfl
    have pw := passes_of (X := cxOf (L2.CX P w) P w K mg base nSLe qual (defScope sSLe) f cdv A outer s H E) rfl
    (ds_cons (ds_if (dt_not (dt_val (de_callB cad_isi (by rfl) T.isinstance (by decide +kernel) (da_cons (de_var 1 rfl) (da_cons (de_cls (by rfl) hm_Stock) da_nil))))) (ds_one ds_never) ds_nil)
      (ds_one (ds_ret (de_callB (cad_all rfl) (by rfl) T.all (by decide +kernel) (da_cons (de_lcD (own := [("name", 2), ("number", 3)]) rfl nd (wd_items (pth_fld 0 cls_Stock na_numbers)) (blkOk_by (N := nSLe) (sc := defScope sSLe) (by decide +kernel)) (fun _ _ _ _ _ => (dgw_tup (n := 2) rfl (dgsw_cons (dgw_name (i := 2) nd rfl (by first | exact .inl rfl | exact .inr rfl) (by decide)) (dgsw_cons (dgw_name (i := 3) nd rfl (by first | exact .inl rfl | exact .inr rfl) (by decide)) dgsw_nil)))) (fun _ _ _ _ _ => dts_nil) (fun _ _ _ _ _ => (de_cmp opd_le (de_var 3 rfl) (de_getO (de_var 1 rfl) (de_var 2 rfl) cSGi cSGif hG hr (by decide))))) da_nil)))))) ?_
  · exact FSLe.mono
  · exact FSLe.len
  · rintro ds μ Q E ⟨x, y, a, b, rfl, ha, hb2, oa, la, h, hb', z⟩
    have sz := sizeLine_eq
    refine ⟨_, rfl, _, _, _, _, _, rfl, .inl ⟨_, rfl, rfl⟩, .ins y C_Stock _ hb2 isC_Stock, kit_Stock, _, rfl, iff_ rfl ?_⟩
    have ha' : asI μ x = some (C_Stock, stF a) := ha
    refine ⟨nK a, (by show gFld 0 C_Stock _ [some x, some y, none, none] μ = _; simp [gFld, ha', stF]), lc_pure (pLeN b) (fun _ => trivial) (fun q hq acc NX N0 n1 n2 => ?_) (by rw [List.length_map, nK, List.length_map]; omega) (by rw [pLeN_map]; exact bdL_all.mpr fun d hd => by obtain ⟨_, _, rfl⟩ := List.mem_map.mp hd; rfl) hb' ?_⟩
    · obtain ⟨q', hq', rfl⟩ := List.mem_map.mp hq
      obtain ⟨p, hp, rfl⟩ := List.mem_map.mp hq'
      exact ⟨_, rfl, rfl, _, _, rfl, _, _, rfl, rfl, _, rfl, _, rfl, _, rfl, stF b, asI_moreS hb2, y, p.1, b, rfl, asI_moreS hb2, n1 _ rfl⟩
    · rw [pLeN_map]
      refine ⟨_, a.map fun q => decide (q.2 ≤ num b q.1), rfl, rfl, ?_⟩
      have e : ((a.map fun q => decide (q.2 ≤ num b q.1)).all id) = true := by
        rw [List.all_eq_true]
        intro c hc
        obtain ⟨p, hp, rfl⟩ := List.mem_map.mp hc
        have := h p.1
        rw [num_mem oa.nd hp] at this
        exact decide_eq_true this
      rw [e]
      exact ⟨_, _, .refl, z⟩

end
end Dl

namespace Dl
open PySem PySem.Spec L2
open PyProof.Rows hiding St Binds
section
variable {P : Program} {w : World} {K : PySem.W.Frag} {mg : Str → Option Value} {base : Heap}
abbrev sMixed : Stmt := top 19
abbrev nMixed : List Str := ["_law_stream", "_law_some", "_law_left", "_law_k"]
theorem scMixed : FnScope nMixed ["_law_stream", "_law_some"] (defScope sMixed) := ⟨rfl, rfl, rfl, by decide +kernel, rfl, by decide +kernel, by decide +kernel⟩
inductive FMixed (ds : List D) (μ : Sto) (Q : QD) (E : XD) : Prop
  | mk (S : Dr) (xs : List D) (rest : Sto) (a1 : ds = [.cell 1, .lst xs]) (a2 : xs.length ≤ 1000) (a3 : bdL 2 xs = true) (a4 : S.ok) (a5 : S.t + xs.length < 1000000) (a6 : okRest rest) (a7 : μ = S.sto rest) (a8 : ∀ (ys : List D) (S' : Dr), ys.Perm xs → S'.ok → S'.t = S.t + xs.length → Q (.lst ys) (S'.sto rest)) : FMixed ds μ Q E
theorem FMixed.mono  : MonF (FMixed) := fun ds μ Q Q' E E' h he q => match q with | .mk S xs rest a1 a2 a3 a4 a5 a6 a7 a8 => .mk S xs rest a1 a2 a3 a4 a5 a6 a7 (by intros; apply h; apply a8 <;> assumption)
theorem FMixed.len  : ∀ ds μ Q E, FMixed ds μ Q E → ds.length = 2 := fun ds μ Q E q => by obtain ⟨_, _, _, e, _, _, _, _, _, _, _⟩ := q; rw [e]; rfl
theorem cal_mixed (cD : Cal P w K mg base 1 "_law_draw" FDraw []) {f : Addr} {fd : FuncData} {qual : Str} (T : NoB mg) (Fu : Fun K "_law_mixed" qual sMixed f fd) (hm : mg "_law_mixed" = some (.ref f)) (hk : PySem.W.keepIn K (.ref f) = true) (hb : L2.Binds K fd ["_law_stream", "_law_some"] []) : Cal P w K mg base 2 "_law_mixed" FMixed [] := by
  have nd := scMixed.nd
  refine cal_fun Fu scMixed hm hk hb ?_ ?_ (fun cdv A outer s H E hG hr =>
    have hu : (cxOf (L2.CX P w) P w K mg base nMixed qual (defScope sMixed) f cdv A outer s H E).A.units + 64 < cLine := by have := hr.un; show (A.deeper _).units + 64 < _; omega
    have hv : (cxOf (L2.CX P w) P w K mg base nMixed qual (defScope sMixed) f cdv A outer s H E).A.units + 1 < cLine := by omega
    have tk := takes_of (X := cxOf (L2.CX P w) P w K mg base nMixed qual (defScope sMixed) f cdv A outer s H E) (E := E) rfl rfl rfl rfl
    have pw := passes_of (X := cxOf (L2.CX P w) P w K mg base nMixed qual (defScope sMixed) f cdv A outer s H E) rfl
    (ds_cons (ds_set (i := 2) nd rfl (by first | exact .inl rfl | exact .inr rfl) (de_callTy cad_listC' (by rfl) T.list (by decide +kernel) (da_cons (de_var 1 rfl) da_nil)))
      (ds_one (ds_ret (de_lc (own := [("_law_k", 3)]) rfl nd (di_rng1 (by rfl) T.range (da_cons (de_callB cad_len (by rfl) T.len (by decide +kernel) (da_cons (de_var 2 rfl) da_nil)) da_nil)) (blkOk_by (N := nMixed) (sc := defScope sMixed) (by decide +kernel)) (fun _ _ _ _ _ => (dgw_name (i := 3) nd rfl (by first | exact .inl rfl | exact .inr rfl) (by decide))) (fun _ _ _ _ _ => dts_nil) (fun _ _ _ _ _ => (de_bmL PySem.F.plainAttrs_list PySem.F.slot_list_pop PySem.F.type_list_pop mtd_popAt (de_var 2 rfl) (da_cons (de_call cD hG hr (by decide) (by rfl) takesNW (da_cons (de_var 0 rfl) (da_cons (de_callB cad_len (by rfl) T.len (by decide +kernel) (da_cons (de_var 2 rfl) da_nil)) da_nil))) da_nil)))))))) ?_
  · exact FMixed.mono
  · exact FMixed.len
  · rintro ds μ Q E ⟨S, xs, rest, rfl, hl, hb, ok, tl, okr, rfl, z⟩
    have sz := sizeLine_eq
    refine ⟨_, rfl, _, xs, rfl, rfl, by omega, ?_⟩
    rw [sto_app]
    refine ⟨_, rfl, .inr ⟨_, xs, rfl, asS_of (get_a rfl), _, rfl, by omega, by omega, fun i μ' => ∃ (S' : Dr) (acc left : List D), S'.ok ∧ S'.t = S.t + i ∧ i + left.length = xs.length ∧ acc.length = i ∧ (acc ++ left).Perm xs ∧ μ' = S'.sto (rest ++ [.lst left, .lst acc]), ?_, fun _ _ _ => trivial, ?_, ?_⟩⟩
    · exact ⟨S, [], xs, ok, by simp, by simp, rfl, .refl _, sto_app2⟩
    · rintro i x μ' hx ⟨S', acc, left, ok', t', l1, l2, pm, rfl⟩
      have hi : i < xs.length := by
        have := (List.getElem?_eq_some_iff.mp hx).1
        simpa using this
      refine ⟨_, rfl, ⟨left, asL_of (get_ab rfl)⟩, _, rfl, _, rfl, .inr ⟨_, left, rfl, asS_of (get_ab rfl), S', _, _, rfl, by omega, by omega, ok', by omega, rfl, fun r S2 r0 r1 ok2 t2 => ?_⟩⟩
      have hr : r.toNat < left.length := by omega
      refine ⟨_, left, r, r.toNat, left[r.toNat], rfl, rfl, get_ab rfl, by omega, by omega, ix_nn r0 r1, List.getElem?_eq_getElem hr, ?_⟩
      have s1 := set_ab (S := S2) (a := .lst left) (b := .lst acc) (c := .lst (left.eraseIdx r.toNat)) (n := (S.sto rest).length) sto_len
      have nl : (S.sto (rest ++ [CT.lst xs])).length = rest.length + 3 := by rw [sto_len]; simp
      rw [s1]
      refine ⟨acc, get_bb nl, by omega, ?_⟩
      have s2 := set_bb (S := S2) (a := .lst (left.eraseIdx r.toNat)) (b := .lst acc) (c := .lst (acc ++ [left[r.toNat]])) nl
      rw [s2]
      refine ⟨S2, acc ++ [left[r.toNat]], left.eraseIdx r.toNat, ok2, by omega, ?_, by simp [l2], ?_, rfl⟩
      · rw [List.length_eraseIdx_of_lt hr]; omega
      · rw [List.append_assoc]
        exact (List.Perm.append_left acc (perm_erase left r.toNat hr)).trans pm
    · rintro μ' ⟨S', acc, left, ok', t', l1, l2, pm, rfl⟩
      have le : left = [] := by have := l1; simp at this; first | exact this | exact List.eq_nil_of_length_eq_zero (by omega)
      have pmx : acc.Perm xs := by have := pm; rw [le, List.append_nil] at this; exact this
      have bacc : bdL 2 acc = true := bdL_all.mpr fun d h => bdL_all.mp hb d (pm.mem_iff.mp (List.mem_append_left _ h))
      have bleft : bdL 2 left = true := bdL_all.mpr fun d h => bdL_all.mp hb d (pm.mem_iff.mp (List.mem_append_right _ h))
      have okr1 : okRest (rest ++ [.lst left]) := okr.add (bdL_mono (by omega) bleft)
      refine ⟨_, S'.sto (rest ++ [.lst left]), ?_, _, S'.sto rest, .drop (μ := S'.sto rest) (by rw [sto_len, sto_len]; omega) (bd_lst (bdL_mono (by rw [sto_len]; omega) bacc)) okr.sto .refl, z acc S' pmx ok' (by simp at t'; omega)⟩
      have e : (S.sto (rest ++ [CT.lst xs])).length = (S'.sto (rest ++ [CT.lst left])).length := by rw [sto_len, sto_len]; simp
      rw [e, ← sto_app2]
      exact .lst (Nat.le_refl _) (bdL_mono (by rw [sto_len]; omega) bacc) okr1.sto .refl

end
end Dl

/-! {k: v, ..} with written keys -/
namespace Dl
open PySem PySem.Spec L2
open PyProof.Rows hiding St Binds
/-- the pairs, from the left -/
def fPs : List (FE × FE) → Rho → Sto → (List (D × D) → Sto → Prop) → ED → Prop
  | [], _, μ, Q, _ => Q [] μ
  | (fk, fv) :: r, ρ, μ, Q, E => fk ρ μ (fun x m1 => fv ρ m1 (fun y m2 => fPs r ρ m2 (fun ps m3 => Q ((x, y) :: ps) m3) E) E) E
inductive DPs (X : Cx) (W : WX) : List (Option Expr) → List Expr → List (FE × FE) → Prop
  | nil : DPs X W [] [] []
  | cons {k v : Expr} {ks : List (Option Expr)} {vs : List Expr} {fk fv : FE} {l : List (FE × FE)} (hk : DE X W k fk) (hv : DE X W v fv) (r : DPs X W ks vs l) : DPs X W (some k :: ks) (v :: vs) ((fk, fv) :: l)
section
variable {X : Cx} {W : WX} {ks : List (Option Expr)} {vs : List Expr} {l : List (FE × FE)} {pos : Pos}
theorem DPs.mono (h : DPs X W ks vs l) : ∀ ρ μ (Q Q' : List (D × D) → Sto → Prop) (E E' : ED), (∀ d m, Q d m → Q' d m) → (∀ c a m, E c a ρ m → E' c a ρ m) → fPs l ρ μ Q E → fPs l ρ μ Q' E' := by
  induction h with
  | nil => intro ρ μ Q Q' E E' h _ q; exact h _ _ q
  | cons hk hv r ih =>
    intro ρ μ Q Q' E E' h he q
    exact hk.mono ρ μ _ _ E E' (fun x m1 z => hv.mono ρ m1 _ _ E E' (fun y m2 z => ih ρ m2 _ _ E E' (fun ps m3 z => h _ _ z) he z) he z) he q
end
end Dl

/-! a < b < c as a test -/
namespace Dl
open PySem PySem.Spec L2
open PyProof.Rows hiding St Binds
section
variable {X : Cx} {W : WX} {a b c : Expr} {fa fb fc : FE} {pos : Pos}
end
end Dl

/-! a, b, .. = a list -/
namespace Dl
open PySem PySem.Spec L2
open PyProof.Rows hiding St Binds
section
variable {X : Cx} {pos : Pos}
end
end Dl

/-! len(set(texts)) -/
namespace Dl
open PySem PySem.Spec L2
open PyProof.Rows hiding St Binds
section
variable {P : Program} {w : World} {A : Around} {E : Value → Shared → Prop} {s : Shared}
end
section
variable {X : Cx} {a : Expr} {ta : TE} {p p2 q pos : Pos} {W : WX} {f : FE}
end
end Dl

/-! xs[::-1]; del d[k] -/
namespace Dl
open PySem PySem.Spec L2
open PyProof.Rows hiding St Binds
section
variable {X : Cx} {W : WX} {e o i : Expr} {f fo fi : FE} {k : Nat} {p1 p2 p3 pos tpos : Pos}
end
end Dl

/-! xs != [], xs == [], whatever xs holds; [x] * n -/
namespace Dl
open PySem PySem.Spec L2
open PyProof.Rows hiding St Binds
section
variable {X : Cx}
def neE : G2 := fun x y μ Q => ∃ ds, asL μ x = some ds ∧ asL μ y = some [] ∧ Q (.bl (!ds.isEmpty)) μ
theorem opd_neE (hu : X.A.units + 64 < cLine) : OpD X (compareOp .NotEq) neE :=
  ⟨fun x y μ Q Q' h ⟨ds, e1, e2, z⟩ => ⟨ds, e1, e2, h _ _ z⟩,
    fun x y H Q => ∃ (p q : Addr) (vs : List V), x = .ref p ∧ y = .ref q ∧ SqL X.K H p vs ∧ SqL X.K H q [] ∧ Q (.bl (!vs.isEmpty)) H,
    fun pins s σ H x y v u Q I rx ry ⟨p, q, vs, ex, ey, hp, hq, z⟩ => by
      subst ex ey
      cases rx
      cases ry
      obtain ⟨its, r, pl, _⟩ := I.list hp
      obtain ⟨its2, r2, pl2, _⟩ := I.list hq
      cases r2
      cases vs with
      | nil =>
        cases r
        exact SeqAt.RcNeAt.lists (e := fun _ => true) pl.isList pl2.isList rfl (by omega) (fun j h1 _ => absurd h1 (by simp)) X.prog X.w X.xe _ ⟨.bl _, H, I, rfl, z⟩
      | cons v vs =>
        have hl := r.length
        exact SeqAt.RcNeAt.lists_lengths pl.isList pl2.isList (by simp; intro e; rw [e] at hl; simp at hl) (by omega) X.prog X.w X.xe _ ⟨.bl _, H, I, rfl, z⟩,
    fun ι H μ x y dx dy Q r a b ⟨ds, e1, e2, z⟩ => by
      obtain ⟨p, vs, rfl, h1, r1⟩ := asL_at r a e1
      obtain ⟨q, us, rfl, h2, r2⟩ := asL_at r b e2
      cases Ats.unnil r2
      have e : vs.isEmpty = ds.isEmpty := by
        have := r1.1
        cases vs <;> cases ds <;> first | rfl | simp at this
      exact ⟨p, q, vs, rfl, rfl, SqL.of h1, SqL.of h2, by rw [e]; exact z ι H _ (Gr.refl _ _) r (.bl _)⟩⟩
def repD : G2 := fun x y μ Q => ∃ xs k, y = .int k ∧ asL μ x = some xs ∧ -(2 ^ 63) ≤ k ∧ k < 2 ^ 63 ∧ xs.length * k.toNat ≤ sizeLine ∧ gD (List.replicate k.toNat xs).flatten μ Q
theorem opd_repD : OpD X (binaryOp .Mult) repD := opd_repL.imp (fun x y μ Q Q' h ⟨xs, k, e1, e2, c1, c2, c3, q⟩ => ⟨xs, k, e1, e2, c1, c2, c3, gD_mono h q⟩) fun x y μ Q ⟨xs, k, e1, e2, c1, c2, c3, q⟩ => ⟨xs, k, e1, e2, c1, c2, c3, gD_new q⟩
end
end Dl

/-! a comprehension over data that stand for things of another type -/
namespace Dl
open PySem PySem.Spec L2
open PyProof.Rows hiding St Binds
section
variable {g : FG} {ft : FT} {fe fk fv : FE} {vs : List Nat} {ρ : Rho} {Q : QD}
theorem lc_of {α : Type} (ts : List α) (h : α → D) (r : α → Option D) {st : Sto → Prop} {m : Sto} (hst : ∀ c, st (m ++ [.lst c]))
    (turn : ∀ a, a ∈ ts → ∀ (acc : List D), bdS (m ++ [CT.lst acc]).length (m ++ [CT.lst acc]) = true → ∀ (NX : D → Sto → Prop) (N0 : Sto → Prop), (∀ y, r a = some y → NX y (m ++ [.lst acc])) → (r a = none → N0 (m ++ [.lst acc])) →
      g (h a) (wipeD ρ vs) (m ++ [.lst acc]) (fun ρ2 μ2 => ft ρ2 μ2 (fun b m3 => if b = true then fe ρ2 m3 NX NE else N0 m3) NE))
    (hl : ts.length ≤ sizeLine) (bd : bdL m.length (ts.filterMap r) = true) (bm : bdS m.length m = true) (q : Q (.lst (ts.filterMap r)) m) :
    ∃ I : Nat → Sto → Prop, I 0 (m ++ [.lst []]) ∧ (∀ i μ', I i μ' → st μ') ∧
      (∀ i x μ', (ts.map h)[i]? = some x → I i μ' → g x (wipeD ρ vs) μ' (fun ρ2 μ2 => ft ρ2 μ2 (fun b m3 =>
        if b = true then fe ρ2 m3 (fun y m4 => ∃ acc, m4[m.length]? = some (.lst acc) ∧ acc.length < sizeLine ∧ I (i + 1) (m4.set m.length (.lst (acc ++ [y])))) NE else I (i + 1) m3) NE)) ∧
      ∀ μ', I (ts.map h).length μ' → ∃ d2 μ2, Fz m.length (.cell m.length) μ' d2 μ2 ∧ Q d2 μ2 := by
  refine ⟨fun i μ' => μ' = m ++ [.lst ((ts.take i).filterMap r)], rfl, fun i μ' e => by rw [e]; exact hst _, ?_, ?_⟩
  · rintro i x μ' hx rfl
    rw [List.getElem?_map] at hx
    obtain ⟨a, ha, rfl⟩ := Option.map_eq_some_iff.mp hx
    have next : ts.take (i + 1) = ts.take i ++ [a] := by rw [List.take_add_one, ha]; rfl
    have small : ((ts.take i).filterMap r).length < sizeLine := by
      have h1 := List.length_filterMap_le r (ts.take i)
      have h2 := (List.getElem?_eq_some_iff.mp ha).1
      rw [List.length_take] at h1
      omega
    have bt : bdL m.length ((ts.take i).filterMap r) = true := bdL_all.mpr fun d hd => by
      obtain ⟨y, hy, e⟩ := List.mem_filterMap.mp hd
      exact bdL_all.mp bd d (List.mem_filterMap.mpr ⟨y, List.mem_of_mem_take hy, e⟩)
    refine turn a (List.mem_of_getElem? ha) _ (bdS_lst bm bt) _ _ (fun y hy => ⟨_, by simp, small, ?_⟩) (fun hn => ?_)
    · dsimp only
      rw [List.set_append_right _ _ (Nat.le_refl _), Nat.sub_self, next, List.filterMap_append]
      simp [hy]
    · dsimp only
      rw [next, List.filterMap_append]
      simp [hn]
  · rintro μ' rfl
    rw [List.length_map, List.take_length]
    exact ⟨_, _, .lst (Nat.le_refl _) bd bm .refl, q⟩
/-- each thing gives one datum -/
theorem lc_to {α : Type} (ts : List α) (h r : α → D) {st : Sto → Prop} {m : Sto} (hst : ∀ c, st (m ++ [.lst c]))
    (turn : ∀ a, a ∈ ts → ∀ (acc : List D), bdS (m ++ [CT.lst acc]).length (m ++ [CT.lst acc]) = true → ∀ (NX : D → Sto → Prop) (N0 : Sto → Prop), NX (r a) (m ++ [.lst acc]) →
      g (h a) (wipeD ρ vs) (m ++ [.lst acc]) (fun ρ2 μ2 => ft ρ2 μ2 (fun b m3 => if b = true then fe ρ2 m3 NX NE else N0 m3) NE))
    (hl : ts.length ≤ sizeLine) (bd : bdL m.length (ts.map r) = true) (bm : bdS m.length m = true) (q : Q (.lst (ts.map r)) m) :
    ∃ I : Nat → Sto → Prop, I 0 (m ++ [.lst []]) ∧ (∀ i μ', I i μ' → st μ') ∧
      (∀ i x μ', (ts.map h)[i]? = some x → I i μ' → g x (wipeD ρ vs) μ' (fun ρ2 μ2 => ft ρ2 μ2 (fun b m3 =>
        if b = true then fe ρ2 m3 (fun y m4 => ∃ acc, m4[m.length]? = some (.lst acc) ∧ acc.length < sizeLine ∧ I (i + 1) (m4.set m.length (.lst (acc ++ [y])))) NE else I (i + 1) m3) NE)) ∧
      ∀ μ', I (ts.map h).length μ' → ∃ d2 μ2, Fz m.length (.cell m.length) μ' d2 μ2 ∧ Q d2 μ2 := by
  have e : ts.filterMap (fun a => some (r a)) = ts.map r := by rw [← List.filterMap_eq_map]; rfl
  refine lc_of ts h (fun a => some (r a)) hst (fun a ha acc ba NX N0 y n => turn a ha acc ba NX N0 (y _ rfl)) hl (by rw [e]; exact bd) bm (by rw [e]; exact q)
end
end Dl

namespace Dl
open PySem PySem.Spec L2
open PyProof.Rows hiding St Binds
section
variable {P : Program} {w : World} {K : PySem.W.Frag} {mg : Str → Option Value} {base : Heap} {C_BadName C_BadNumber C_Short C_Stock : Addr}

theorem NameOk.nameB {s : Str} (h : NameOk s) : nameB s = true := by
  have a1 := h.pos
  have a2 := h.le
  have a3 := h.res
  have a4 : s.cps.toList.all lowS = true := List.all_eq_true.mpr fun c hc => decide_eq_true (h.low c hc)
  simp only [Dl.nameB, a1, a2, a3, a4, decide_true, decide_false, Bool.not_false, Bool.and_self]
/-- numbers of some names -/
structure LNu (ns : List Str) (B : Int) (es : NL) : Prop where
  nd : (es.map (·.1)).Nodup
  sub : ∀ p ∈ es, p.1 ∈ ns
  rng : ∀ p ∈ es, 0 ≤ p.2 ∧ p.2 ≤ B
theorem LNu.put {ns : List Str} {B : Int} {es : NL} {s : Str} {v : Int} (h : LNu ns B es) (hs : s ∈ ns) (h0 : 0 ≤ v) (h1 : v ≤ B) : LNu ns B (putN es s v) := ⟨putN_nd h.nd, fun p hp => (putN_mem hp).elim (fun e => by rw [e]; exact hs) (fun q => h.sub p q.1), fun p hp => (putN_mem hp).elim (fun e => by rw [e]; exact ⟨h0, h1⟩) (fun q => h.rng p q.1)⟩
theorem pyI_map {μ : Sto} {f : Str → Int} : ∀ ns : List Str, pyAllS μ (ns.map fun s => D.int (f s)) = some (ns.map fun s => PyData.int (f s))
  | [] => rfl
  | s :: ns => pyAllS_c rfl (pyI_map ns)
abbrev B0n : Int := 10 ^ 28 + 10 ^ 20
abbrev sLNm : Stmt := top 23
abbrev nLNm : List Str := ["_law_stream", "_law_names_here", "_law_found", "_law_word", "_law_way"]
theorem scLNm : FnScope nLNm ["_law_stream", "_law_names_here"] (defScope sLNm) := ⟨rfl, rfl, rfl, by decide +kernel, rfl, by decide +kernel, by decide +kernel⟩
inductive FLNm (ds : List D) (μ : Sto) (Q : QD) (E : XD) : Prop
  | mk (S : Dr) (ns : List Str) (rest : Sto) (a1 : ds = [.cell 1, .lst (ns.map .str)]) (a2 : ns.length ≤ 15) (a3 : S.ok) (a4 : S.t + 200 < 1000000) (a5 : okRest rest) (a6 : μ = S.sto rest) (a7 : ∀ (es : NL) (S' : Dr), LNu ns B0n es → es.length ≤ 15 → S'.ok → S.t ≤ S'.t → S'.t ≤ S.t + 50 → Q (.dct (nK es)) (S'.sto rest)) : FLNm ds μ Q E
theorem FLNm.mono  : MonF (FLNm) := fun ds μ Q Q' E E' h he q => match q with | .mk S ns rest a1 a2 a3 a4 a5 a6 a7 => .mk S ns rest a1 a2 a3 a4 a5 a6 (by intros; apply h; apply a7 <;> assumption)
theorem FLNm.len  : ∀ ds μ Q E, FLNm ds μ Q E → ds.length = 2 := fun ds μ Q E q => by obtain ⟨_, _, _, e, _, _, _, _, _, _⟩ := q; rw [e]; rfl
theorem cal_lnm (cD : Cal P w K mg base 1 "_law_draw" FDraw []) (cM : Cal P w K mg base 2 "_law_mixed" FMixed []) {f : Addr} {fd : FuncData} {qual : Str} (T : NoB mg) (Fu : Fun K "_law_numbers" qual sLNm f fd) (hm : mg "_law_numbers" = some (.ref f)) (hk : PySem.W.keepIn K (.ref f) = true) (hb : L2.Binds K fd ["_law_stream", "_law_names_here"] []) : Cal P w K mg base 3 "_law_numbers" FLNm [] := by
  have nd := scLNm.nd
  refine cal_fun Fu scLNm hm hk hb ?_ ?_ (fun cdv A outer s H E hG hr =>
    have hu : (cxOf (L2.CX P w) P w K mg base nLNm qual (defScope sLNm) f cdv A outer s H E).A.units + 64 < cLine := by have := hr.un; show (A.deeper _).units + 64 < _; omega
    have hv : (cxOf (L2.CX P w) P w K mg base nLNm qual (defScope sLNm) f cdv A outer s H E).A.units + 1 < cLine := by omega
    have tk := takes_of (X := cxOf (L2.CX P w) P w K mg base nLNm qual (defScope sLNm) f cdv A outer s H E) (E := E) rfl rfl rfl rfl
    have pw := passes_of (X := cxOf (L2.CX P w) P w K mg base nLNm qual (defScope sLNm) f cdv A outer s H E) rfl
    (ds_cons (ds_set (i := 2) nd rfl (by first | exact .inl rfl | exact .inr rfl) de_dict0)
      (ds_cons (ds_for pw rfl (di_seq (de_call cM hG hr (by decide) (by rfl) tk (da_cons (de_var 0 rfl) (da_cons (de_var 1 rfl) da_nil)))) (dg_name (i := 3) nd rfl (by first | exact .inl rfl | exact .inr rfl)) (ds_cons (ds_set (i := 4) nd rfl (by first | exact .inl rfl | exact .inr rfl) (de_call cD hG hr (by decide) (by rfl) tk (da_cons (de_var 0 rfl) (da_cons de_int da_nil))))
      (ds_one (ds_if (dt_cmp opd_lt (de_var 4 rfl) de_int) (ds_one (ds_dput hv (de_var 2 rfl) (de_var 3 rfl) (de_ixL (de_lstD (da_cons de_int (da_cons de_int (da_cons de_int (da_cons de_int (da_cons (de_op opd_addI (de_op opd_pow de_int de_int) (de_call cD hG hr (by decide) (by rfl) tk (da_cons (de_var 0 rfl) (da_cons (de_op opd_pow de_int de_int) da_nil)))) da_nil)))))) (de_var 4 rfl)))) ds_nil))))
      (ds_one (ds_ret (de_var 2 rfl)))))) ?_
  · exact FLNm.mono
  · exact FLNm.len
  · rintro ds μ Q E ⟨S, ns, rest, rfl, hl, ok, tl, okr, rfl, z⟩
    have sz := sizeLine_eq
    let rs : NL → Sto := fun es => rest ++ [.dct (nK es)]
    have okd : ∀ es, okRest (rs es) := fun es => okr.add nK_bd
    have gE : ∀ (S : Dr) (es : NL), (S.sto (rs es))[rest.length + 2]? = some (.dct (nK es)) := fun S es => get_a rfl
    have sE : ∀ (S : Dr) (es : NL) (s : Str) (v : Int), (S.sto (rs es)).set (rest.length + 2) (.dct (putKD (nK es) (.inr s) (.int v))) = S.sto (rs (putN es s v)) := fun S es s v => by rw [put_nK]; exact set_a rfl
    let R : Option D → Option D → Rho := fun v3 v4 => [some (.cell 1), some (.lst (ns.map .str)), some (.cell (rest.length + 2)), v3, v4]
    refine .inr ?_
    refine ⟨_, rfl, _, rfl, S, ns.map .str, rs [], rfl, by rw [List.length_map]; omega, bdL_strs _, ok, by rw [List.length_map]; omega, okd [], rfl, fun ys S1 pm ok1 t1 => ?_⟩
    rw [List.length_map] at t1
    have hy : ∀ y ∈ ys, ∃ s, y = .str s ∧ s ∈ ns := fun y h => by obtain ⟨s, hs, rfl⟩ := List.mem_map.mp (pm.mem_iff.mp h); exact ⟨s, rfl, hs⟩
    have ly : ys.length = ns.length := by rw [pm.length_eq, List.length_map]
    refine ⟨ys, rfl, fun i ρ' μ' => ∃ (v3 v4 : Option D) (S' : Dr) (es : NL), ρ' = R v3 v4 ∧ LNu ns B0n es ∧ es.length ≤ i ∧ S'.ok ∧ S1.t ≤ S'.t ∧ S'.t ≤ S1.t + 2 * i ∧ μ' = S'.sto (rs es), ⟨_, _, S1, [], rfl, ⟨by simp, fun p h => absurd h (by simp), fun p h => absurd h (by simp)⟩, Nat.le_refl _, ok1, Int.le_refl _, by omega, rfl⟩, fun _ _ _ _ => rfl, ?_, ?_⟩
    · rintro i x ρ' μ' hx ⟨v3, v4, S2, es, rfl, ow, el, ok2, t2, t2', rfl⟩
      have hi : i < ns.length := by have := (List.getElem?_eq_some_iff.mp hx).1; omega
      obtain ⟨s, rfl, hs⟩ := hy x (List.mem_of_getElem? hx)
      refine ⟨_, rfl, S2, 6, _, rfl, by decide, by decide, ok2, by omega, rfl, fun r S3 r0 r1 ok3 t3 => ?_⟩
      refine ⟨_, rfl, _, rfl, ite_b (fun h => ?_) (fun h => ?_)⟩
      · refine ⟨_, _, rfl, rfl, ⟨by decide, by decide, by decide⟩, _, rfl, _, _, rfl, rfl, ⟨by decide, by decide, by decide⟩, S3, _, _, rfl, by decide, by decide, ok3, by omega, rfl, fun q S4 q0 q1 ok4 t4 => ?_⟩
        refine ⟨_, _, rfl, rfl, by show 5 ≤ sizeLine; omega, _, rfl, ?_⟩
        have q1' : q < 10 ^ 20 := q1
        obtain ⟨v, hv0, hv1, hv⟩ : ∃ v : Int, 0 ≤ v ∧ v ≤ B0n ∧ atI [D.int 0, .int 1, .int 2, .int 9, .int (10 ^ Int.toNat 28 + q)] r = some (.int v) := by
          have e28 : (10 : Int) ^ Int.toNat 28 = 10 ^ 28 := rfl
          have : r = 0 ∨ r = 1 ∨ r = 2 ∨ r = 3 ∨ r = 4 := by omega
          rcases this with rfl | rfl | rfl | rfl | rfl
          · exact ⟨0, by decide, by decide, rfl⟩
          · exact ⟨1, by decide, by decide, rfl⟩
          · exact ⟨2, by decide, by decide, rfl⟩
          · exact ⟨9, by decide, by decide, rfl⟩
          · exact ⟨10 ^ Int.toNat 28 + q, by rw [e28]; omega, by rw [e28]; show (10 : Int) ^ 28 + q ≤ 10 ^ 28 + 10 ^ 20; omega, rfl⟩
        refine ⟨_, r, _, rfl, rfl, hv, _, rfl, _, rfl, rest.length + 2, nK es, .inr s, rfl, gE S4 es, rfl, by unfold nK; rw [List.length_map]; omega, ?_⟩
        rw [sE]
        exact ⟨_, _, S4, _, rfl, ow.put hs hv0 hv1, Nat.le_trans putN_len (by omega), ok4, by omega, by omega, rfl⟩
      · exact ⟨_, _, S3, es, rfl, ow, by omega, ok3, by omega, by omega, rfl⟩
    rintro ρ' μ' ⟨v3, v4, S2, es, rfl, ow, el, ok2, t2, t2', rfl⟩
    rw [ly] at el t2'
    exact ⟨_, rfl, _, _, .dct (μ := S2.sto rest) (Nat.le_refl _) nK_bd okr.sto .refl, z es S2 ow (by omega) ok2 (by omega) (by omega)⟩

abbrev sLLs : Stmt := top 24
abbrev nLLs : List Str := ["_law_one", "_law_other", "e"]
theorem scLLs : FnScope nLLs ["_law_one", "_law_other"] (defScope sLLs) := ⟨rfl, rfl, rfl, by decide +kernel, rfl, by decide +kernel, by decide +kernel⟩
inductive FLLs (C_Stock : Addr) (ds : List D) (μ : Sto) (Q : QD) (E : XD) : Prop
  | mk (x : D) (y : D) (a : NL) (b : NL) (a1 : ds = [x, y]) (a2 : StAt C_Stock a x μ) (a3 : StAt C_Stock b y μ) (a4 : SOk a) (a5 : SOk b) (a6 : a.length ≤ 400) (a7 : b.length ≤ 400) (a8 : bdS μ.length μ = true) (a9 : (shN a b = none → Q (.tup [.str ("made" : Str), .cell μ.length]) (μ ++ [CT.ins C_Stock (stF (nz (subN a b)))]))) (a10 : (∀ s, shN a b = some s → Q (.tup [.str ("Short" : Str), .str s]) μ)) : FLLs C_Stock ds μ Q E
theorem FLLs.mono {C_Stock : Addr} : MonF (FLLs C_Stock) := fun ds μ Q Q' E E' h he q => match q with | .mk x y a b a1 a2 a3 a4 a5 a6 a7 a8 a9 a10 => .mk x y a b a1 a2 a3 a4 a5 a6 a7 a8 (by intros; apply h; apply a9 <;> assumption) (by intros; apply h; apply a10 <;> assumption)
theorem FLLs.len {C_Stock : Addr} : ∀ ds μ Q E, FLLs C_Stock ds μ Q E → ds.length = 2 := fun ds μ Q E q => by obtain ⟨_, _, _, _, e, _, _, _, _, _, _, _, _, _⟩ := q; rw [e]; rfl
theorem cal_lls (hm_Short : mg "Short" = some (.ref C_Short)) (xf_Short : XfC K C_Short) (no_Short_name : PySem.W.findIn K (.ref C_Short) "name" = some none) (exm_Short : PySem.W.exmOne K (.ref C_Short) (.ref C_Short) = some true)
    (isC_Stock : IsC K C_Stock) (sf_Stock : PySem.W.selfFirst K C_Stock = true)
    (cSSu : Met P w K mg base 7 C_Stock "__sub__" (FSSu C_Stock C_Short) []) {f : Addr} {fd : FuncData} {qual : Str} (T : NoB mg) (Fu : Fun K "_law_less" qual sLLs f fd) (hm : mg "_law_less" = some (.ref f)) (hk : PySem.W.keepIn K (.ref f) = true) (hb : L2.Binds K fd ["_law_one", "_law_other"] []) : Cal P w K mg base 8 "_law_less" (FLLs C_Stock) [] := by
  have nd := scLLs.nd
  refine cal_fun Fu scLLs hm hk hb ?_ ?_ (fun cdv A outer s H E hG hr =>
    have hu : (cxOf (L2.CX P w) P w K mg base nLLs qual (defScope sLLs) f cdv A outer s H E).A.units + 64 < cLine := by have := hr.un; show (A.deeper _).units + 64 < _; omega
    have hv : (cxOf (L2.CX P w) P w K mg base nLLs qual (defScope sLLs) f cdv A outer s H E).A.units + 1 < cLine := by omega
    have tk := takes_of (X := cxOf (L2.CX P w) P w K mg base nLLs qual (defScope sLLs) f cdv A outer s H E) (E := E) rfl rfl rfl rfl
    have pw := passes_of (X := cxOf (L2.CX P w) P w K mg base nLLs qual (defScope sLLs) f cdv A outer s H E) rfl
    (ds_one (ds_try1b (C := C_Short) (i := 2) (word := "Short") (fs := [("name" : Str)]) (by rfl) (by rfl) nd (by rfl) (by rfl) (by exact ⟨rfl, by decide, .inl hm_Short⟩) tk (ds_one (ds_ret (de_tup (da_cons de_str (da_cons (de_binE isC_Stock sf_Stock cSSu hG hr (by decide) tk (de_var 0 rfl) (de_var 1 rfl)) da_nil))))) (fun W pn xe tk pw => (ds_one (ds_ret (de_tup (da_cons de_str (da_cons (de_binE isC_Stock sf_Stock cSSu hG hr (by decide) tk (de_var 0 rfl) (de_var 1 rfl)) da_nil)))))) (fun a oe cls d pn hz hf => pss_cons (ps_ret (pe_tup (pa_cons pe_str (pa_cons (pe_xf xf_Short no_Short_name hz hf (pe_var (i := 2) rfl (.inl rfl))) pa_nil)))) pss_nil)))) ?_
  · exact FLLs.mono
  · exact FLLs.len
  · rintro ds μ Q E ⟨x, y, a, b, rfl, ha, hb2, oa, ob, la, lb, hb', z, z2⟩
    refine ⟨_, rfl, _, rfl, _, _, ha, hb2, x, y, a, b, rfl, ha, hb2, oa, ob, la, lb, hb', fun h => ?_, fun s h => ?_⟩
    · exact ⟨by show 2 ≤ sizeLine; rw [sizeLine_eq]; decide, _, _, .refl, z h⟩
    · exact ⟨true, exm_Short, fun _ => ⟨rfl, by show 2 < 3; omega, [.str s], rfl, by show 1 < 1000; omega, _, _, .refl, z2 s h⟩, fun h => nomatch h⟩

abbrev sLLd : Stmt := top 25
abbrev nLLd : List Str := ["_law_one", "_law_other", "e"]
theorem scLLd : FnScope nLLd ["_law_one", "_law_other"] (defScope sLLd) := ⟨rfl, rfl, rfl, by decide +kernel, rfl, by decide +kernel, by decide +kernel⟩
inductive FLLd (C_Stock : Addr) (ds : List D) (μ : Sto) (Q : QD) (E : XD) : Prop
  | mk (n : Nat) (y : D) (a : NL) (b : NL) (a1 : ds = [.cell n, y]) (a2 : μ[n]? = some (.ins C_Stock (stF a))) (a3 : StAt C_Stock b y μ) (a4 : SOk a) (a5 : SOk b) (a6 : a.length ≤ 400) (a7 : b.length ≤ 400) (a8 : bdS μ.length μ = true) (a9 : (shN a b = none → Q .non (μ.set n (.ins C_Stock (stF (nz (subN a b))))))) (a10 : (∀ s, shN a b = some s → Q (.tup [.str ("Short" : Str), .str s]) μ)) : FLLd C_Stock ds μ Q E
theorem FLLd.mono {C_Stock : Addr} : MonF (FLLd C_Stock) := fun ds μ Q Q' E E' h he q => match q with | .mk n y a b a1 a2 a3 a4 a5 a6 a7 a8 a9 a10 => .mk n y a b a1 a2 a3 a4 a5 a6 a7 a8 (by intros; apply h; apply a9 <;> assumption) (by intros; apply h; apply a10 <;> assumption)
theorem FLLd.len {C_Stock : Addr} : ∀ ds μ Q E, FLLd C_Stock ds μ Q E → ds.length = 2 := fun ds μ Q E q => by obtain ⟨_, _, _, _, e, _, _, _, _, _, _, _, _, _⟩ := q; rw [e]; rfl
theorem cal_lld (hm_Short : mg "Short" = some (.ref C_Short)) (xf_Short : XfC K C_Short) (no_Short_name : PySem.W.findIn K (.ref C_Short) "name" = some none) (exm_Short : PySem.W.exmOne K (.ref C_Short) (.ref C_Short) = some true)
    (sf_Stock : PySem.W.selfFirst K C_Stock = true)
    (cSIs : Met P w K mg base 4 C_Stock "__isub__" (FSIs C_Stock C_Short) []) {f : Addr} {fd : FuncData} {qual : Str} (T : NoB mg) (Fu : Fun K "_law_lessened" qual sLLd f fd) (hm : mg "_law_lessened" = some (.ref f)) (hk : PySem.W.keepIn K (.ref f) = true) (hb : L2.Binds K fd ["_law_one", "_law_other"] []) : Cal P w K mg base 5 "_law_lessened" (FLLd C_Stock) [] := by
  have nd := scLLd.nd
  refine cal_fun Fu scLLd hm hk hb ?_ ?_ (fun cdv A outer s H E hG hr =>
    have hu : (cxOf (L2.CX P w) P w K mg base nLLd qual (defScope sLLd) f cdv A outer s H E).A.units + 64 < cLine := by have := hr.un; show (A.deeper _).units + 64 < _; omega
    have hv : (cxOf (L2.CX P w) P w K mg base nLLd qual (defScope sLLd) f cdv A outer s H E).A.units + 1 < cLine := by omega
    have tk := takes_of (X := cxOf (L2.CX P w) P w K mg base nLLd qual (defScope sLLd) f cdv A outer s H E) (E := E) rfl rfl rfl rfl
    have pw := passes_of (X := cxOf (L2.CX P w) P w K mg base nLLd qual (defScope sLLd) f cdv A outer s H E) rfl
    (ds_cons (ds_tryM (by rfl) (by rfl) nd tk ⟨_, _, _, _, C_Short, 2, ("Short" : Str), [("name" : Str)], none, _, _⟩ [] (List.forall_mem_cons.mpr ⟨⟨rfl, by rfl, ⟨(by rfl), (by rfl), .inl hm_Short⟩, fun a oe cls d pn hz hf => pss_cons (ps_ret (pe_tup (pa_cons pe_str (pa_cons (pe_xf xf_Short no_Short_name hz hf (pe_var (i := 2) rfl (.inl rfl))) pa_nil)))) pss_nil⟩, fun _ h => nomatch h⟩) (ds_one (ds_augO sf_Stock cSIs hG hr (by decide) tk (i := 0) nd rfl (by first | exact .inl rfl | exact .inr rfl) (de_var 1 rfl))) (fun W pn xe tk pw => (ds_one (ds_augO sf_Stock cSIs hG hr (by decide) tk (i := 0) nd rfl (by first | exact .inl rfl | exact .inr rfl) (de_var 1 rfl)))))
      (ds_one (ds_ret de_non)))) ?_
  · exact FLLd.mono
  · exact FLLd.len
  · rintro ds μ Q E ⟨n, y, a, b, rfl, hn, hb2, oa, ob, la, lb, hb', z, z2⟩
    have hI : asI μ (.cell n) = some (C_Stock, stF a) := by simp only [asI, hn]
    refine ⟨_, rfl, _, rfl, stF a, hI, n, y, a, b, rfl, hn, hb2, oa, ob, la, lb, hb', fun h => ?_, fun s h => ?_⟩
    · exact ⟨_, _, .refl, z h⟩
    · exact ⟨true, exm_Short, fun _ => ⟨rfl, by show 2 < 3; omega, [.str s], rfl, by show 1 < 1000; omega, _, _, .refl, z2 s h⟩, fun h => nomatch h⟩

abbrev sLSr : Stmt := top 26
abbrev nLSr : List Str := ["_law_names_here", "_law_one", "_law_other", "_law_word"]
theorem scLSr : FnScope nLSr ["_law_names_here", "_law_one", "_law_other"] (defScope sLSr) := ⟨rfl, rfl, rfl, by decide +kernel, rfl, by decide +kernel, by decide +kernel⟩
inductive FLSr (ds : List D) (μ : Sto) (Q : QD) (E : XD) : Prop
  | mk (a : NL) (b : NL) (ns : List Str) (a1 : ds = [.lst (ns.map .str), .dct (nK a), .dct (nK b)]) (a2 : ns.Nodup) (a3 : ns.length ≤ 60) (a4 : bdS μ.length μ = true) (a5 : ((ordS ns).find? (fun s => decide (num a s < num b s)) = none → Q .non μ)) (a6 : (∀ s, (ordS ns).find? (fun s => decide (num a s < num b s)) = some s → Q (.str s) μ)) : FLSr ds μ Q E
theorem FLSr.mono  : MonF (FLSr) := fun ds μ Q Q' E E' h he q => match q with | .mk a b ns a1 a2 a3 a4 a5 a6 => .mk a b ns a1 a2 a3 a4 (by intros; apply h; apply a5 <;> assumption) (by intros; apply h; apply a6 <;> assumption)
theorem FLSr.len  : ∀ ds μ Q E, FLSr ds μ Q E → ds.length = 3 := fun ds μ Q E q => by obtain ⟨_, _, _, e, _, _, _, _, _⟩ := q; rw [e]; rfl
theorem cal_lsr {f : Addr} {fd : FuncData} {qual : Str} (T : NoB mg) (Fu : Fun K "_law_short" qual sLSr f fd) (hm : mg "_law_short" = some (.ref f)) (hk : PySem.W.keepIn K (.ref f) = true) (hb : L2.Binds K fd ["_law_names_here", "_law_one", "_law_other"] []) : Cal P w K mg base 1 "_law_short" FLSr [] := by
  have nd := scLSr.nd
  refine cal_fun Fu scLSr hm hk hb ?_ ?_ (fun cdv A outer s H E hG hr =>
    have hu : (cxOf (L2.CX P w) P w K mg base nLSr qual (defScope sLSr) f cdv A outer s H E).A.units + 64 < cLine := by have := hr.un; show (A.deeper _).units + 64 < _; omega
    have hv : (cxOf (L2.CX P w) P w K mg base nLSr qual (defScope sLSr) f cdv A outer s H E).A.units + 1 < cLine := by omega
    have tk := takes_of (X := cxOf (L2.CX P w) P w K mg base nLSr qual (defScope sLSr) f cdv A outer s H E) (E := E) rfl rfl rfl rfl
    have pw := passes_of (X := cxOf (L2.CX P w) P w K mg base nLSr qual (defScope sLSr) f cdv A outer s H E) rfl
    (ds_cons (ds_for pw rfl (di_seq (de_callB cad_sortS (by rfl) T.sorted (by decide +kernel) (da_cons (de_lc (own := [("_law_word", 3)]) rfl nd (di_seq (de_var 0 rfl)) (blkOk_by (N := nLSr) (sc := defScope sLSr) (by decide +kernel)) (fun _ _ _ _ _ => (dgw_name (i := 3) nd rfl (by first | exact .inl rfl | exact .inr rfl) (by decide))) (fun _ _ _ _ _ => dts_nil) (fun _ _ _ _ _ => (de_callTy cad_strS (by rfl) T.str (by decide +kernel) (da_cons (de_var 3 rfl) da_nil)))) da_nil))) (dg_name (i := 3) nd rfl (by first | exact .inl rfl | exact .inr rfl)) (ds_one (ds_if (dt_cmp opd_lt (de_get2 hv (de_var 1 rfl) (de_var 3 rfl) de_int) (de_get2 hv (de_var 2 rfl) (de_var 3 rfl) de_int)) (ds_one (ds_ret (de_var 3 rfl))) ds_nil)))
      (ds_one (ds_ret de_non)))) ?_
  · exact FLSr.mono
  · exact FLSr.len
  · rintro ds μ Q E ⟨a, b, ns, rfl, nn, hl, hb', z, z2⟩
    have sz := sizeLine_eq
    refine ⟨_, rfl, ns.map .str, rfl, lc_to (m := μ) ns .str .str (fun _ => rfl) (fun a ha acc bm NX N0 n1 => ⟨_, rfl, _, rfl, n1⟩) (by omega) (bdL_strs _) hb' ?_⟩
    refine ⟨_, ns, rfl, rfl, by omega, fun ys p2 s2 => ?_⟩
    obtain rfl : ys = ordS ns := sorted_one ys (ordS ns) (p2.nodup_iff.mpr nn) ((ordS_perm ns).nodup_iff.mpr nn) s2 (ordS_sorted ns) fun x => (p2.mem_iff).trans ((ordS_perm ns).mem_iff).symm
    let R : Option D → Rho := fun v3 => [some (.lst (ns.map .str)), some (.dct (nK a)), some (.dct (nK b)), v3]
    refine ⟨(ordS ns).map .str, rfl, fun i ρ' μ' => (∃ v3 : Option D, ρ' = R v3) ∧ μ' = μ ∧ ((ordS ns).take i).find? (fun s => decide (num a s < num b s)) = none, ⟨⟨_, rfl⟩, rfl, rfl⟩, fun _ _ _ _ => rfl, ?_, ?_⟩
    · rintro i x ρ' μ' hx ⟨⟨v3, rfl⟩, e1, hp⟩
      have e2 := e1.symm
      subst e2
      rw [List.getElem?_map] at hx
      obtain ⟨s, hs, rfl⟩ := Option.map_eq_some_iff.mp hx
      refine ⟨_, rfl, nK a, rfl, _, rfl, nK a, _, rfl, rfl, ?_⟩
      rw [val_num]
      refine ⟨_, rfl, nK b, rfl, _, rfl, nK b, _, rfl, rfl, ?_⟩
      rw [val_num]
      refine ⟨_, rfl, ite_b (fun h => ?_) (fun h => ?_)⟩
      · exact ⟨_, rfl, _, _, .refl, z2 _ (find_take hs hp (decide_eq_true h))⟩
      · exact ⟨⟨_, rfl⟩, rfl, find_next hs hp (decide_eq_false h)⟩
    · rintro ρ' μ' ⟨⟨v3, rfl⟩, e1, hp⟩
      have e2 := e1.symm
      subst e2
      rw [List.length_map, List.take_length] at hp
      exact ⟨_, _, .refl, z hp⟩

abbrev sLSh : Stmt := top 27
abbrev nLSh : List Str := ["_law_stock", "_law_names_here", "_law_numbers_here", "_law_word"]
theorem scLSh : FnScope nLSh ["_law_stock", "_law_names_here", "_law_numbers_here"] (defScope sLSh) := ⟨rfl, rfl, rfl, by decide +kernel, rfl, by decide +kernel, by decide +kernel⟩
inductive FLSh (C_Stock : Addr) (ds : List D) (μ : Sto) (Q : QD) (E : XD) : Prop
  | mk (x : D) (st : NL) (es : NL) (ns : List Str) (a1 : ds = [x, .lst (ns.map .str), .dct (nK es)]) (a2 : StAt C_Stock st x μ) (a3 : (∀ s ∈ ns, num st s = num es s)) (a4 : (∀ s, (num st s).natAbs < 10 ^ 31)) (a5 : ns.length ≤ 100) (a6 : bdS μ.length μ = true) (a7 : Q (.bl true) μ) : FLSh C_Stock ds μ Q E
theorem FLSh.mono {C_Stock : Addr} : MonF (FLSh C_Stock) := fun ds μ Q Q' E E' h he q => match q with | .mk x st es ns a1 a2 a3 a4 a5 a6 a7 => .mk x st es ns a1 a2 a3 a4 a5 a6 (h _ _ a7)
theorem FLSh.len {C_Stock : Addr} : ∀ ds μ Q E, FLSh C_Stock ds μ Q E → ds.length = 3 := fun ds μ Q E q => by obtain ⟨_, _, _, _, e, _, _, _, _, _, _⟩ := q; rw [e]; rfl
theorem cal_lsh (hm_Stock : mg "Stock" = some (.ref C_Stock)) (isC_Stock : IsC K C_Stock) (kit_Stock : PySem.W.kitOne K (.ref C_Stock) (.ref C_Stock) = some true) (cSm : Cal P w K mg base 1 "_law_same" FSame []) (cSGi : Met P w K mg base 1 C_Stock "__getitem__" (FSGi C_Stock) []) (cSGif : ∀ f, Meth K C_Stock "__getitem__" f → PySem.W.fnIn K f = true) {f : Addr} {fd : FuncData} {qual : Str} (T : NoB mg) (Fu : Fun K "_law_shows" qual sLSh f fd) (hm : mg "_law_shows" = some (.ref f)) (hk : PySem.W.keepIn K (.ref f) = true) (hb : L2.Binds K fd ["_law_stock", "_law_names_here", "_law_numbers_here"] []) : Cal P w K mg base 3 "_law_shows" (FLSh C_Stock) [] := by
  have nd := scLSh.nd
  refine cal_fun Fu scLSh hm hk hb ?_ ?_ (fun cdv A outer s H E hG hr =>
    have hu : (cxOf (L2.CX P w) P w K mg base nLSh qual (defScope sLSh) f cdv A outer s H E).A.units + 64 < cLine := by have := hr.un; show (A.deeper _).units + 64 < _; omega
    have hv : (cxOf (L2.CX P w) P w K mg base nLSh qual (defScope sLSh) f cdv A outer s H E).A.units + 1 < cLine := by omega
    have tk := takes_of (X := cxOf (L2.CX P w) P w K mg base nLSh qual (defScope sLSh) f cdv A outer s H E) (E := E) rfl rfl rfl rfl
    have pw := passes_of (X := cxOf (L2.CX P w) P w K mg base nLSh qual (defScope sLSh) f cdv A outer s H E) rfl
    (ds_cons (ds_if (dt_not (dt_val (de_callB cad_isi (by rfl) T.isinstance (by decide +kernel) (da_cons (de_var 0 rfl) (da_cons (de_cls (by rfl) hm_Stock) da_nil))))) (ds_one (ds_ret de_bl)) ds_nil)
      (ds_one (ds_ret (de_call cSm hG hr (by decide) (by rfl) tk (da_cons (de_lc (own := [("_law_word", 3)]) rfl nd (di_seq (de_var 1 rfl)) (blkOk_by (N := nLSh) (sc := defScope sLSh) (by decide +kernel)) (fun _ _ _ _ _ => (dgw_name (i := 3) nd rfl (by first | exact .inl rfl | exact .inr rfl) (by decide))) (fun _ _ _ _ _ => dts_nil) (fun _ _ _ _ _ => (de_getO (de_var 0 rfl) (de_var 3 rfl) cSGi cSGif hG hr (by decide)))) (da_cons (de_lc (own := [("_law_word", 3)]) rfl nd (di_seq (de_var 1 rfl)) (blkOk_by (N := nLSh) (sc := defScope sLSh) (by decide +kernel)) (fun _ _ _ _ _ => (dgw_name (i := 3) nd rfl (by first | exact .inl rfl | exact .inr rfl) (by decide))) (fun _ _ _ _ _ => dts_nil) (fun _ _ _ _ _ => (de_get2 hv (de_var 2 rfl) (de_var 3 rfl) de_int))) da_nil))))))) ?_
  · exact FLSh.mono
  · exact FLSh.len
  · rintro ds μ Q E ⟨x, st, es, ns, rfl, hx, hn, hB, hl, hb', z⟩
    have sz := sizeLine_eq
    refine ⟨_, rfl, _, _, _, _, _, rfl, .inl ⟨_, rfl, rfl⟩, .ins x C_Stock _ hx isC_Stock, kit_Stock, _, rfl, iff_ rfl ?_⟩
    have bI : ∀ f : Str → Int, bdL μ.length (ns.map fun s => D.int (f s)) = true := fun f => bdL_all.mpr fun d hd => by obtain ⟨s, _, rfl⟩ := List.mem_map.mp hd; rfl
    refine ⟨_, rfl, ns.map .str, rfl, lc_to (m := μ) ns .str (fun s => .int (num st s)) (fun _ => rfl) (fun s hs acc bm NX N0 n1 => ⟨_, rfl, _, rfl, stF st, asI_moreS hx, x, s, st, rfl, asI_moreS hx, n1⟩) (by omega) (bI _) hb' ?_⟩
    refine ⟨_, rfl, ns.map .str, rfl, lc_to (m := μ) ns .str (fun s => .int (num es s)) (fun _ => rfl) (fun s hs acc bm NX N0 n1 => ⟨_, rfl, nK es, rfl, _, rfl, nK es, _, rfl, rfl, by rw [val_num]; exact n1⟩) (by omega) (bI _) hb' ?_⟩
    have e : (ns.map fun s => D.int (num es s)) = ns.map fun s => D.int (num st s) := List.map_congr_left fun s hs => by rw [hn s hs]
    rw [e]
    have py : pyT μ (.lst (ns.map fun s => D.int (num st s))) = some (.list (ns.map fun s => PyData.int (num st s))) := by
      rw [pyT_l, pyI_map]; rfl
    refine ⟨_, _, _, rfl, py, py, okR_items (n := 110) (fun p hp => ?_) (by rw [List.length_map]; omega), _, _, .refl, z⟩
    obtain ⟨s, _, rfl⟩ := List.mem_map.mp hp
    exact itm_i (hB s) (Nat.le_refl _)


def stC (C_Stock : Addr) (e : NL) : CT := .ins C_Stock (stF e)
theorem stc_bd {C : Addr} {e : NL} {n : Nat} : (stC C e).bd n = true := by
  show (bdK n (nK e) && true) = true
  rw [nK_bd]; rfl
theorem stc_app {C : Addr} {μ : Sto} (h : bdS μ.length μ = true) (l : List NL) : bdS (μ ++ l.map (stC C)).length (μ ++ l.map (stC C)) = true := by
  rw [bdS_app, bdS_mono (by simp) h, Bool.true_and]
  refine List.all_eq_true.mpr fun c hc => ?_
  obtain ⟨e, _, rfl⟩ := List.mem_map.mp hc
  exact stc_bd
theorem stc_set {C : Addr} {μ : Sto} {n : Nat} {e : NL} (h : bdS μ.length μ = true) : bdS (μ.set n (stC C e)).length (μ.set n (stC C e)) = true := by
  rw [List.length_set]
  refine List.all_eq_true.mpr fun x hx => ?_
  rcases List.mem_or_eq_of_mem_set hx with h1 | rfl
  · exact List.all_eq_true.mp h x h1
  · exact stc_bd
theorem stc_one {C : Addr} {μ : Sto} {e : NL} (h : bdS μ.length μ = true) : bdS (μ ++ [stC C e]).length (μ ++ [stC C e]) = true := stc_app h [e]
theorem stAt_of {C : Addr} {μ : Sto} {n : Nat} {e : NL} (h : μ[n]? = some (stC C e)) : StAt C e (.cell n) μ := by
  show asI μ (.cell n) = _
  simp only [asI, h]; rfl
theorem StAt.more {C : Addr} {μ : Sto} {d : D} {e : NL} (h : StAt C e d μ) (ν : Sto) : StAt C e d (μ ++ ν) := asI_moreS h
theorem sok_nil : SOk [] := ⟨fun p h => absurd h (by simp), by simp, rfl, rfl, fun p h => absurd h (by simp)⟩
theorem shN_nil {a : NL} : shN a [] = none := by unfold shN ordS; simp
theorem shN_self {a : NL} : shN a a = none := List.find?_eq_none.mpr fun s _ => by simp
theorem sub_self_nil {a : NL} (h : SOk a) : nz (subN a a) = [] := by
  have o := h.sub h shN_self
  cases e : nz (subN a a) with
  | nil => rfl
  | cons p r =>
    have h1 : 0 < num (nz (subN a a)) p.1 := o.pos (by rw [e]; exact List.mem_cons_self ..)
    rw [num_sub h h shN_self] at h1
    omega
theorem sok_nz {es : NL} (h : nOk es) (nd : (es.map (·.1)).Nodup) (bn : bname es = none) (bm : bnum es = none) : SOk (nz es) :=
  ⟨nz_ok h, nz_nd nd, bname_iff.mpr fun p hp => bname_ok bn p (List.mem_filter.mp hp).1, bnum_iff.mpr fun p hp => bnum_ok bm p (List.mem_filter.mp hp).1, fun p hp => of_decide_eq_true (List.mem_filter.mp hp).2⟩
theorem num_small {a : NL} (h : SOk a) (s : Str) : (num a s).natAbs < 10 ^ 31 := by
  by_cases hs : s ∈ a.map (·.1)
  · obtain ⟨p, hp, rfl⟩ := List.mem_map.mp hs
    rw [num_mem h.nd hp]; exact (h.ok p hp).2.2
  · rw [num_no hs]; decide
abbrev sLCr : Stmt := top 28
abbrev nLCr : List Str := ["_law_names_here", "_law_left", "_law_right", "_law_made"]
theorem scLCr : FnScope nLCr ["_law_names_here", "_law_left", "_law_right"] (defScope sLCr) := ⟨rfl, rfl, rfl, by decide +kernel, rfl, by decide +kernel, by decide +kernel⟩
inductive FLCr (C_Stock : Addr) (ds : List D) (μ : Sto) (Q : QD) (E : XD) : Prop
  | mk (x : D) (y : D) (a : NL) (b : NL) (n0 : Str) (ns : List Str) (a1 : ds = [.lst ((n0 :: ns).map .str), x, y]) (a2 : StAt C_Stock a x μ) (a3 : StAt C_Stock b y μ) (a4 : SOk a) (a5 : SOk b) (a6 : a.length ≤ 100) (a7 : b.length ≤ 100) (a8 : (∀ s, num a s + num b s < 10 ^ 31)) (a9 : NameOk n0) (a10 : bdS μ.length μ = true) (a11 : (∀ ν : Sto, bdS (μ ++ ν).length (μ ++ ν) = true → Q .non (μ ++ ν))) : FLCr C_Stock ds μ Q E
theorem FLCr.mono {C_Stock : Addr} : MonF (FLCr C_Stock) := fun ds μ Q Q' E E' h he q => match q with | .mk x y a b n0 ns a1 a2 a3 a4 a5 a6 a7 a8 a9 a10 a11 => .mk x y a b n0 ns a1 a2 a3 a4 a5 a6 a7 a8 a9 a10 (by intros; apply h; apply a11 <;> assumption)
theorem FLCr.len {C_Stock : Addr} : ∀ ds μ Q E, FLCr C_Stock ds μ Q E → ds.length = 3 := fun ds μ Q E q => by obtain ⟨_, _, _, _, _, _, e, _, _, _, _, _, _, _, _, _, _⟩ := q; rw [e]; rfl
theorem cal_lcr (isC_Stock : IsC K C_Stock) (sf_Stock : PySem.W.selfFirst K C_Stock = true) (hnq : PySem.W.noSeq K C_Stock = true) (cstDN : Mak P w K mg base 5 "Stock" C_Stock (FSIniD C_Stock) [.non]) (cSAd : Met P w K mg base 7 C_Stock "__add__" (FSAd C_Stock) []) (cSSu : Met P w K mg base 7 C_Stock "__sub__" (FSSu C_Stock C_Short) []) (cSSi : Met P w K mg base 5 C_Stock "__setitem__" (FSSi C_BadName C_BadNumber C_Stock) []) {f : Addr} {fd : FuncData} {qual : Str} (T : NoB mg) (Fu : Fun K "_law_changes_results" qual sLCr f fd) (hm : mg "_law_changes_results" = some (.ref f)) (hk : PySem.W.keepIn K (.ref f) = true) (hb : L2.Binds K fd ["_law_names_here", "_law_left", "_law_right"] []) : Cal P w K mg base 9 "_law_changes_results" (FLCr C_Stock) [] := by
  have nd := scLCr.nd
  refine cal_fun Fu scLCr hm hk hb ?_ ?_ (fun cdv A outer s H E hG hr =>
    have hu : (cxOf (L2.CX P w) P w K mg base nLCr qual (defScope sLCr) f cdv A outer s H E).A.units + 64 < cLine := by have := hr.un; show (A.deeper _).units + 64 < _; omega
    have hv : (cxOf (L2.CX P w) P w K mg base nLCr qual (defScope sLCr) f cdv A outer s H E).A.units + 1 < cLine := by omega
    have tk := takes_of (X := cxOf (L2.CX P w) P w K mg base nLCr qual (defScope sLCr) f cdv A outer s H E) (E := E) rfl rfl rfl rfl
    have pw := passes_of (X := cxOf (L2.CX P w) P w K mg base nLCr qual (defScope sLCr) f cdv A outer s H E) rfl
    (ds_one (ds_for pw rfl (di_seq (de_lstD (da_cons (de_binE isC_Stock sf_Stock cSAd hG hr (by decide) tk (de_var 1 rfl) (de_var 2 rfl)) (da_cons (de_binE isC_Stock sf_Stock cSAd hG hr (by decide) tk (de_var 1 rfl) (de_make0 cstDN hG hr (by decide) (by rfl) tk)) (da_cons (de_binE isC_Stock sf_Stock cSSu hG hr (by decide) tk (de_var 1 rfl) (de_make0 cstDN hG hr (by decide) (by rfl) tk)) (da_cons (de_binE isC_Stock sf_Stock cSAd hG hr (by decide) tk (de_var 2 rfl) (de_var 1 rfl)) da_nil)))))) (dg_name (i := 3) nd rfl (by first | exact .inl rfl | exact .inr rfl)) (ds_one (ds_setO cSSi hnq hG hr (by decide) tk (de_var 3 rfl) (de_ixL (de_var 0 rfl) de_int) de_int))))) ?_
  · exact FLCr.mono
  · exact FLCr.len
  · rintro ds μ Q E ⟨x, y, a, b, n0, ns, rfl, ha, hb2, oa, ob, la, lb, hB, nok, hb', z⟩
    have sz := sizeLine_eq
    let f := stC C_Stock
    have hB' : ∀ s, num b s + num a s < 10 ^ 31 := fun s => by rw [Int.add_comm]; exact hB s
    have hA0 : ∀ s, num a s + num [] s < 10 ^ 31 := fun s => by
      have h1 := num_small oa s
      have h2 : num [] s = 0 := rfl
      rw [h2]; omega
    let A := addN a b
    let B := addN a []
    let C := nz (subN a [])
    let D4 := addN b a
    let μ1 : Sto := μ ++ [f A]
    let μ2 : Sto := μ1 ++ [f B]
    let μ3 : Sto := μ2 ++ [f C]
    have b1 : bdS μ1.length μ1 = true := stc_one hb'
    have b2 : bdS μ2.length μ2 = true := stc_one b1
    have b3 : bdS μ3.length μ3 = true := stc_one b2
    have bbn : ∀ {μ : Sto}, bdS μ.length μ = true → bdS (μ ++ [CT.ins C_Stock []]).length (μ ++ [CT.ins C_Stock []]) = true := fun {μ} h => by rw [bdS_app, bdS_mono (by simp) h]; rfl
    have fz : ∀ n : Nat, (D.ins C_Stock (stF [])).bd n = true := fun n => rfl
    have h1 := ha.more [f A]
    have h2 := h1.more [f B]
    have h3 := h2.more [f C]
    have k3 := ((hb2.more [f A]).more [f B]).more [f C]
    refine ⟨_, rfl, _, rfl, _, _, ha, hb2, x, y, a, b, rfl, ha, hb2, oa, ob, by omega, by omega, hB, hb', ?_⟩
    refine ⟨_, rfl, _, .non, [], rfl, ap_get, .inl ⟨rfl, rfl⟩, fun p h => absurd h (by simp), by simp, by simp, rfl, rfl, bbn b1, ?_⟩
    rw [ap_set]
    refine ⟨rfl, _, _, .ins (Nat.le_refl _) (fz _) b1 .refl, _, _, h1, rfl, x, _, a, [], rfl, h1, rfl, oa, sok_nil, by omega, by simp, hA0, b1, ?_⟩
    refine ⟨_, rfl, _, .non, [], rfl, ap_get, .inl ⟨rfl, rfl⟩, fun p h => absurd h (by simp), by simp, by simp, rfl, rfl, bbn b2, ?_⟩
    rw [ap_set]
    refine ⟨rfl, _, _, .ins (Nat.le_refl _) (fz _) b2 .refl, _, _, h2, rfl, x, _, a, [], rfl, h2, rfl, oa, sok_nil, by omega, by simp, b2, fun _ => ?_, fun s h => (by rw [shN_nil] at h; cases h)⟩
    refine ⟨_, rfl, _, rfl, _, _, k3, h3, y, x, b, a, rfl, k3, h3, ob, oa, by omega, by omega, hB', b3, ?_⟩
    have lA : A.length ≤ 300 := by have : A.length ≤ a.length + b.length := add_len; omega
    have lB : B.length ≤ 300 := by have : B.length ≤ a.length + ([] : NL).length := add_len; simp only [List.length_nil] at this; omega
    have lC : C.length ≤ 300 := by have : C.length ≤ a.length := sub_len; omega
    have lD : D4.length ≤ 300 := by have : D4.length ≤ b.length + a.length := add_len; omega
    refine ⟨by show 4 ≤ sizeLine; omega, _, rfl, fun i ρ' μ' => (∃ v3 : Option D, ρ' = [some (.lst ((n0 :: ns).map .str)), some x, some y, v3]) ∧ ∃ l : List NL, l.length = 4 ∧ (∀ e ∈ l, (e.map (·.1)).Nodup ∧ e.length ≤ 300 + i) ∧ μ' = μ ++ l.map f, ⟨⟨_, rfl⟩, [A, B, C, D4], rfl, fun e he => ?_, ?_⟩, fun _ _ _ _ => rfl, ?_, ?_⟩
    · simp only [List.mem_cons, List.not_mem_nil, or_false] at he
      rcases he with rfl | rfl | rfl | rfl
      · exact ⟨add_nd, by omega⟩
      · exact ⟨add_nd, by omega⟩
      · exact ⟨nz_nd (sub_nd oa), by omega⟩
      · exact ⟨add_nd, by omega⟩
    · show (((μ ++ [f A]) ++ [f B]) ++ [f C]) ++ [f D4] = _
      rw [List.append_assoc, List.append_assoc, List.append_assoc]; rfl
    · rintro i z0 ρ' μ' hx ⟨⟨v3, rfl⟩, l, l4, hl, rfl⟩
      obtain ⟨j, hj, rfl⟩ : ∃ j, j < 4 ∧ z0 = .cell (μ.length + j) := by
        have m := List.mem_of_getElem? hx
        have e1 : μ1.length = μ.length + 1 := by show (μ ++ [_]).length = _; rw [List.length_append]; rfl
        have e2 : μ2.length = μ.length + 2 := by show (μ1 ++ [_]).length = _; rw [List.length_append, e1]; rfl
        have e3 : μ3.length = μ.length + 3 := by show (μ2 ++ [_]).length = _; rw [List.length_append, e2]; rfl
        simp only [List.mem_cons, List.not_mem_nil, or_false] at m
        rcases m with rfl | rfl | rfl | rfl
        · exact ⟨0, by decide, rfl⟩
        · exact ⟨1, by decide, congrArg D.cell e1⟩
        · exact ⟨2, by decide, congrArg D.cell e2⟩
        · exact ⟨3, by decide, congrArg D.cell e3⟩
      obtain ⟨e, he⟩ : ∃ e, l[j]? = some e := ⟨_, List.getElem?_eq_getElem (by omega)⟩
      obtain ⟨en, el⟩ := hl e (List.mem_of_getElem? he)
      have hi : i < 4 := (List.getElem?_eq_some_iff.mp hx).1
      have g : (μ ++ l.map f)[μ.length + j]? = some (stC C_Stock e) := by
        rw [List.getElem?_append_right (by omega), Nat.add_sub_cancel_left, List.getElem?_map, he]; rfl
      have at0 : atI ((n0 :: ns).map D.str) 0 = some (.str n0) := (atI_nn _ (Int.le_refl 0)).trans rfl
      refine ⟨_, rfl, _, rfl, _, 0, _, rfl, rfl, at0, stF e, stAt_of g, μ.length + j, n0, 77, e, rfl, g, en, by omega, asc_name nok, Nat.le_trans nok.len (by decide), by decide, stc_app hb' l, fun _ _ => ?_, fun h => (by rw [NameOk.nameB nok] at h; cases h), fun _ h => absurd h (by decide)⟩
      refine ⟨⟨_, rfl⟩, l.set j (nz (putN e n0 77)), by rw [List.length_set]; exact l4, fun e2 h2 => ?_, ?_⟩
      · rcases List.mem_or_eq_of_mem_set h2 with h2 | rfl
        · exact ⟨(hl e2 h2).1, by have := (hl e2 h2).2; omega⟩
        · have := nz_len (es := putN e n0 77)
          have := putN_len (es := e) (s := n0) (v := 77)
          exact ⟨nz_nd (putN_nd en), by omega⟩
      · rw [List.set_append_right _ _ (by omega), Nat.add_sub_cancel_left, List.map_set]; rfl
    · rintro ρ' μ' ⟨⟨v3, rfl⟩, l, l4, hl, rfl⟩
      exact ⟨_, _, .refl, z _ (stc_app hb' l)⟩

abbrev sLGr : Stmt := top 29
abbrev nLGr : List Str := ["_law_names_here", "_law_left", "_law_right", "_law_total", "_law_grown", "_law_same_here", "_law_is_right"]
theorem scLGr : FnScope nLGr ["_law_names_here", "_law_left", "_law_right", "_law_total"] (defScope sLGr) := ⟨rfl, rfl, rfl, by decide +kernel, rfl, by decide +kernel, by decide +kernel⟩
inductive FLGr (C_Stock : Addr) (ds : List D) (μ : Sto) (Q : QD) (E : XD) : Prop
  | mk (x : D) (y : D) (a : NL) (b : NL) (t : NL) (n0 : Str) (ns : List Str) (a1 : ds = [.lst ((n0 :: ns).map .str), x, y, .dct (nK t)]) (a2 : StAt C_Stock a x μ) (a3 : StAt C_Stock b y μ) (a4 : SOk a) (a5 : SOk b) (a6 : a.length ≤ 100) (a7 : b.length ≤ 100) (a8 : (∀ s, num a s + num b s < 10 ^ 31)) (a9 : (∀ s ∈ n0 :: ns, num t s = num a s + num b s)) (a10 : NameOk n0) (a11 : ns.length ≤ 50) (a12 : bdS μ.length μ = true) (a13 : (∀ ν : Sto, bdS (μ ++ ν).length (μ ++ ν) = true → Q (.bl true) (μ ++ ν))) : FLGr C_Stock ds μ Q E
theorem FLGr.mono {C_Stock : Addr} : MonF (FLGr C_Stock) := fun ds μ Q Q' E E' h he q => match q with | .mk x y a b t n0 ns a1 a2 a3 a4 a5 a6 a7 a8 a9 a10 a11 a12 a13 => .mk x y a b t n0 ns a1 a2 a3 a4 a5 a6 a7 a8 a9 a10 a11 a12 (by intros; apply h; apply a13 <;> assumption)
theorem FLGr.len {C_Stock : Addr} : ∀ ds μ Q E, FLGr C_Stock ds μ Q E → ds.length = 4 := fun ds μ Q E q => by obtain ⟨_, _, _, _, _, _, _, e, _, _, _, _, _, _, _, _, _, _, _, _⟩ := q; rw [e]; rfl
theorem cal_lgr (isC_Stock : IsC K C_Stock) (sf_Stock : PySem.W.selfFirst K C_Stock = true) (hnq : PySem.W.noSeq K C_Stock = true) (cSCpC : Met P w K mg base 7 C_Stock "copy" (FSCpC C_Stock) []) (cSAd : Met P w K mg base 7 C_Stock "__add__" (FSAd C_Stock) []) (cSIa : Met P w K mg base 2 C_Stock "__iadd__" (FSIa C_Stock) []) (cSSi : Met P w K mg base 5 C_Stock "__setitem__" (FSSi C_BadName C_BadNumber C_Stock) []) (cLSh : Cal P w K mg base 3 "_law_shows" (FLSh C_Stock) []) {f : Addr} {fd : FuncData} {qual : Str} (T : NoB mg) (Fu : Fun K "_law_grows" qual sLGr f fd) (hm : mg "_law_grows" = some (.ref f)) (hk : PySem.W.keepIn K (.ref f) = true) (hb : L2.Binds K fd ["_law_names_here", "_law_left", "_law_right", "_law_total"] []) : Cal P w K mg base 9 "_law_grows" (FLGr C_Stock) [] := by
  have nd := scLGr.nd
  refine cal_fun Fu scLGr hm hk hb ?_ ?_ (fun cdv A outer s H E hG hr =>
    have hu : (cxOf (L2.CX P w) P w K mg base nLGr qual (defScope sLGr) f cdv A outer s H E).A.units + 64 < cLine := by have := hr.un; show (A.deeper _).units + 64 < _; omega
    have hv : (cxOf (L2.CX P w) P w K mg base nLGr qual (defScope sLGr) f cdv A outer s H E).A.units + 1 < cLine := by omega
    have tk := takes_of (X := cxOf (L2.CX P w) P w K mg base nLGr qual (defScope sLGr) f cdv A outer s H E) (E := E) rfl rfl rfl rfl
    have pw := passes_of (X := cxOf (L2.CX P w) P w K mg base nLGr qual (defScope sLGr) f cdv A outer s H E) rfl
    (ds_cons (ds_set (i := 4) nd rfl (by first | exact .inl rfl | exact .inr rfl) (de_meth0 cSCpC hG hr (by decide) tk (de_var 1 rfl)))
      (ds_cons (ds_set (i := 5) nd rfl (by first | exact .inl rfl | exact .inr rfl) (de_var 4 rfl))
      (ds_cons (ds_augO sf_Stock cSIa hG hr (by decide) tk (i := 4) nd rfl (by first | exact .inl rfl | exact .inr rfl) (de_var 2 rfl))
      (ds_cons (ds_set (i := 6) nd rfl (by first | exact .inl rfl | exact .inr rfl) (de_and (de_call cLSh hG hr (by decide) (by rfl) tk (da_cons (de_binE isC_Stock sf_Stock cSAd hG hr (by decide) tk (de_var 1 rfl) (de_var 2 rfl)) (da_cons (de_var 0 rfl) (da_cons (de_var 3 rfl) da_nil)))) (de_one (de_call cLSh hG hr (by decide) (by rfl) tk (da_cons (de_var 5 rfl) (da_cons (de_var 0 rfl) (da_cons (de_var 3 rfl) da_nil)))))))
      (ds_cons (ds_setO cSSi hnq hG hr (by decide) tk (de_var 4 rfl) (de_ixL (de_var 0 rfl) de_int) de_int)
      (ds_one (ds_ret (de_var 6 rfl))))))))) ?_
  · exact FLGr.mono
  · exact FLGr.len
  · rintro ds μ Q E ⟨x, y, a, b, t, n0, ns, rfl, ha, hb2, oa, ob, la, lb, hB, ht, nok, hl, hb', z⟩
    have sz := sizeLine_eq
    let f := stC C_Stock
    have so := oa.add ob hB
    have sl := add_len (a := a) (b := b)
    let A := addN a b
    refine ⟨_, rfl, stF a, ha, rfl, x, a, rfl, ha, oa, by omega, hb', ?_⟩
    let μ1 : Sto := μ ++ [f a]
    have b1 : bdS μ1.length μ1 = true := stc_one hb'
    have g1 : μ1[μ.length]? = some (f a) := ap_get
    have k1 := hb2.more [f a]
    refine ⟨_, rfl, _, rfl, _, rfl, stF a, stAt_of g1, μ.length, y, a, b, rfl, g1, k1, oa, ob, by omega, by omega, b1, ?_⟩
    rw [ap_set]
    let μ2 : Sto := μ ++ [f A]
    have b2 : bdS μ2.length μ2 = true := stc_one hb'
    have h2 := ha.more [f A]
    have k2 := hb2.more [f A]
    refine ⟨_, rfl, _, rfl, _, _, h2, k2, x, y, a, b, rfl, h2, k2, oa, ob, by omega, by omega, hB, b2, ?_⟩
    let μ3 : Sto := μ2 ++ [f A]
    have b3 : bdS μ3.length μ3 = true := stc_one b2
    have g3 : μ3[μ2.length]? = some (f A) := ap_get
    have g0 : μ3[μ.length]? = some (f A) := ga_app ap_get
    have hn : ∀ s ∈ n0 :: ns, num A s = num t s := fun s hs => by rw [ht s hs]; exact num_add s
    have hl2 : (n0 :: ns).length ≤ 100 := by rw [List.length_cons]; omega
    refine ⟨_, rfl, _, rfl, .cell μ2.length, A, t, n0 :: ns, rfl, stAt_of g3, hn, num_small so, hl2, b3, _, rfl, ift_ rfl ?_⟩
    refine ⟨_, rfl, _, rfl, _, rfl, .cell μ.length, A, t, n0 :: ns, rfl, stAt_of g0, hn, num_small so, hl2, b3, ?_⟩
    have at0 : atI ((n0 :: ns).map D.str) 0 = some (.str n0) := (atI_nn _ (Int.le_refl 0)).trans rfl
    have lA : A.length ≤ 200 := by have : A.length ≤ a.length + b.length := add_len; omega
    refine ⟨_, rfl, _, rfl, _, 0, _, rfl, rfl, at0, stF A, stAt_of g0, μ.length, n0, 77, A, rfl, g0, so.nd, by omega, asc_name nok, Nat.le_trans nok.len (by decide), by decide, b3, fun _ _ => ?_, fun h => (by rw [NameOk.nameB nok] at h; cases h), fun _ h => absurd h (by decide)⟩
    have e3 : (μ ++ [CT.ins C_Stock (stF (addN a b))] ++ [CT.ins C_Stock (stF (addN a b))]).set μ.length (.ins C_Stock (stF (nz (putN A n0 77)))) = μ ++ [nz (putN A n0 77), A].map f := by
      rw [List.append_assoc, List.set_append_right _ _ (Nat.le_refl _), Nat.sub_self]; rfl
    rw [e3]
    exact ⟨_, rfl, _, _, .refl, z _ (stc_app hb' _)⟩

def dblN (es : NL) : NL := es.map fun p => (p.1, 2 * p.2)
theorem dbl_keys (es : NL) : (dblN es).map (·.1) = es.map (·.1) := by unfold dblN; rw [List.map_map]; rfl
theorem num_dbl {es : NL} (nd : (es.map (·.1)).Nodup) (s : Str) : num (dblN es) s = num es s + num es s := by
  by_cases h : s ∈ es.map (·.1)
  · obtain ⟨p, hp, rfl⟩ := List.mem_map.mp h
    have h1 : (p.1, 2 * p.2) ∈ dblN es := List.mem_map.mpr ⟨p, hp, rfl⟩
    have h2 := num_mem (by rw [dbl_keys]; exact nd) h1
    rw [num_mem nd hp]
    show num (dblN es) p.1 = _
    have h3 : num (dblN es) p.1 = 2 * p.2 := h2
    omega
  · rw [num_no h, num_no (by rw [dbl_keys]; exact h)]; rfl
def pDbl (es : NL) : D → Option D
  | .str s => some (.tup [.str s, .int (2 * num es s)])
  | _ => none
theorem pDbl_map {es : NL} : ∀ l : NL, (∀ p ∈ l, num es p.1 = p.2) → ((nK l).map fun q => kOf q.1).filterMap (pDbl es) = pairsD (nK (dblN l))
  | [], _ => rfl
  | p :: l, h => by
    have ih := pDbl_map (es := es) l fun q hq => h q (List.mem_cons_of_mem _ hq)
    have e := h p (List.mem_cons_self ..)
    unfold nK dblN pairsD at *
    rw [List.map_cons, List.map_cons, List.filterMap_cons]
    show D.tup [.str p.1, .int (2 * num es p.1)] :: _ = _
    rw [ih, e]; rfl
abbrev sLWi : Stmt := top 30
abbrev nLWi : List Str := ["_law_names_here", "_law_numbers_here", "_law_stock", "_law_same_here", "_law_twice", "_law_word"]
theorem scLWi : FnScope nLWi ["_law_names_here", "_law_numbers_here"] (defScope sLWi) := ⟨rfl, rfl, rfl, by decide +kernel, rfl, by decide +kernel, by decide +kernel⟩
inductive FLWi (C_Stock : Addr) (ds : List D) (μ : Sto) (Q : QD) (E : XD) : Prop
  | mk (es : NL) (ns : List Str) (a1 : ds = [.lst (ns.map .str), .dct (nK es)]) (a2 : nOk es) (a3 : (es.map (·.1)).Nodup) (a4 : bname es = none) (a5 : bnum es = none) (a6 : es.length ≤ 100) (a7 : (∀ s, num es s + num es s < 10 ^ 31)) (a8 : (∀ p ∈ es, p.1 ∈ ns)) (a9 : ns.length ≤ 50) (a10 : bdS μ.length μ = true) (a11 : ∀ μ', Q (.bl true) μ') : FLWi C_Stock ds μ Q E
theorem FLWi.mono {C_Stock : Addr} : MonF (FLWi C_Stock) := fun ds μ Q Q' E E' h he q => match q with | .mk es ns a1 a2 a3 a4 a5 a6 a7 a8 a9 a10 a11 => .mk es ns a1 a2 a3 a4 a5 a6 a7 a8 a9 a10 (by intros; apply h; apply a11 <;> assumption)
theorem FLWi.len {C_Stock : Addr} : ∀ ds μ Q E, FLWi C_Stock ds μ Q E → ds.length = 2 := fun ds μ Q E q => by obtain ⟨_, _, e, _, _, _, _, _, _, _, _, _, _⟩ := q; rw [e]; rfl
theorem cal_lwi (isC_Stock : IsC K C_Stock) (sf_Stock : PySem.W.selfFirst K C_Stock = true) (nfS : PySem.W.notFirst K C_Stock (.ref C_Stock) = true) (cstD : Mak P w K mg base 5 "Stock" C_Stock (FSIniD C_Stock) []) (cSAd : Met P w K mg base 7 C_Stock "__add__" (FSAd C_Stock) []) (cSSu : Met P w K mg base 7 C_Stock "__sub__" (FSSu C_Stock C_Short) []) (cSIa : Met P w K mg base 2 C_Stock "__iadd__" (FSIa C_Stock) []) (cSIs : Met P w K mg base 4 C_Stock "__isub__" (FSIs C_Stock C_Short) []) (cSLe : Met P w K mg base 3 C_Stock "__le__" (FSLe C_Stock) []) (cSNm : Met P w K mg base 1 C_Stock "names" (FSNm C_Stock) []) (cLSh : Cal P w K mg base 3 "_law_shows" (FLSh C_Stock) []) {f : Addr} {fd : FuncData} {qual : Str} (T : NoB mg) (Fu : Fun K "_law_with_itself" qual sLWi f fd) (hm : mg "_law_with_itself" = some (.ref f)) (hk : PySem.W.keepIn K (.ref f) = true) (hb : L2.Binds K fd ["_law_names_here", "_law_numbers_here"] []) : Cal P w K mg base 9 "_law_with_itself" (FLWi C_Stock) [] := by
  have nd := scLWi.nd
  refine cal_fun Fu scLWi hm hk hb ?_ ?_ (fun cdv A outer s H E hG hr =>
    have hu : (cxOf (L2.CX P w) P w K mg base nLWi qual (defScope sLWi) f cdv A outer s H E).A.units + 64 < cLine := by have := hr.un; show (A.deeper _).units + 64 < _; omega
    have hv : (cxOf (L2.CX P w) P w K mg base nLWi qual (defScope sLWi) f cdv A outer s H E).A.units + 1 < cLine := by omega
    have tk := takes_of (X := cxOf (L2.CX P w) P w K mg base nLWi qual (defScope sLWi) f cdv A outer s H E) (E := E) rfl rfl rfl rfl
    have pw := passes_of (X := cxOf (L2.CX P w) P w K mg base nLWi qual (defScope sLWi) f cdv A outer s H E) rfl
    (ds_cons (ds_set (i := 2) nd rfl (by first | exact .inl rfl | exact .inr rfl) (de_make cstD hG hr (by decide) (by rfl) tk (da_cons (de_callTy cad_dictD (by rfl) T.dict (by decide +kernel) (da_cons (de_var 1 rfl) da_nil)) da_nil)))
      (ds_cons (ds_set (i := 3) nd rfl (by first | exact .inl rfl | exact .inr rfl) (de_var 2 rfl))
      (ds_cons (ds_set (i := 4) nd rfl (by first | exact .inl rfl | exact .inr rfl) (de_callTy (cad_dictP rfl) (by rfl) T.dict (by decide +kernel) (da_cons (de_lcD (own := [("_law_word", 5)]) rfl nd (wd_keys (pth_var 1)) (blkOk_by (N := nLWi) (sc := defScope sLWi) (by decide +kernel)) (fun _ _ _ _ _ => (dgw_name (i := 5) nd rfl (by first | exact .inl rfl | exact .inr rfl) (by decide))) (fun _ _ _ _ _ => dts_nil) (fun _ _ _ _ _ => (de_tup (da_cons (de_var 5 rfl) (da_cons (de_op opd_mulI de_int (de_dget hv (de_var 1 rfl) (de_var 5 rfl) (fun _ _ => rfl))) da_nil))))) da_nil)))
      (ds_cons (ds_if (DW.pt (dw_or (dt_not (dt_val (de_call cLSh hG hr (by decide) (by rfl) tk (da_cons (de_binE isC_Stock sf_Stock cSAd hG hr (by decide) tk (de_var 2 rfl) (de_var 2 rfl)) (da_cons (de_var 0 rfl) (da_cons (de_var 4 rfl) da_nil)))))) (dw_or (dt_cmp (opd_neE hu) (de_meth0 cSNm hG hr (by decide) tk (de_binE isC_Stock sf_Stock cSSu hG hr (by decide) tk (de_var 2 rfl) (de_var 2 rfl))) (de_lstD da_nil)) (dw_or1 (dt_not (dt_cmp (opd_own (fun _ _ => rfl) cSLe hG hr (by decide)) (de_var 2 rfl) (de_var 2 rfl))))))) (ds_one (ds_ret de_bl)) ds_nil)
      (ds_cons (ds_augO sf_Stock cSIa hG hr (by decide) tk (i := 2) nd rfl (by first | exact .inl rfl | exact .inr rfl) (de_var 2 rfl))
      (ds_cons (ds_if (dt_not (dt_val (de_call cLSh hG hr (by decide) (by rfl) tk (da_cons (de_var 3 rfl) (da_cons (de_var 0 rfl) (da_cons (de_var 4 rfl) da_nil)))))) (ds_one (ds_ret de_bl)) ds_nil)
      (ds_cons (ds_augO sf_Stock cSIs hG hr (by decide) tk (i := 2) nd rfl (by first | exact .inl rfl | exact .inr rfl) (de_var 2 rfl))
      (ds_one (ds_ret (de_and (de_cmp (opd_eqP' hu) (de_meth0 cSNm hG hr (by decide) tk (de_var 3 rfl)) (de_lstD da_nil)) (de_one (de_call cLSh hG hr (by decide) (by rfl) tk (da_cons (de_var 3 rfl) (da_cons (de_var 0 rfl) (da_cons de_dict0 da_nil)))))))))))))))) ?_
  · exact FLWi.mono
  · exact FLWi.len
  · rintro ds μ Q E ⟨es, ns, rfl, oe, nd, bn, bm, le, hB, hs, hl, hb', z⟩
    have sz := sizeLine_eq
    let f := stC C_Stock
    have bb : bdS (μ ++ [CT.ins C_Stock []]).length (μ ++ [CT.ins C_Stock []]) = true := by rw [bdS_app, bdS_mono (by simp) hb']; rfl
    have so := sok_nz oe nd bn bm
    let st := nz es
    have sl : st.length ≤ 100 := Nat.le_trans nz_len le
    have hnum : ∀ s, num st s = num es s := fun s => num_nz nd s
    have hB1 : ∀ s, num st s + num st s < 10 ^ 31 := fun s => by rw [hnum]; exact hB s
    let A := addN st st
    have oA : SOk A := so.add so hB1
    have lA : A.length ≤ 200 := by have : A.length ≤ st.length + st.length := add_len; omega
    have hA : ∀ s ∈ ns, num A s = num (dblN es) s := fun s _ => by rw [num_dbl nd, ← hnum]; exact num_add s
    refine ⟨_, rfl, _, nK es, rfl, rfl, .inl ?_⟩
    refine ⟨_, .dct (nK es), es, rfl, ap_get, .inr rfl, oe, nd, by omega, bn, bm, bb, ?_⟩
    rw [ap_set]
    refine ⟨rfl, _, _, .refl, ?_⟩
    let μ1 : Sto := μ ++ [f st]
    have b1 : bdS μ1.length μ1 = true := stc_one hb'
    have g1 : μ1[μ.length]? = some (f st) := ap_get
    have h1 := stAt_of g1
    refine ⟨_, rfl, ?_⟩
    have bdP : bdL μ1.length (pairsD (nK (dblN es))) = true := bdL_all.mpr fun d hd => by
      unfold pairsD nK at hd
      obtain ⟨q, hq, rfl⟩ := List.mem_map.mp hd
      obtain ⟨q2, hq2, rfl⟩ := List.mem_map.mp hq
      rfl
    have eP := pDbl_map (es := es) es fun p hp => num_mem nd hp
    have lnK : (nK es).length ≤ 1000 := by unfold nK; rw [List.length_map]; omega
    refine ⟨nK es, rfl, lc_pure (m := μ1) (pDbl es) (fun _ => trivial) (fun x hx acc NX N0 n1 n2 => ?_) (by rw [List.length_map]; omega) (by rw [eP]; exact bdP) b1 ?_⟩
    · obtain ⟨q, hq, rfl⟩ := List.mem_map.mp hx
      obtain ⟨p, hp, rfl⟩ := List.mem_map.mp hq
      have vb : valD (nK es) (.inr p.1) = some (.int (num es p.1)) := by
        rw [val_nK]
        have := (look_mem nd (s := p.1) (i := p.2)).mpr hp
        unfold num
        rw [this]; rfl
      have hj : (num es p.1).natAbs < 2 ^ 104 := by rw [num_mem nd hp]; exact Nat.lt_of_lt_of_le (oe p hp).2.2 (by decide)
      exact ⟨_, rfl, _, rfl, _, rfl, nK es, _, _, rfl, rfl, vb, _, _, rfl, rfl, wide_mul (show (2 : Int).natAbs < 2 ^ 64 by decide) hj (by decide) (by decide) (by decide), by show 2 ≤ sizeLine; omega, n1 _ rfl⟩
    rw [eP]
    refine ⟨_, nK (dblN es), rfl, rfl, .inl ?_⟩
    rw [merge_nil' (nK_nd (by rw [dbl_keys]; exact nd))]
    -- the sum
    refine ⟨_, rfl, _, rfl, _, _, h1, h1, .cell μ.length, .cell μ.length, st, st, rfl, h1, h1, so, so, by omega, by omega, hB1, b1, ?_⟩
    let μ2 : Sto := μ1 ++ [f A]
    have b2 : bdS μ2.length μ2 = true := stc_one b1
    have h2 := h1.more [f A]
    have hl2 : ns.length ≤ 100 := by omega
    refine ⟨_, rfl, _, rfl, .cell μ1.length, A, dblN es, ns, rfl, stAt_of ap_get, hA, num_small oA, hl2, b2, _, rfl, iff_ rfl ?_⟩
    -- the difference
    refine ⟨_, rfl, _, rfl, _, _, h2, h2, .cell μ.length, .cell μ.length, st, st, rfl, h2, h2, so, so, by omega, by omega, b2, fun _ => ?_, fun s h => (by rw [shN_self] at h; cases h)⟩
    rw [sub_self_nil so]
    let μ3 : Sto := μ2 ++ [f []]
    have b3 : bdS μ3.length μ3 = true := stc_one b2
    have h3 := h2.more [f []]
    have o0 : ordS [] = [] := by unfold ordS; simp
    refine ⟨stF [], stAt_of (e := []) ap_get, rfl, .cell μ2.length, [], rfl, stAt_of (e := []) ap_get, by simp, ?_⟩
    show fLstD fNil _ μ3 _ _
    refine ⟨by show 0 ≤ sizeLine; omega, [], by show some ((ordS []).map D.str) = _; rw [o0]; rfl, rfl, _, rfl, iff_ rfl ?_⟩
    have g3 : μ3[μ.length]? = some (f st) := ga_app (ga_app ap_get)
    have hI3 : asI μ3 (.cell μ.length) = some (C_Stock, stF st) := h3
    refine ⟨_, rfl, _, rfl, stF st, _, hI3, .ins (.cell μ.length) C_Stock _ hI3 isC_Stock, nfS, .cell μ.length, .cell μ.length, st, st, rfl, h3, h3, so, by omega, fun s => Int.le_refl _, b3, true, rfl, iff_ rfl ?_⟩
    -- += itself
    refine ⟨_, rfl, _, rfl, stF st, hI3, μ.length, .cell μ.length, st, st, rfl, g3, h3, so, so, by omega, by omega, b3, ?_⟩
    let μ4 : Sto := μ3.set μ.length (stC C_Stock A)
    have b4 : bdS μ4.length μ4 = true := stc_set b3
    have g4 : μ4[μ.length]? = some (stC C_Stock A) := List.getElem?_set_self (List.getElem?_eq_some_iff.mp g3).1
    have h4 := stAt_of g4
    refine ⟨_, rfl, _, rfl, _, rfl, .cell μ.length, A, dblN es, ns, rfl, h4, hA, num_small oA, hl2, b4, _, rfl, iff_ rfl ?_⟩
    -- -= itself
    refine ⟨_, rfl, _, rfl, stF A, h4, μ.length, .cell μ.length, A, A, rfl, g4, h4, oA, oA, by omega, by omega, b4, fun _ => ?_, fun s h => (by rw [shN_self] at h; cases h)⟩
    rw [sub_self_nil oA]
    let μ5 : Sto := μ4.set μ.length (stC C_Stock [])
    have b5 : bdS μ5.length μ5 = true := stc_set b4
    have g5 : μ5[μ.length]? = some (stC C_Stock []) := List.getElem?_set_self (List.getElem?_eq_some_iff.mp g4).1
    have h5 := stAt_of g5
    refine ⟨_, rfl, stF [], h5, rfl, .cell μ.length, [], rfl, h5, by simp, by show 0 ≤ sizeLine; omega, .list [], .list [], by show pyS μ5 (.lst ((ordS []).map D.str)) = _; rw [o0]; rfl, rfl, rfl, rfl, true, rfl, ift_ rfl ?_⟩
    exact ⟨_, rfl, _, rfl, .inl ⟨.cell μ.length, [], [], ns, rfl, h5, fun _ _ => rfl, fun s => by show ((0 : Int).natAbs) < _; decide, hl2, b5, _, _, .refl, z _⟩⟩

end
end Dl

namespace Dl
open PySem PySem.Spec L2
open PyProof.Rows hiding St Binds
section
variable {P : Program} {w : World} {K : PySem.W.Frag} {mg : Str → Option Value} {base : Heap} {C_BadName C_BadNumber C_Short C_Stock : Addr}
theorem ordS_fil (p : Str → Bool) (ss : List Str) : sortedS ((ordS ss).filter p) = true := by
  refine sortedS_of_pairwise _ (((W.sort_pairwise (W.sortLe_total _ _ _) ss).filter p).imp fun {a b} h => ?_)
  have h' : (!lexLt itemOrd [.inr b.cps.toList] [.inr a.cps.toList]) = true := h
  rw [Bool.not_eq_true'] at h'
  have h2 : (itemLt (.inr b.cps.toList) (.inr a.cps.toList) || (!itemLt (.inr a.cps.toList) (.inr b.cps.toList) && false)) = false := h'
  rw [Bool.and_false, Bool.or_false] at h2
  rw [ltCps_eq]
  exact h2
theorem find_both {p : Str → Bool} {l1 l2 : List Str} (n1 : l1.Nodup) (n2 : l2.Nodup) (h : ∀ s, p s = true → (s ∈ l1 ↔ s ∈ l2)) : (ordS l1).find? p = (ordS l2).find? p := by
  rw [← List.head?_filter, ← List.head?_filter]
  congr 1
  refine sorted_one _ _ (((ordS_perm _).nodup_iff.mpr n1).filter p) (((ordS_perm _).nodup_iff.mpr n2).filter p) (ordS_fil p l1) (ordS_fil p l2) fun x => ?_
  rw [List.mem_filter, List.mem_filter, (ordS_perm _).mem_iff, (ordS_perm _).mem_iff]
  exact ⟨fun ⟨a, b⟩ => ⟨(h x b).mp a, b⟩, fun ⟨a, b⟩ => ⟨(h x b).mpr a, b⟩⟩
theorem okR_ofS {S : Dr} {rest : Sto} (h : bdS (S.sto rest).length (S.sto rest) = true) : okRest rest := by
  have h2 : (CT.bd _ _ && (CT.bd _ _ && bdS (rest.length + 2) rest)) = true := h
  rw [Bool.and_eq_true, Bool.and_eq_true] at h2
  exact h2.2.2
def Bn : Nat → Int
  | 0 => B0n
  | i + 1 => 2 * Bn i
theorem Bn_ge : ∀ i, B0n ≤ Bn i
  | 0 => Int.le_refl _
  | i + 1 => by
    have := Bn_ge i
    show B0n ≤ 2 * Bn i
    have h0 : (0 : Int) ≤ B0n := by decide
    omega
theorem Bn_le {i : Nat} (h : i ≤ 4) : Bn i ≤ 16 * B0n := by
  have : i = 0 ∨ i = 1 ∨ i = 2 ∨ i = 3 ∨ i = 4 := by omega
  rcases this with rfl | rfl | rfl | rfl | rfl
  · show B0n ≤ _; decide
  · show 2 * B0n ≤ _; decide
  · show 2 * (2 * B0n) ≤ _; decide
  · show 2 * (2 * (2 * B0n)) ≤ _; decide
  · show 2 * (2 * (2 * (2 * B0n))) ≤ _; decide
theorem LNu.num {ns : List Str} {B : Int} {es : NL} (h : LNu ns B es) (h0 : 0 ≤ B) (s : Str) : 0 ≤ Dl.num es s ∧ Dl.num es s ≤ B := by
  by_cases hs : s ∈ es.map (·.1)
  · obtain ⟨p, hp, rfl⟩ := List.mem_map.mp hs
    rw [num_mem h.nd hp]; exact h.rng p hp
  · rw [num_no hs]; exact ⟨Int.le_refl _, h0⟩
theorem LNu.len {ns : List Str} {B : Int} {es : NL} (h : LNu ns B es) : es.length ≤ ns.length := by
  have := nodup_le h.nd (tk := ns) fun x hx => by
    obtain ⟨p, hp, rfl⟩ := List.mem_map.mp hx
    exact h.sub p hp
  rwa [List.length_map] at this
theorem LNu.ok {ns : List Str} {B : Int} {es : NL} (h : LNu ns B es) (hn : ∀ s ∈ ns, NameOk s) (hB : B < 10 ^ 31) : nOk es ∧ bname es = none ∧ bnum es = none :=
  ⟨fun p hp => ⟨asc_name (hn _ (h.sub p hp)), Nat.le_trans (hn _ (h.sub p hp)).len (by decide), by have := h.rng p hp; omega⟩, bname_iff.mpr fun p hp => NameOk.nameB (hn _ (h.sub p hp)), bnum_iff.mpr fun p hp => (h.rng p hp).1⟩
theorem LNu.le {ns : List Str} {B B' : Int} {es : NL} (h : LNu ns B es) (hb : B ≤ B') : LNu ns B' es := ⟨h.nd, h.sub, fun p hp => ⟨(h.rng p hp).1, Int.le_trans (h.rng p hp).2 hb⟩⟩
def mkN (v : Str → Int) (ns : List Str) : NL := ns.map fun s => (s, v s)
theorem mkN_keys (v : Str → Int) (ns : List Str) : (mkN v ns).map (·.1) = ns := by unfold mkN; rw [List.map_map]; exact List.map_id ns
theorem num_mkN {v : Str → Int} {ns : List Str} (nd : ns.Nodup) {s : Str} (hs : s ∈ ns) : num (mkN v ns) s = v s := num_mem (es := mkN v ns) (p := (s, v s)) (by rw [mkN_keys]; exact nd) (List.mem_map.mpr ⟨s, hs, rfl⟩)
theorem mkN_pairs (v : Str → Int) (ns : List Str) : (ns.map fun s => D.tup [.str s, .int (v s)]) = pairsD (nK (mkN v ns)) := by unfold pairsD nK mkN; rw [List.map_map, List.map_map]; rfl
def lkD : Option Str → D
  | none => .non
  | some s => .str s
abbrev sLaw : Stmt := top 31
abbrev nLaw : List Str := ["_law_script", "_law_stream", "_law_names_here", "_law_one", "_law_other", "_law_turn", "_law_left", "_law_right", "_law_total", "_law_word", "_law_rest", "_law_lacking", "_law_found", "_law_again", "_law_told"]
theorem scLaw : FnScope nLaw ["_law_script"] (defScope sLaw) := ⟨rfl, rfl, rfl, by decide +kernel, rfl, by decide +kernel, by decide +kernel⟩
inductive FLaw (ds : List D) (μ : Sto) (Q : QD) (E : XD) : Prop
  | mk (ns : List Int) (a1 : ds = [.fzl (ns.map .int)]) (a2 : ns.length ≤ 63) (a3 : μ = []) (a4 : ∀ μ', Q (.bl true) μ') : FLaw ds μ Q E
theorem FLaw.mono  : MonF (FLaw) := fun ds μ Q Q' E E' h he q => match q with | .mk ns a1 a2 a3 a4 => .mk ns a1 a2 a3 (by intros; apply h; apply a4 <;> assumption)
theorem FLaw.len  : ∀ ds μ Q E, FLaw ds μ Q E → ds.length = 1 := fun ds μ Q E q => by obtain ⟨_, e, _, _, _⟩ := q; rw [e]; rfl
theorem cal_law (isC_Stock : IsC K C_Stock) (sf_Stock : PySem.W.selfFirst K C_Stock = true) (nfS : PySem.W.notFirst K C_Stock (.ref C_Stock) = true)
    (cD : Cal P w K mg base 1 "_law_draw" FDraw []) (cNs : Cal P w K mg base 3 "_law_names" FNames []) (cSm : Cal P w K mg base 1 "_law_same" FSame [])
    (cLNm : Cal P w K mg base 3 "_law_numbers" FLNm []) (cLSr : Cal P w K mg base 1 "_law_short" FLSr []) (cLGr : Cal P w K mg base 9 "_law_grows" (FLGr C_Stock) []) (cLLs : Cal P w K mg base 8 "_law_less" (FLLs C_Stock) []) (cLLd : Cal P w K mg base 5 "_law_lessened" (FLLd C_Stock) [])
    (cLSh : Cal P w K mg base 3 "_law_shows" (FLSh C_Stock) []) (cLCr : Cal P w K mg base 9 "_law_changes_results" (FLCr C_Stock) []) (cLWi : Cal P w K mg base 9 "_law_with_itself" (FLWi C_Stock) [])
    (cstD : Mak P w K mg base 5 "Stock" C_Stock (FSIniD C_Stock) []) (cSCpC : Met P w K mg base 7 C_Stock "copy" (FSCpC C_Stock) []) (cSAd : Met P w K mg base 7 C_Stock "__add__" (FSAd C_Stock) []) (cSSu : Met P w K mg base 7 C_Stock "__sub__" (FSSu C_Stock C_Short) []) (cSEq : Met P w K mg base 1 C_Stock "__eq__" (FSEq C_Stock) [])
    {f : Addr} {fd : FuncData} {qual : Str} (T : NoB mg) (Fu : Fun K "law" qual sLaw f fd) (hm : mg "law" = some (.ref f)) (hk : PySem.W.keepIn K (.ref f) = true) (hb : L2.Binds K fd ["_law_script"] []) : FnG P w K mg base (L2.CX P w) 12 f fd ["_law_script"] (spD K FLaw) := by
  have nd := scLaw.nd
  refine fn_body (anyFun Fu) scLaw ?_ (fun cdv A outer s H E hG hr =>
    have hu : (cxOf (L2.CX P w) P w K mg base nLaw qual (defScope sLaw) f cdv A outer s H E).A.units + 64 < cLine := by have := hr.un; show (A.deeper _).units + 64 < _; omega
    have hv : (cxOf (L2.CX P w) P w K mg base nLaw qual (defScope sLaw) f cdv A outer s H E).A.units + 1 < cLine := by omega
    have tk := takes_of (X := cxOf (L2.CX P w) P w K mg base nLaw qual (defScope sLaw) f cdv A outer s H E) (E := E) rfl rfl rfl rfl
    have pw := passes_of (X := cxOf (L2.CX P w) P w K mg base nLaw qual (defScope sLaw) f cdv A outer s H E) rfl
    (ds_cons (ds_set (i := 1) nd rfl (by first | exact .inl rfl | exact .inr rfl) (de_lstC (da_cons (de_callTy cad_listZ (by rfl) T.list (by decide +kernel) (da_cons (de_var 0 rfl) da_nil)) (da_cons de_int (da_cons de_int (da_cons de_int da_nil))))))
      (ds_cons (ds_set (i := 2) nd rfl (by first | exact .inl rfl | exact .inr rfl) (de_call cNs hG hr (by decide) (by rfl) tk (da_cons (de_var 1 rfl) (da_cons de_int (da_cons (de_lstD da_nil) da_nil)))))
      (ds_cons (ds_asg (de_tup (da_cons (de_call cLNm hG hr (by decide) (by rfl) tk (da_cons (de_var 1 rfl) (da_cons (de_var 2 rfl) da_nil))) (da_cons (de_call cLNm hG hr (by decide) (by rfl) tk (da_cons (de_var 1 rfl) (da_cons (de_var 2 rfl) da_nil))) da_nil))) (dg_tup (n := 2) rfl (dgs_cons (dg_name (i := 3) nd rfl (by first | exact .inl rfl | exact .inr rfl)) (dgs_cons (dg_name (i := 4) nd rfl (by first | exact .inl rfl | exact .inr rfl)) dgs_nil))))
      (ds_cons (ds_for pw rfl (di_rng1 (by rfl) T.range (da_cons (de_op opd_addI de_int (de_call cD hG hr (by decide) (by rfl) tk (da_cons (de_var 1 rfl) (da_cons de_int da_nil)))) da_nil)) (dg_name (i := 5) nd rfl (by first | exact .inl rfl | exact .inr rfl)) (ds_cons (ds_par (i := 6) (j := 7) rfl nd rfl rfl (by decide) rfl rfl (da_cons (de_make cstD hG hr (by decide) (by rfl) tk (da_cons (de_callTy cad_dictD (by rfl) T.dict (by decide +kernel) (da_cons (de_var 3 rfl) da_nil)) da_nil)) (da_cons (de_make cstD hG hr (by decide) (by rfl) tk (da_cons (de_callTy cad_dictD (by rfl) T.dict (by decide +kernel) (da_cons (de_var 4 rfl) da_nil)) da_nil)) da_nil)))
      (ds_cons (ds_set (i := 8) nd rfl (by first | exact .inl rfl | exact .inr rfl) (de_callTy (cad_dictP rfl) (by rfl) T.dict (by decide +kernel) (da_cons (de_lc (own := [("_law_word", 9)]) rfl nd (di_seq (de_var 2 rfl)) (blkOk_by (N := nLaw) (sc := defScope sLaw) (by decide +kernel)) (fun _ _ _ _ _ => (dgw_name (i := 9) nd rfl (by first | exact .inl rfl | exact .inr rfl) (by decide))) (fun _ _ _ _ _ => dts_nil) (fun _ _ _ _ _ => (de_tup (da_cons (de_var 9 rfl) (da_cons (de_op opd_addI (de_get2 hv (de_var 3 rfl) (de_var 9 rfl) de_int) (de_get2 hv (de_var 4 rfl) (de_var 9 rfl) de_int)) da_nil))))) da_nil)))
      (ds_cons (ds_set (i := 10) nd rfl (by first | exact .inl rfl | exact .inr rfl) (de_callTy (cad_dictP rfl) (by rfl) T.dict (by decide +kernel) (da_cons (de_lc (own := [("_law_word", 9)]) rfl nd (di_seq (de_var 2 rfl)) (blkOk_by (N := nLaw) (sc := defScope sLaw) (by decide +kernel)) (fun _ _ _ _ _ => (dgw_name (i := 9) nd rfl (by first | exact .inl rfl | exact .inr rfl) (by decide))) (fun _ _ _ _ _ => dts_nil) (fun _ _ _ _ _ => (de_tup (da_cons (de_var 9 rfl) (da_cons (de_op opd_sub (de_get2 hv (de_var 3 rfl) (de_var 9 rfl) de_int) (de_get2 hv (de_var 4 rfl) (de_var 9 rfl) de_int)) da_nil))))) da_nil)))
      (ds_cons (ds_set (i := 11) nd rfl (by first | exact .inl rfl | exact .inr rfl) (de_call cLSr hG hr (by decide) (by rfl) tk (da_cons (de_var 2 rfl) (da_cons (de_var 3 rfl) (da_cons (de_var 4 rfl) da_nil)))))
      (ds_cons (ds_if (dt_not (dt_val (de_call cLGr hG hr (by decide) (by rfl) tk (da_cons (de_var 2 rfl) (da_cons (de_var 6 rfl) (da_cons (de_var 7 rfl) (da_cons (de_var 8 rfl) da_nil))))))) (ds_one (ds_ret de_bl)) ds_nil)
      (ds_cons (ds_set (i := 12) nd rfl (by first | exact .inl rfl | exact .inr rfl) (de_call cLLs hG hr (by decide) (by rfl) tk (da_cons (de_var 6 rfl) (da_cons (de_var 7 rfl) da_nil))))
      (ds_cons (ds_set (i := 13) nd rfl (by first | exact .inl rfl | exact .inr rfl) (de_meth0 cSCpC hG hr (by decide) tk (de_var 6 rfl)))
      (ds_cons (ds_set (i := 14) nd rfl (by first | exact .inl rfl | exact .inr rfl) (de_call cLLd hG hr (by decide) (by rfl) tk (da_cons (de_var 13 rfl) (da_cons (de_var 7 rfl) da_nil))))
      (ds_cons (ds_if (dt_cmp opd_isN (de_var 11 rfl) de_non) (ds_cons (ds_if (DW.pt (dw_or (dt_cmp opd_neS (de_ixL (de_var 12 rfl) de_int) de_str) (dw_or (dt_not (dt_val (de_call cLSh hG hr (by decide) (by rfl) tk (da_cons (de_ixL (de_var 12 rfl) de_int) (da_cons (de_var 2 rfl) (da_cons (de_var 10 rfl) da_nil)))))) (dw_or1 (dt_cmp opd_notN (de_var 14 rfl) de_non))))) (ds_one (ds_ret de_bl)) ds_nil)
      (ds_one (ds_if (dt_not (dt_val (de_call cLSh hG hr (by decide) (by rfl) tk (da_cons (de_var 13 rfl) (da_cons (de_var 2 rfl) (da_cons (de_var 10 rfl) da_nil)))))) (ds_one (ds_ret de_bl)) ds_nil))) (ds_one (ds_if (DW.pt (dw_or (dt_not (dt_val (de_call cSm hG hr (by decide) (by rfl) tk (da_cons (de_lstD (da_cons (de_var 12 rfl) (da_cons (de_var 14 rfl) da_nil))) (da_cons (de_op opd_repD (de_lstD (da_cons (de_tup (da_cons de_str (da_cons (de_var 11 rfl) da_nil))) da_nil)) de_int) da_nil))))) (dw_or1 (dt_not (dt_val (de_call cLSh hG hr (by decide) (by rfl) tk (da_cons (de_var 13 rfl) (da_cons (de_var 2 rfl) (da_cons (de_var 3 rfl) da_nil))))))))) (ds_one (ds_ret de_bl)) ds_nil)))
      (ds_cons (ds_expr (de_call cLCr hG hr (by decide) (by rfl) tk (da_cons (de_var 2 rfl) (da_cons (de_var 6 rfl) (da_cons (de_var 7 rfl) da_nil)))))
      (ds_cons (ds_if (DW.pt (dw_or (dt_not (dt_val (de_call cLSh hG hr (by decide) (by rfl) tk (da_cons (de_var 6 rfl) (da_cons (de_var 2 rfl) (da_cons (de_var 3 rfl) da_nil)))))) (dw_or1 (dt_not (dt_val (de_call cLSh hG hr (by decide) (by rfl) tk (da_cons (de_var 7 rfl) (da_cons (de_var 2 rfl) (da_cons (de_var 4 rfl) da_nil))))))))) (ds_one (ds_ret de_bl)) ds_nil)
      (ds_cons (ds_if (DW.pt (dw_or (dt_not (dt_cmp (opd_own (fun _ _ => rfl) cSEq hG hr (by decide)) (de_binE isC_Stock sf_Stock cSAd hG hr (by decide) tk (de_var 6 rfl) (de_var 7 rfl)) (de_binE isC_Stock sf_Stock cSAd hG hr (by decide) tk (de_var 7 rfl) (de_var 6 rfl)))) (dw_or1 (dt_not (dt_cmp (opd_own (fun _ _ => rfl) cSEq hG hr (by decide)) (de_binE isC_Stock sf_Stock cSSu hG hr (by decide) tk (de_binE isC_Stock sf_Stock cSAd hG hr (by decide) tk (de_var 6 rfl) (de_var 7 rfl)) (de_var 7 rfl)) (de_var 6 rfl)))))) (ds_one (ds_ret de_bl)) ds_nil)
      (ds_one (ds_if (dt_cmp opd_eqI (de_call cD hG hr (by decide) (by rfl) tk (da_cons (de_var 1 rfl) (da_cons de_int da_nil))) de_int) (ds_one (ds_asg (de_tup (da_cons (de_var 8 rfl) (da_cons (de_var 3 rfl) da_nil))) (dg_tup (n := 2) rfl (dgs_cons (dg_name (i := 3) nd rfl (by first | exact .inl rfl | exact .inr rfl)) (dgs_cons (dg_name (i := 4) nd rfl (by first | exact .inl rfl | exact .inr rfl)) dgs_nil))))) (ds_one (ds_set (i := 4) nd rfl (by first | exact .inl rfl | exact .inr rfl) (de_call cLNm hG hr (by decide) (by rfl) tk (da_cons (de_var 1 rfl) (da_cons (de_var 2 rfl) da_nil))))))))))))))))))))
      (ds_one (ds_ret (de_call cLWi hG hr (by decide) (by rfl) tk (da_cons (de_var 2 rfl) (da_cons (de_var 3 rfl) da_nil)))))))))) ?_
  · exact FLaw.len
  · rintro ds μ Q E ⟨sc, rfl, hl, rfl, z⟩
    have sz := sizeLine_eq
    refine ⟨_, rfl, sc.map .int, rfl, by rw [List.length_map]; omega, by show 4 ≤ sizeLine; omega, ?_⟩
    have ok0 : Dr.ok ⟨sc, 0, 0, 0⟩ := ⟨Int.le_refl _, Int.le_refl _, Int.le_refl _, (by show (0 : Int) < 2147483647; decide)⟩
    have o0 : okRest [] := rfl
    refine ⟨_, rfl, by show 0 ≤ sizeLine; omega, ⟨sc, 0, 0, 0⟩, 3, [], [], rfl, by decide, ok0, by show (0 : Int) + 10 * 3 + 10 < 1000000; decide, o0, rfl, fun nms S1 ln nok nn _ ok1 t1 t1' => ?_⟩
    have t1' : S1.t ≤ 27 := by have : S1.t ≤ (0 : Int) + 9 * 3 := t1'; omega
    obtain ⟨n0, ns', rfl⟩ : ∃ n0 ns', nms = n0 :: ns' := by
      cases nms with
      | nil => exact absurd ln (by decide)
      | cons a r => exact ⟨a, r, rfl⟩
    let ns : List Str := n0 :: ns'
    have ln : ns.length = 3 := ln
    have lns' : ns'.length ≤ 50 := by have : ns'.length + 1 = 3 := ln; omega
    have nok0 : NameOk n0 := nok n0 (List.mem_cons_self ..)
    refine ⟨_, rfl, _, rfl, S1, ns, [], rfl, by omega, ok1, by omega, o0, rfl, fun a S2 ha _ ok2 t2 t2' => ?_⟩
    refine ⟨_, rfl, _, rfl, S2, ns, [], rfl, by omega, ok2, by omega, o0, rfl, fun b S3 hb2 _ ok3 t3 t3' => ?_⟩
    refine ⟨by show 2 ≤ sizeLine; omega, _, rfl, rfl, _, _, rfl, _, _, rfl, rfl, ?_⟩
    refine ⟨_, rfl, S3, 4, [], rfl, by decide, by decide, ok3, by omega, rfl, fun r S4 rp0 rp1 ok4 t4 => ?_⟩
    obtain ⟨k, rfl⟩ : ∃ k : Nat, r = k := ⟨r.toNat, by omega⟩
    refine ⟨_, _, rfl, rfl, ?_⟩
    have ek : ((1 : Int) + (k : Int)) = ((1 + k : Nat) : Int) := by omega
    rw [ek]
    refine ⟨_, rfl, by omega, by omega, ?_⟩
    let R : NL → NL → Option D → Option D → Option D → Option D → Option D → Option D → Option D → Option D → Option D → Option D → Rho :=
      fun a b v5 v6 v7 v8 v9 v10 v11 v12 v13 v14 => [some (.fzl (sc.map .int)), some (.cell 1), some (.lst (ns.map .str)), some (.dct (nK a)), some (.dct (nK b)), v5, v6, v7, v8, v9, v10, v11, v12, v13, v14]
    let J : Int → Nat → Rho → Sto → Prop := fun T i ρ' μ' => ∃ (v5 v6 v7 v8 v9 v10 v11 v12 v13 v14 : Option D) (S' : Dr) (a b : NL) (rest : Sto), ρ' = R a b v5 v6 v7 v8 v9 v10 v11 v12 v13 v14 ∧ LNu ns (Bn i) a ∧ LNu ns (Bn i) b ∧ S'.ok ∧ S'.t ≤ T ∧ okRest rest ∧ μ' = S'.sto rest
    have len_r : (List.map (fun i : Nat => D.int (0 + (i : Int))) (List.range ((1 + k : Nat) : Int).toNat)).length = 1 + k := by rw [List.length_map, List.length_range]; omega
    refine ⟨fun i ρ' μ' => J (S4.t + 60 * i) i ρ' μ', ⟨_, _, _, _, _, _, _, _, _, _, S4, a, b, [], rfl, ha, hb2, ok4, by omega, o0, rfl⟩, fun _ _ _ _ => trivial, ?_, ?_⟩
    · rintro i x ρ' μ' hx ⟨v5, v6, v7, v8, v9, v10, v11, v12, v13, v14, S5, a, b, r0, rfl, la, lb, ok5, t5, okr, rfl⟩
      obtain ⟨j, hj, rfl⟩ := List.mem_map.mp (List.mem_of_getElem? hx)
      have hi : i < 1 + k := by
        have := (List.getElem?_eq_some_iff.mp hx).1
        rw [len_r] at this
        exact this
      have t5' : S5.t ≤ 10000 := by omega
      have bl := Bn_le (i := i) (by omega)
      have bg := Bn_ge i
      have c31 : 33 * B0n < 10 ^ 31 := by decide
      have c0 : (0 : Int) ≤ B0n := by decide
      have n_a := la.num (by omega)
      have n_b := lb.num (by omega)
      obtain ⟨oka, bna, bma⟩ := la.ok nok (by omega)
      obtain ⟨okb, bnb, bmb⟩ := lb.ok nok (by omega)
      have l_a := la.len
      have l_b := lb.len
      let f := stC C_Stock
      let sa := nz a
      let sb := nz b
      have oa := sok_nz oka la.nd bna bma
      have ob := sok_nz okb lb.nd bnb bmb
      have ea : ∀ s, num sa s = num a s := fun s => num_nz la.nd s
      have eb : ∀ s, num sb s = num b s := fun s => num_nz lb.nd s
      have l_sa : sa.length ≤ 3 := Nat.le_trans nz_len (by omega)
      have l_sb : sb.length ≤ 3 := Nat.le_trans nz_len (by omega)
      have hB : ∀ s, num sa s + num sb s < 10 ^ 31 := fun s => by rw [ea, eb]; have := n_a s; have := n_b s; omega
      have hB' : ∀ s, num sb s + num sa s < 10 ^ 31 := fun s => by rw [Int.add_comm]; exact hB s
      have hl2 : ns.length ≤ 100 := by omega
      dsimp only [tgName]
      have b0 : bdS (S5.sto r0).length (S5.sto r0) = true := okr.sto
      have bbn : ∀ {μ : Sto}, bdS μ.length μ = true → bdS (μ ++ [CT.ins C_Stock []]).length (μ ++ [CT.ins C_Stock []]) = true := fun {μ} h => by rw [bdS_app, bdS_mono (by simp) h]; rfl
      refine ⟨_, rfl, _, nK a, rfl, rfl, .inl ⟨_, .dct (nK a), a, rfl, ap_get, .inr rfl, oka, la.nd, by omega, bna, bma, bbn b0, ?_⟩⟩
      rw [ap_set]
      refine ⟨rfl, _, _, .refl, ?_⟩
      let r1 : Sto := r0 ++ [f sa]
      have b1 : bdS (S5.sto r1).length (S5.sto r1) = true := stc_one (μ := S5.sto r0) b0
      refine ⟨_, rfl, _, nK b, rfl, rfl, .inl ⟨_, .dct (nK b), b, rfl, ap_get, .inr rfl, okb, lb.nd, by omega, bnb, bmb, bbn b1, ?_⟩⟩
      rw [ap_set]
      refine ⟨rfl, _, _, .refl, _, _, rfl, ?_⟩
      let r2 : Sto := r1 ++ [f sb]
      have b2 : bdS (S5.sto r2).length (S5.sto r2) = true := stc_one (μ := S5.sto r1) b1
      let n6 : Nat := (S5.sto r0).length
      let n7 : Nat := (S5.sto r1).length
      have h6 : StAt C_Stock sa (.cell n6) (S5.sto r2) := (stAt_of (μ := S5.sto r1) (n := n6) (e := sa) ap_get).more [f sb]
      have h7 : StAt C_Stock sb (.cell n7) (S5.sto r2) := stAt_of (μ := S5.sto r2) (n := n7) (e := sb) ap_get
      let vS : Str → Int := fun s => num a s + num b s
      let vD : Str → Int := fun s => num a s - num b s
      let tot := mkN vS ns
      let rst := mkN vD ns
      have bdP : ∀ v : Str → Int, bdL (S5.sto r2).length (ns.map fun s => D.tup [.str s, .int (v s)]) = true := fun v => bdL_all.mpr fun d hd => by obtain ⟨s, _, rfl⟩ := List.mem_map.mp hd; rfl
      refine ⟨_, rfl, ns.map .str, rfl, lc_to (m := S5.sto r2) ns .str (fun s => .tup [.str s, .int (vS s)]) (fun _ => rfl) (fun s hs acc bm NX N0 n1 => ?_) (by omega) (bdP vS) b2 ?_⟩
      · refine ⟨_, rfl, _, rfl, nK a, rfl, _, rfl, nK a, _, rfl, rfl, ?_⟩
        rw [val_num]
        refine ⟨_, rfl, nK b, rfl, _, rfl, nK b, _, rfl, rfl, ?_⟩
        rw [val_num]
        exact ⟨_, _, rfl, rfl, by show 2 ≤ sizeLine; omega, n1⟩
      rw [mkN_pairs vS]
      refine ⟨_, nK tot, rfl, rfl, .inl ?_⟩
      rw [merge_nil' (nK_nd (by rw [mkN_keys]; exact nn))]
      refine ⟨_, rfl, ns.map .str, rfl, lc_to (m := S5.sto r2) ns .str (fun s => .tup [.str s, .int (vD s)]) (fun _ => rfl) (fun s hs acc bm NX N0 n1 => ?_) (by omega) (bdP vD) b2 ?_⟩
      · refine ⟨_, rfl, _, rfl, nK a, rfl, _, rfl, nK a, _, rfl, rfl, ?_⟩
        rw [val_num]
        refine ⟨_, rfl, nK b, rfl, _, rfl, nK b, _, rfl, rfl, ?_⟩
        rw [val_num]
        exact ⟨_, _, rfl, rfl, by show 2 ≤ sizeLine; omega, n1⟩
      rw [mkN_pairs vD]
      refine ⟨_, nK rst, rfl, rfl, .inl ?_⟩
      rw [merge_nil' (nK_nd (by rw [mkN_keys]; exact nn))]
      dsimp only [tgName]
      let lk := (ordS ns).find? (fun s => decide (num a s < num b s))
      have elk : lk = shN sa sb := by
        have e : (fun s => decide (num a s < num b s)) = fun s => decide (num sa s < num sb s) := by funext s; rw [ea, eb]
        show (ordS ns).find? (fun s => decide (num a s < num b s)) = (ordS (sb.map (·.1))).find? _
        rw [e]
        refine find_both nn ob.nd fun s hs => ?_
        have h := of_decide_eq_true hs
        rw [ea, eb] at h
        have h0 := (n_a s).1
        have hk : s ∈ sb.map (·.1) := ob.key_iff.mpr (by rw [eb]; omega)
        refine ⟨fun _ => hk, fun _ => ?_⟩
        obtain ⟨p, hp, rfl⟩ := List.mem_map.mp hk
        exact lb.sub p (List.mem_filter.mp hp).1
      let R' : Option D → Option D → Option D → Option D → Rho := fun v11 v12 v13 v14 => R a b (some (.int (0 + (j : Int)))) (some (.cell n6)) (some (.cell n7)) (some (.dct (nK tot))) v9 (some (.dct (nK rst))) v11 v12 v13 v14
      refine seq_cut (fun ρ' ν => ρ' = R' (some (lkD lk)) v12 v13 v14 ∧ ν = S5.sto r2) ?_ fun N hN => ?_
      · rintro _ _ ⟨rfl, rfl⟩
        refine ⟨_, rfl, _, rfl, _, rfl, _, rfl, .cell n6, .cell n7, sa, sb, tot, n0, ns', rfl, h6, h7, oa, ob, by omega, by omega, hB, (fun s hs => by rw [num_mkN nn hs, ea, eb]), nok0, lns', b2, fun ν1 c1 => ⟨_, rfl, iff_ rfl ?_⟩⟩
        let r3 : Sto := r2 ++ ν1
        have b3 : bdS (S5.sto r3).length (S5.sto r3) = true := c1
        have h63 : StAt C_Stock sa (.cell n6) (S5.sto r3) := h6.more ν1
        have h73 : StAt C_Stock sb (.cell n7) (S5.sto r3) := h7.more ν1
        dsimp only [sNext]
        refine seq_cut (fun ρ' ν => ∃ (v12' : D) (r4 : Sto), ρ' = R' (some (lkD lk)) (some v12') v13 v14 ∧ ν = S5.sto r4 ∧ bdS (S5.sto r4).length (S5.sto r4) = true ∧ StAt C_Stock sa (.cell n6) (S5.sto r4) ∧ StAt C_Stock sb (.cell n7) (S5.sto r4) ∧
          ((shN sa sb = none ∧ ∃ n, v12' = .tup [.str ("made" : Str), .cell n] ∧ StAt C_Stock (nz (subN sa sb)) (.cell n) (S5.sto r4)) ∨ (∃ s, shN sa sb = some s ∧ v12' = .tup [.str ("Short" : Str), .str s]))) ?_ fun N2 hN2 => ?_
        · rintro _ _ ⟨v12', r4, rfl, rfl, b4, h64, h74, hc⟩
          refine ⟨_, rfl, stF sa, h64, rfl, .cell n6, sa, rfl, h64, oa, by omega, b4, ?_⟩
          let r5 : Sto := r4 ++ [f sa]
          let n13 : Nat := (S5.sto r4).length
          have b5 : bdS (S5.sto r5).length (S5.sto r5) = true := stc_one (μ := S5.sto r4) b4
          have g13 : (S5.sto r5)[n13]? = some (f sa) := ap_get (μ := S5.sto r4)
          have h75 : StAt C_Stock sb (.cell n7) (S5.sto r5) := h74.more [f sa]
          have hI13 : asI (S5.sto r5) (.cell n13) = some (C_Stock, stF sa) := stAt_of g13
          dsimp only [tgName]
          refine seq_cut (fun ρ' ν => ∃ (v14' : D) (e13 : NL), ρ' = R' (some (lkD lk)) (some v12') (some (.cell n13)) (some v14') ∧ ν = S5.sto (r4 ++ [f e13]) ∧ ((shN sa sb = none ∧ v14' = .non ∧ e13 = nz (subN sa sb)) ∨ (∃ s, shN sa sb = some s ∧ v14' = .tup [.str ("Short" : Str), .str s] ∧ e13 = sa))) ?_ fun N3 hN3 => ?_
          · rintro _ _ ⟨v14', e13, rfl, rfl, hd⟩
            let r6 : Sto := r4 ++ [f e13]
            have b6 : bdS (S5.sto r6).length (S5.sto r6) = true := stc_one (μ := S5.sto r4) b4
            have h66 : StAt C_Stock sa (.cell n6) (S5.sto r6) := h64.more [f e13]
            have h76 : StAt C_Stock sb (.cell n7) (S5.sto r6) := h74.more [f e13]
            have h13 : StAt C_Stock e13 (.cell n13) (S5.sto r6) := stAt_of (ap_get (μ := S5.sto r4))
            refine seq_cut (fun ρ' ν => ρ' = R' (some (lkD lk)) (some v12') (some (.cell n13)) (some v14') ∧ ν = S5.sto r6) ?_ fun N4 hN4 => ?_
            · rintro _ _ ⟨rfl, rfl⟩
              refine ⟨_, rfl, _, rfl, _, rfl, .cell n6, .cell n7, sa, sb, n0, ns', rfl, h66, h76, oa, ob, by omega, by omega, hB, nok0, b6, fun ν2 c2 => ?_⟩
              let r7 : Sto := r6 ++ ν2
              have b7 : bdS (S5.sto r7).length (S5.sto r7) = true := c2
              have h67 : StAt C_Stock sa (.cell n6) (S5.sto r7) := h66.more ν2
              have h77 : StAt C_Stock sb (.cell n7) (S5.sto r7) := h76.more ν2
              refine ⟨_, rfl, _, rfl, _, rfl, .cell n6, sa, a, ns, rfl, h67, fun s _ => ea s, num_small oa, hl2, b7, _, rfl, iff_ rfl ?_⟩
              refine ⟨_, rfl, _, rfl, _, rfl, .cell n7, sb, b, ns, rfl, h77, fun s _ => eb s, num_small ob, hl2, b7, _, rfl, iff_ rfl ?_⟩
              let A := addN sa sb
              let A2 := addN sb sa
              have oA : SOk A := oa.add ob hB
              have oA2 : SOk A2 := ob.add oa hB'
              have lA : A.length ≤ 6 := by have : A.length ≤ sa.length + sb.length := add_len; omega
              let r8 : Sto := r7 ++ [f A]
              let r9 : Sto := r8 ++ [f A2]
              have b8 : bdS (S5.sto r8).length (S5.sto r8) = true := stc_one (μ := S5.sto r7) b7
              have b9 : bdS (S5.sto r9).length (S5.sto r9) = true := stc_one (μ := S5.sto r8) b8
              have h68 : StAt C_Stock sa (.cell n6) (S5.sto r8) := h67.more [f A]
              have h78 : StAt C_Stock sb (.cell n7) (S5.sto r8) := h77.more [f A]
              have h69 : StAt C_Stock sa (.cell n6) (S5.sto r9) := h68.more [f A2]
              have h79 : StAt C_Stock sb (.cell n7) (S5.sto r9) := h78.more [f A2]
              have hA9 : StAt C_Stock A (.cell (S5.sto r7).length) (S5.sto r9) := (stAt_of (μ := S5.sto r8) (e := A) (ap_get (μ := S5.sto r7))).more [f A2]
              have hB9 : StAt C_Stock A2 (.cell (S5.sto r8).length) (S5.sto r9) := stAt_of (μ := S5.sto r9) (e := A2) (ap_get (μ := S5.sto r8))
              refine ⟨_, rfl, _, rfl, _, _, h67, h77, .cell n6, .cell n7, sa, sb, rfl, h67, h77, oa, ob, by omega, by omega, hB, b7, ?_⟩
              refine ⟨_, rfl, _, rfl, _, _, h78, h68, .cell n7, .cell n6, sb, sa, rfl, h78, h68, ob, oa, by omega, by omega, hB', b8, ?_⟩
              refine ⟨stF A, _, hA9, .ins (.cell (S5.sto r8).length) C_Stock _ hB9 isC_Stock, nfS, .cell (S5.sto r7).length, .cell (S5.sto r8).length, A, A2, rfl, hA9, hB9, oA, oA2, (fun s => by rw [num_add, num_add, Int.add_comm]), true, rfl, iff_ rfl ?_⟩
              let r10 : Sto := r9 ++ [f A]
              have b10 : bdS (S5.sto r10).length (S5.sto r10) = true := stc_one (μ := S5.sto r9) b9
              have h710 : StAt C_Stock sb (.cell n7) (S5.sto r10) := h79.more [f A]
              have hA10 : StAt C_Stock A (.cell (S5.sto r9).length) (S5.sto r10) := stAt_of (μ := S5.sto r10) (e := A) (ap_get (μ := S5.sto r9))
              have sn : shN A sb = none := List.find?_eq_none.mpr fun s _ => by
                have h1 : num A s = num sa s + num sb s := num_add s
                have h2 : 0 ≤ num sa s := oa.nng s
                have h3 : ¬ num A s < num sb s := by omega
                rw [decide_eq_true_eq]
                exact h3
              let Z := nz (subN A sb)
              have oZ : SOk Z := oA.sub ob sn
              let r11 : Sto := r10 ++ [f Z]
              have b11 : bdS (S5.sto r11).length (S5.sto r11) = true := stc_one (μ := S5.sto r10) b10
              have hZ : StAt C_Stock Z (.cell (S5.sto r10).length) (S5.sto r11) := stAt_of (μ := S5.sto r11) (e := Z) (ap_get (μ := S5.sto r10))
              have h611 : StAt C_Stock sa (.cell n6) (S5.sto r11) := (h69.more [f A]).more [f Z]
              refine ⟨_, rfl, _, rfl, _, _, h69, h79, .cell n6, .cell n7, sa, sb, rfl, h69, h79, oa, ob, by omega, by omega, hB, b9, ?_⟩
              refine ⟨_, rfl, _, _, hA10, h710, .cell (S5.sto r9).length, .cell n7, A, sb, rfl, hA10, h710, oA, ob, by omega, by omega, b10, fun _ => ?_, fun s h => (by rw [sn] at h; cases h)⟩
              refine ⟨_, rfl, stF Z, _, hZ, .ins (.cell n6) C_Stock _ h611 isC_Stock, nfS, .cell (S5.sto r10).length, .cell n6, Z, sa, rfl, hZ, h611, oZ, oa, (fun s => by
                have h1 : num Z s = num A s - num sb s := num_sub oA ob sn s
                have h2 : num A s = num sa s + num sb s := num_add s
                omega), true, rfl, iff_ rfl ?_⟩
              have ok11 : okRest r11 := okR_ofS b11
              have ltot : LNu ns (Bn (i + 1)) tot := by
                refine ⟨by rw [mkN_keys]; exact nn, fun p hp => ?_, fun p hp => ?_⟩
                · obtain ⟨s, hs, rfl⟩ := List.mem_map.mp hp; exact hs
                · obtain ⟨s, hs, rfl⟩ := List.mem_map.mp hp
                  have h1 := n_a s
                  have h2 := n_b s
                  show 0 ≤ num a s + num b s ∧ num a s + num b s ≤ 2 * Bn i
                  omega
              have la' : LNu ns (Bn (i + 1)) a := la.le (by show Bn i ≤ 2 * Bn i; omega)
              dsimp only [sNext]
              refine ⟨_, rfl, S5, 2, r11, rfl, by decide, by decide, ok5, by omega, rfl, fun r S6 q0 q1 ok6 t6 => ⟨_, _, rfl, rfl, _, rfl, ite_b (fun hp => ?_) (fun hp => ?_)⟩⟩
              · refine ⟨_, rfl, _, rfl, by show 2 ≤ sizeLine; omega, _, rfl, rfl, _, _, rfl, _, _, rfl, rfl, ?_⟩
                exact ⟨_, _, _, _, _, _, _, _, _, _, S6, tot, a, r11, rfl, ltot, la', ok6, by omega, ok11, rfl⟩
              · refine ⟨_, rfl, _, rfl, S6, ns, r11, rfl, by omega, ok6, by omega, ok11, rfl, fun es S7 hes _ ok7 t7 t7' => ?_⟩
                exact ⟨_, _, _, _, _, _, _, _, _, _, S7, a, es, r11, rfl, la', hes.le (Bn_ge _), ok7, by omega, ok11, rfl⟩
            · rcases hc with ⟨h, n, rfl, hn⟩ | ⟨s, h, rfl⟩
              · rcases hd with ⟨_, rfl, rfl⟩ | ⟨s, h', _⟩
                · have hl0 : lk = none := elk.trans h
                  have hn' : StAt C_Stock (nz (subN sa sb)) (.cell n) (S5.sto r6) := hn.more [f (nz (subN sa sb))]
                  have oS := oa.sub ob h
                  have hr : ∀ s ∈ ns, num (nz (subN sa sb)) s = num rst s := fun s hs => by rw [num_mkN nn hs, num_sub oa ob h, ea, eb]
                  refine ⟨_, rfl, rfl, _, rfl, ift_ (by rw [hl0]; rfl) ?_⟩
                  refine ⟨_, rfl, _, 0, _, rfl, rfl, rfl, _, _, rfl, rfl, _, rfl, iff_ (by simp) ?_⟩
                  refine ⟨_, rfl, _, 1, _, rfl, rfl, rfl, _, rfl, _, rfl, .cell n, nz (subN sa sb), rst, ns, rfl, hn', hr, num_small oS, hl2, b6, _, rfl, iff_ rfl ?_⟩
                  refine ⟨_, rfl, rfl, _, rfl, iff_ rfl ?_⟩
                  exact ⟨_, rfl, _, rfl, _, rfl, .cell n13, nz (subN sa sb), rst, ns, rfl, h13, hr, num_small oS, hl2, b6, _, rfl, iff_ rfl (hN4 _ _ ⟨rfl, rfl⟩)⟩
                · rw [h] at h'; cases h'
              · rcases hd with ⟨h', _⟩ | ⟨s', h', rfl, rfl⟩
                · rw [h] at h'; cases h'
                · rw [h] at h'
                  obtain rfl := Option.some.inj h'
                  have hl0 : lk = some s := elk.trans h
                  have sn : s ∈ ns := (ordS_perm ns).mem_iff.mp (List.mem_of_find?_eq_some hl0)
                  have sok := nok s sn
                  let pr : PyData := .tuple [.str ("Short" : Str), .str s]
                  refine ⟨_, rfl, rfl, _, rfl, iff_ (by rw [hl0]; rfl) ?_⟩
                  refine ⟨_, rfl, _, rfl, by show 2 ≤ sizeLine; omega, _, rfl, by show 2 ≤ sizeLine; omega, by show 1 ≤ sizeLine; omega, _, 2, rfl, rfl, by decide, by decide, by show 1 * 2 ≤ sizeLine; omega, by show 2 ≤ sizeLine; omega, _, _, .list [pr, pr], rfl, rfl, by rw [hl0]; rfl, ?_, _, rfl, iff_ rfl ?_⟩
                  · refine okR_items (n := 300) (fun p hp => ?_) (by show 301 * 2 ≤ _; omega)
                    have ep : p = pr := by simpa using hp
                    rw [ep]
                    obtain ⟨i1, i2, i3, i4, _⟩ := itm_all (n := 100) (ps := [.str ("Short" : Str), .str s]) fun q hq => by
                      simp only [List.mem_cons, List.not_mem_nil, or_false] at hq
                      rcases hq with rfl | rfl
                      · exact itm_str (asc_of (by decide +kernel)) (by decide +kernel)
                      · exact itm_str (asc_name sok) (Nat.le_trans sok.len (by decide))
                    exact ⟨i1, i2, i3, Nat.le_trans i4 (by show 101 * 2 ≤ 300; omega), by simp [pr, PyData.depth, PyData.depthAll]⟩
                  · exact ⟨_, rfl, _, rfl, _, rfl, .cell n13, sa, a, ns, rfl, h13, fun s _ => ea s, num_small oa, hl2, b6, _, rfl, iff_ rfl (hN4 _ _ ⟨rfl, rfl⟩)⟩
          · refine ⟨_, rfl, _, rfl, _, .cell n7, sa, sb, rfl, g13, h75, oa, ob, by omega, by omega, b5, fun h => hN3 _ _ ⟨_, nz (subN sa sb), rfl, ap_set, .inl ⟨h, rfl, rfl⟩⟩, fun s h => hN3 _ _ ⟨_, sa, rfl, rfl, .inr ⟨s, h, rfl, rfl⟩⟩⟩
        · refine ⟨_, rfl, _, rfl, .cell n6, .cell n7, sa, sb, rfl, h63, h73, oa, ob, by omega, by omega, b3, fun h => hN2 _ _ ⟨_, r3 ++ [f (nz (subN sa sb))], rfl, rfl, stc_one (μ := S5.sto r3) b3, h63.more _, h73.more _, .inl ⟨h, _, rfl, stAt_of (μ := S5.sto (r3 ++ [f (nz (subN sa sb))])) (ap_get (μ := S5.sto r3))⟩⟩, fun s h => hN2 _ _ ⟨_, r3, rfl, rfl, b3, h63, h73, .inr ⟨s, h, rfl⟩⟩⟩
      · exact ⟨_, rfl, _, rfl, _, rfl, a, b, ns, rfl, nn, by omega, b2, fun hn => hN _ _ ⟨by show _ = R' (some (lkD ((ordS ns).find? _))) v12 v13 v14; rw [hn]; rfl, rfl⟩, fun s hs => hN _ _ ⟨by show _ = R' (some (lkD ((ordS ns).find? _))) v12 v13 v14; rw [hs]; rfl, rfl⟩⟩
    · rintro ρ' μ' ⟨v5, v6, v7, v8, v9, v10, v11, v12, v13, v14, S5, a, b, r0, rfl, la, lb, ok5, t5, okr, rfl⟩
      rw [len_r] at la lb
      have bl := Bn_le (i := 1 + k) (by omega)
      have bg := Bn_ge (1 + k)
      have c31 : 33 * B0n < 10 ^ 31 := by decide
      have c0 : (0 : Int) ≤ B0n := by decide
      obtain ⟨oka, bna, bma⟩ := la.ok nok (by omega)
      have l_a := la.len
      exact ⟨_, rfl, _, rfl, a, ns, rfl, oka, la.nd, bna, bma, by omega, fun s => by have := la.num (by omega) s; omega, la.sub, by omega, okr.sto, fun μ' => ⟨_, _, .refl, z _⟩⟩

end
end Dl

namespace Dl
open PySem PySem.Spec L2
open PyProof.Rows hiding St Binds
theorem all_mk {l : PySem.W.OpenLaw} {w : World} {K : PySem.W.Frag} {h : Heap} {mg : Str → Option Value} {fa : Addr} (X : K.In h) (G : h.Ns mainGlobals mg) (hfa : mg "law" = some (.ref fa))
    {f0 : Addr} {od0 an0 : Option Addr} {sl0 : Array (Option Value)} {oc0 kV0 dc0 pm0 cd0 ct0 : Value} {f1 : Addr} {od1 an1 : Option Addr} {sl1 : Array (Option Value)} {oc1 kV1 dc1 pm1 cd1 ct1 : Value} {f2 : Addr} {od2 an2 : Option Addr} {sl2 : Array (Option Value)} {oc2 kV2 dc2 pm2 cd2 ct2 : Value} {f3 : Addr} {od3 an3 : Option Addr} {sl3 : Array (Option Value)} {oc3 kV3 dc3 pm3 cd3 ct3 : Value} {f4 : Addr} {od4 an4 : Option Addr} {sl4 : Array (Option Value)} {oc4 kV4 dc4 pm4 cd4 ct4 : Value} {TR_RESERVED : Addr} {dR_RESERVED : Option Addr} {iR_RESERVED : Array Value} {nR_RESERVED : Nat} {sR_RESERVED : Array (Option Value)} {tc_LONGEST : Tok} {f5 : Addr} {od5 an5 : Option Addr} {sl5 : Array (Option Value)} {oc5 kV5 dc5 pm5 cd5 ct5 : Value} {C_BadName : Addr} {fE_BadName cdaE_BadName ccE_BadName NE_BadName : Addr} {nmE_BadName qE_BadName fileE_BadName : Str} {bsE_BadName bmE_BadName subE_BadName : List Value} {snE_BadName : List Str} {abE_BadName : Bool} {colE_BadName : Option Bool} {ddE_BadName cddE_BadName cldE_BadName anE_BadName odE_BadName : Option Addr} {k0E_BadName k1E_BadName k2E_BadName k3E_BadName k5E_BadName : Option Value} {cclE_BadName kVE_BadName docE_BadName pmE_BadName ctE_BadName ocE_BadName clE_BadName : Value} {ccsE_BadName cslE_BadName oslE_BadName : Array (Option Value)} {vsE_BadName : Array Value} {tfE_BadName : Tok} {f6 : Addr} {od6 an6 : Option Addr} {sl6 : Array (Option Value)} {oc6 kV6 dc6 pm6 cd6 ct6 : Value} {C_BadNumber : Addr} {fE_BadNumber cdaE_BadNumber ccE_BadNumber NE_BadNumber : Addr} {nmE_BadNumber qE_BadNumber fileE_BadNumber : Str} {bsE_BadNumber bmE_BadNumber subE_BadNumber : List Value} {snE_BadNumber : List Str} {abE_BadNumber : Bool} {colE_BadNumber : Option Bool} {ddE_BadNumber cddE_BadNumber cldE_BadNumber anE_BadNumber odE_BadNumber : Option Addr} {k0E_BadNumber k1E_BadNumber k2E_BadNumber k3E_BadNumber k5E_BadNumber : Option Value} {cclE_BadNumber kVE_BadNumber docE_BadNumber pmE_BadNumber ctE_BadNumber ocE_BadNumber clE_BadNumber : Value} {ccsE_BadNumber cslE_BadNumber oslE_BadNumber : Array (Option Value)} {vsE_BadNumber : Array Value} {tfE_BadNumber : Tok} {f7 : Addr} {od7 an7 : Option Addr} {sl7 : Array (Option Value)} {oc7 kV7 dc7 pm7 cd7 ct7 : Value} {f8 : Addr} {od8 an8 : Option Addr} {sl8 : Array (Option Value)} {oc8 kV8 dc8 pm8 cd8 ct8 : Value} {C_Stock : Addr} {gStock_init : Addr} {godStock_init ganStock_init : Option Addr} {gslStock_init : Array (Option Value)} {gocStock_init gkVStock_init gdcStock_init gpmStock_init gcdStock_init gctStock_init : Value} {TStock_init : Addr} {oTStock_init : Option Addr} {slTStock_init : Array (Option Value)} {nTStock_init : Nat} {gStock_names : Addr} {godStock_names ganStock_names : Option Addr} {gslStock_names : Array (Option Value)} {gocStock_names gkVStock_names gdcStock_names gpmStock_names gcdStock_names gctStock_names : Value} {gStock_getitem : Addr} {godStock_getitem ganStock_getitem : Option Addr} {gslStock_getitem : Array (Option Value)} {gocStock_getitem gkVStock_getitem gdcStock_getitem gpmStock_getitem gcdStock_getitem gctStock_getitem : Value} {gStock_copy : Addr} {godStock_copy ganStock_copy : Option Addr} {gslStock_copy : Array (Option Value)} {gocStock_copy gkVStock_copy gdcStock_copy gpmStock_copy gcdStock_copy gctStock_copy : Value} {gStock_setitem : Addr} {godStock_setitem ganStock_setitem : Option Addr} {gslStock_setitem : Array (Option Value)} {gocStock_setitem gkVStock_setitem gdcStock_setitem gpmStock_setitem gcdStock_setitem gctStock_setitem : Value} {C_Short : Addr} {fE_Short cdaE_Short ccE_Short NE_Short : Addr} {nmE_Short qE_Short fileE_Short : Str} {bsE_Short bmE_Short subE_Short : List Value} {snE_Short : List Str} {abE_Short : Bool} {colE_Short : Option Bool} {ddE_Short cddE_Short cldE_Short anE_Short odE_Short : Option Addr} {k0E_Short k1E_Short k2E_Short k3E_Short k5E_Short : Option Value} {cclE_Short kVE_Short docE_Short pmE_Short ctE_Short ocE_Short clE_Short : Value} {ccsE_Short cslE_Short oslE_Short : Array (Option Value)} {vsE_Short : Array Value} {tfE_Short : Tok} {f9 : Addr} {od9 an9 : Option Addr} {sl9 : Array (Option Value)} {oc9 kV9 dc9 pm9 cd9 ct9 : Value} {f10 : Addr} {od10 an10 : Option Addr} {sl10 : Array (Option Value)} {oc10 kV10 dc10 pm10 cd10 ct10 : Value} {gStock_add : Addr} {godStock_add ganStock_add : Option Addr} {gslStock_add : Array (Option Value)} {gocStock_add gkVStock_add gdcStock_add gpmStock_add gcdStock_add gctStock_add : Value} {gStock_sub : Addr} {godStock_sub ganStock_sub : Option Addr} {gslStock_sub : Array (Option Value)} {gocStock_sub gkVStock_sub gdcStock_sub gpmStock_sub gcdStock_sub gctStock_sub : Value} {gStock_iadd : Addr} {godStock_iadd ganStock_iadd : Option Addr} {gslStock_iadd : Array (Option Value)} {gocStock_iadd gkVStock_iadd gdcStock_iadd gpmStock_iadd gcdStock_iadd gctStock_iadd : Value} {gStock_isub : Addr} {godStock_isub ganStock_isub : Option Addr} {gslStock_isub : Array (Option Value)} {gocStock_isub gkVStock_isub gdcStock_isub gpmStock_isub gcdStock_isub gctStock_isub : Value} {gStock_eq : Addr} {godStock_eq ganStock_eq : Option Addr} {gslStock_eq : Array (Option Value)} {gocStock_eq gkVStock_eq gdcStock_eq gpmStock_eq gcdStock_eq gctStock_eq : Value} {gStock_le : Addr} {godStock_le ganStock_le : Option Addr} {gslStock_le : Array (Option Value)} {gocStock_le gkVStock_le gdcStock_le gpmStock_le gcdStock_le gctStock_le : Value} {f11 : Addr} {od11 an11 : Option Addr} {sl11 : Array (Option Value)} {oc11 kV11 dc11 pm11 cd11 ct11 : Value} {f12 : Addr} {od12 an12 : Option Addr} {sl12 : Array (Option Value)} {oc12 kV12 dc12 pm12 cd12 ct12 : Value} {f13 : Addr} {od13 an13 : Option Addr} {sl13 : Array (Option Value)} {oc13 kV13 dc13 pm13 cd13 ct13 : Value} {f14 : Addr} {od14 an14 : Option Addr} {sl14 : Array (Option Value)} {oc14 kV14 dc14 pm14 cd14 ct14 : Value} {f15 : Addr} {od15 an15 : Option Addr} {sl15 : Array (Option Value)} {oc15 kV15 dc15 pm15 cd15 ct15 : Value} {f16 : Addr} {od16 an16 : Option Addr} {sl16 : Array (Option Value)} {oc16 kV16 dc16 pm16 cd16 ct16 : Value} {f17 : Addr} {od17 an17 : Option Addr} {sl17 : Array (Option Value)} {oc17 kV17 dc17 pm17 cd17 ct17 : Value} {f18 : Addr} {od18 an18 : Option Addr} {sl18 : Array (Option Value)} {oc18 kV18 dc18 pm18 cd18 ct18 : Value} {f19 : Addr} {od19 an19 : Option Addr} {sl19 : Array (Option Value)} {oc19 kV19 dc19 pm19 cd19 ct19 : Value} {f20 : Addr} {od20 an20 : Option Addr} {sl20 : Array (Option Value)} {oc20 kV20 dc20 pm20 cd20 ct20 : Value}
    (a0 : PySem.W.nsIn K mainGlobals "_law_draw" = some (some (.ref f0)))
    (l0 : K.lookup f0 = some ⟨oc0, od0, .func (PySem.W.fnOf "_law_draw" "_law_draw" (defArgs sDraw) (defBody sDraw) (defScope sDraw) .none kV0 dc0 pm0 an0 cd0 ct0), sl0⟩)
    (c0 : PySem.W.codeIn K cd0 "_law_draw" = true)
    (k0 : PySem.W.keepIn K (.ref f0) = true)
    (a1 : PySem.W.nsIn K mainGlobals "_law_same" = some (some (.ref f1)))
    (l1 : K.lookup f1 = some ⟨oc1, od1, .func (PySem.W.fnOf "_law_same" "_law_same" (defArgs sSame) (defBody sSame) (defScope sSame) .none kV1 dc1 pm1 an1 cd1 ct1), sl1⟩)
    (c1 : PySem.W.codeIn K cd1 "_law_same" = true)
    (k1 : PySem.W.keepIn K (.ref f1) = true)
    (a2 : PySem.W.nsIn K mainGlobals "_law_name" = some (some (.ref f2)))
    (l2 : K.lookup f2 = some ⟨oc2, od2, .func (PySem.W.fnOf "_law_name" "_law_name" (defArgs sName) (defBody sName) (defScope sName) .none kV2 dc2 pm2 an2 cd2 ct2), sl2⟩)
    (c2 : PySem.W.codeIn K cd2 "_law_name" = true)
    (k2 : PySem.W.keepIn K (.ref f2) = true)
    (a3 : PySem.W.nsIn K mainGlobals "_law_names" = some (some (.ref f3)))
    (l3 : K.lookup f3 = some ⟨oc3, od3, .func (PySem.W.fnOf "_law_names" "_law_names" (defArgs sNames) (defBody sNames) (defScope sNames) .none kV3 dc3 pm3 an3 cd3 ct3), sl3⟩)
    (c3 : PySem.W.codeIn K cd3 "_law_names" = true)
    (k3 : PySem.W.keepIn K (.ref f3) = true)
    (a4 : PySem.W.nsIn K mainGlobals "is_letter" = some (some (.ref f4)))
    (l4 : K.lookup f4 = some ⟨oc4, od4, .func (PySem.W.fnOf "is_letter" "is_letter" (defArgs sLet) (defBody sLet) (defScope sLet) .none kV4 dc4 pm4 an4 cd4 ct4), sl4⟩)
    (c4 : PySem.W.codeIn K cd4 "is_letter" = true)
    (k4 : PySem.W.keepIn K (.ref f4) = true)
    (ac_RESERVED : PySem.W.nsIn K mainGlobals "RESERVED" = some (some (.ref TR_RESERVED)))
    (lc_RESERVED : K.lookup TR_RESERVED = some ⟨.type "tuple", dR_RESERVED, .seq iR_RESERVED nR_RESERVED, sR_RESERVED⟩)
    (zc_RESERVED : iR_RESERVED.size ≤ sizeLine)
    (vc_RESERVED : Vals (Reserved.map V.str) iR_RESERVED.toList)
    (ac_LONGEST : PySem.W.nsIn K mainGlobals "LONGEST" = some (some (.int 8 tc_LONGEST)))
    (a5 : PySem.W.nsIn K mainGlobals "is_name" = some (some (.ref f5)))
    (l5 : K.lookup f5 = some ⟨oc5, od5, .func (PySem.W.fnOf "is_name" "is_name" (defArgs sIsN) (defBody sIsN) (defScope sIsN) .none kV5 dc5 pm5 an5 cd5 ct5), sl5⟩)
    (c5 : PySem.W.codeIn K cd5 "is_name" = true)
    (k5 : PySem.W.keepIn K (.ref f5) = true)
    (aC_BadName : PySem.W.nsIn K mainGlobals "BadName" = some (some (.ref C_BadName)))
    (lCE_BadName : K.lookup C_BadName = some (excClassObj nmE_BadName qE_BadName C_BadName NE_BadName bsE_BadName bmE_BadName true snE_BadName subE_BadName abE_BadName colE_BadName ddE_BadName k0E_BadName k1E_BadName k2E_BadName k3E_BadName k5E_BadName "ValueError.__new__"))
    (rvE_BadName : PySem.HandSPX.refsVE bmE_BadName = true)
    (saE_BadName : PySem.W.findIn K (.ref C_BadName) "__setattr__" = some (some (.builtin "object.__setattr__")))
    (exCE_BadName : PySem.W.subIn K (.ref C_BadName) (.type "BaseException") = some true)
    (tyCE_BadName : PySem.W.typeIn K (.ref C_BadName) = some (.type "type"))
    (kCE_BadName : PySem.W.keepIn K (.ref C_BadName) = true)
    (iCE_BadName : PySem.W.findIn K (.ref C_BadName) "__init__" = some (some (.ref fE_BadName)))
    (lfE_BadName : K.lookup fE_BadName = some ⟨ocE_BadName, odE_BadName, .func (PySem.W.ksFn "__init__" "BadName.__init__" (defArgs sE_BadName) (defBody sE_BadName) (defScope sE_BadName) .none kVE_BadName docE_BadName pmE_BadName anE_BadName (.ref cdaE_BadName) ctE_BadName ccE_BadName), oslE_BadName⟩)
    (cfE_BadName : PySem.W.codeIn K (.ref cdaE_BadName) "BadName.__init__" = true)
    (tf_E_BadName : PySem.W.typeIn K (.ref fE_BadName) = some (.type "function"))
    (lcdE_BadName : K.lookup cdaE_BadName = some ⟨cclE_BadName, cddE_BadName, .fields vsE_BadName, ccsE_BadName⟩)
    (hvsE_BadName : vsE_BadName[2]? = some (.str fileE_BadName tfE_BadName))
    (hfileE_BadName : ((l.prog.main.file : Str) == fileE_BadName) = true)
    (lccE_BadName : K.lookup ccE_BadName = some ⟨clE_BadName, cldE_BadName, .cell (some (.ref C_BadName)), cslE_BadName⟩)
    (msE_BadName : PySem.W.mroIn K C_BadName (.ref C_BadName) = some true)
    (su_ : PySem.W.nsIn K mainGlobals "super" = some none)
    (tp_ : (l.prog.main.scope.names.lookup ("super" : Str)).isSome = false)
    (iniE_BadName : PySem.W.ks_superIn K C_BadName C_BadName "__init__" = some (some (.builtin "ValueError.__init__")))
    (basE_BadName : PySem.W.subIn K (.ref C_BadName) (.type "ValueError") = some true)
    (tpa_ : PySem.W.nsIn K cStatics "thirdparty.any" = some none)
    (no_BadName_name : PySem.W.findIn K (.ref C_BadName) "name" = some none)
    (a6 : PySem.W.nsIn K mainGlobals "check_name" = some (some (.ref f6)))
    (l6 : K.lookup f6 = some ⟨oc6, od6, .func (PySem.W.fnOf "check_name" "check_name" (defArgs sChE) (defBody sChE) (defScope sChE) .none kV6 dc6 pm6 an6 cd6 ct6), sl6⟩)
    (c6 : PySem.W.codeIn K cd6 "check_name" = true)
    (k6 : PySem.W.keepIn K (.ref f6) = true)
    (aC_BadNumber : PySem.W.nsIn K mainGlobals "BadNumber" = some (some (.ref C_BadNumber)))
    (lCE_BadNumber : K.lookup C_BadNumber = some (excClassObj nmE_BadNumber qE_BadNumber C_BadNumber NE_BadNumber bsE_BadNumber bmE_BadNumber true snE_BadNumber subE_BadNumber abE_BadNumber colE_BadNumber ddE_BadNumber k0E_BadNumber k1E_BadNumber k2E_BadNumber k3E_BadNumber k5E_BadNumber "ValueError.__new__"))
    (rvE_BadNumber : PySem.HandSPX.refsVE bmE_BadNumber = true)
    (saE_BadNumber : PySem.W.findIn K (.ref C_BadNumber) "__setattr__" = some (some (.builtin "object.__setattr__")))
    (exCE_BadNumber : PySem.W.subIn K (.ref C_BadNumber) (.type "BaseException") = some true)
    (tyCE_BadNumber : PySem.W.typeIn K (.ref C_BadNumber) = some (.type "type"))
    (kCE_BadNumber : PySem.W.keepIn K (.ref C_BadNumber) = true)
    (iCE_BadNumber : PySem.W.findIn K (.ref C_BadNumber) "__init__" = some (some (.ref fE_BadNumber)))
    (lfE_BadNumber : K.lookup fE_BadNumber = some ⟨ocE_BadNumber, odE_BadNumber, .func (PySem.W.ksFn "__init__" "BadNumber.__init__" (defArgs sE_BadNumber) (defBody sE_BadNumber) (defScope sE_BadNumber) .none kVE_BadNumber docE_BadNumber pmE_BadNumber anE_BadNumber (.ref cdaE_BadNumber) ctE_BadNumber ccE_BadNumber), oslE_BadNumber⟩)
    (cfE_BadNumber : PySem.W.codeIn K (.ref cdaE_BadNumber) "BadNumber.__init__" = true)
    (tf_E_BadNumber : PySem.W.typeIn K (.ref fE_BadNumber) = some (.type "function"))
    (lcdE_BadNumber : K.lookup cdaE_BadNumber = some ⟨cclE_BadNumber, cddE_BadNumber, .fields vsE_BadNumber, ccsE_BadNumber⟩)
    (hvsE_BadNumber : vsE_BadNumber[2]? = some (.str fileE_BadNumber tfE_BadNumber))
    (hfileE_BadNumber : ((l.prog.main.file : Str) == fileE_BadNumber) = true)
    (lccE_BadNumber : K.lookup ccE_BadNumber = some ⟨clE_BadNumber, cldE_BadNumber, .cell (some (.ref C_BadNumber)), cslE_BadNumber⟩)
    (msE_BadNumber : PySem.W.mroIn K C_BadNumber (.ref C_BadNumber) = some true)
    (iniE_BadNumber : PySem.W.ks_superIn K C_BadNumber C_BadNumber "__init__" = some (some (.builtin "ValueError.__init__")))
    (basE_BadNumber : PySem.W.subIn K (.ref C_BadNumber) (.type "ValueError") = some true)
    (no_BadNumber_number : PySem.W.findIn K (.ref C_BadNumber) "number" = some none)
    (a7 : PySem.W.nsIn K mainGlobals "check_number" = some (some (.ref f7)))
    (l7 : K.lookup f7 = some ⟨oc7, od7, .func (PySem.W.fnOf "check_number" "check_number" (defArgs sCkM) (defBody sCkM) (defScope sCkM) .none kV7 dc7 pm7 an7 cd7 ct7), sl7⟩)
    (c7 : PySem.W.codeIn K cd7 "check_number" = true)
    (k7 : PySem.W.keepIn K (.ref f7) = true)
    (a8 : PySem.W.nsIn K mainGlobals "without_zeros" = some (some (.ref f8)))
    (l8 : K.lookup f8 = some ⟨oc8, od8, .func (PySem.W.fnOf "without_zeros" "without_zeros" (defArgs sWoZ) (defBody sWoZ) (defScope sWoZ) .none kV8 dc8 pm8 an8 cd8 ct8), sl8⟩)
    (c8 : PySem.W.codeIn K cd8 "without_zeros" = true)
    (k8 : PySem.W.keepIn K (.ref f8) = true)
    (aC_Stock : PySem.W.nsIn K mainGlobals "Stock" = some (some (.ref C_Stock)))
    (pg_Stock : PySem.W.plainGet K C_Stock Str.empty = true)
    (hd_Stock : PySem.W.hasDictIn K C_Stock = true)
    (po_Stock : PySem.W.plainOver K C_Stock = true)
    (sa_Stock : PySem.W.findIn K (.ref C_Stock) "__setattr__" = some (some (.builtin "object.__setattr__")))
    (pna_numbers : PySem.W.findIn K (.ref C_Stock) "_numbers" = some none)
    (giStock_init : PySem.W.findIn K (.ref C_Stock) "__init__" = some (some (.ref gStock_init)))
    (glStock_init : K.lookup gStock_init = some ⟨gocStock_init, godStock_init, .func (PySem.W.fnOf "__init__" "Stock.__init__" (defArgs sSIni) (defBody sSIni) (defScope sSIni) (.ref TStock_init) gkVStock_init gdcStock_init gpmStock_init ganStock_init gcdStock_init gctStock_init), gslStock_init⟩)
    (gcStock_init : PySem.W.codeIn K gcdStock_init "Stock.__init__" = true)
    (gfStock_init : PySem.W.isFn K (.ref gStock_init) = true)
    (gkStock_init : PySem.W.keepIn K (.ref gStock_init) = true)
    (gTStock_init : K.lookup TStock_init = some ⟨.type "tuple", oTStock_init, .seq #[.none] nTStock_init, slTStock_init⟩)
    (mk_Stock : PySem.W.makesIn K C_Stock = true)
    (kC_Stock : PySem.W.keepIn K (.ref C_Stock) = true)
    (giStock_names : PySem.W.findIn K (.ref C_Stock) "names" = some (some (.ref gStock_names)))
    (glStock_names : K.lookup gStock_names = some ⟨gocStock_names, godStock_names, .func (PySem.W.fnOf "names" "Stock.names" (defArgs sSNm) (defBody sSNm) (defScope sSNm) .none gkVStock_names gdcStock_names gpmStock_names ganStock_names gcdStock_names gctStock_names), gslStock_names⟩)
    (gcStock_names : PySem.W.codeIn K gcdStock_names "Stock.names" = true)
    (gfStock_names : PySem.W.isFn K (.ref gStock_names) = true)
    (gkStock_names : PySem.W.keepIn K (.ref gStock_names) = true)
    (giStock_getitem : PySem.W.findIn K (.ref C_Stock) "__getitem__" = some (some (.ref gStock_getitem)))
    (glStock_getitem : K.lookup gStock_getitem = some ⟨gocStock_getitem, godStock_getitem, .func (PySem.W.fnOf "__getitem__" "Stock.__getitem__" (defArgs sSGi) (defBody sSGi) (defScope sSGi) .none gkVStock_getitem gdcStock_getitem gpmStock_getitem ganStock_getitem gcdStock_getitem gctStock_getitem), gslStock_getitem⟩)
    (gcStock_getitem : PySem.W.codeIn K gcdStock_getitem "Stock.__getitem__" = true)
    (gfStock_getitem : PySem.W.isFn K (.ref gStock_getitem) = true)
    (gkStock_getitem : PySem.W.keepIn K (.ref gStock_getitem) = true)
    (giStock_copy : PySem.W.findIn K (.ref C_Stock) "copy" = some (some (.ref gStock_copy)))
    (glStock_copy : K.lookup gStock_copy = some ⟨gocStock_copy, godStock_copy, .func (PySem.W.fnOf "copy" "Stock.copy" (defArgs sSCp) (defBody sSCp) (defScope sSCp) .none gkVStock_copy gdcStock_copy gpmStock_copy ganStock_copy gcdStock_copy gctStock_copy), gslStock_copy⟩)
    (gcStock_copy : PySem.W.codeIn K gcdStock_copy "Stock.copy" = true)
    (gfStock_copy : PySem.W.isFn K (.ref gStock_copy) = true)
    (gkStock_copy : PySem.W.keepIn K (.ref gStock_copy) = true)
    (giStock_setitem : PySem.W.findIn K (.ref C_Stock) "__setitem__" = some (some (.ref gStock_setitem)))
    (glStock_setitem : K.lookup gStock_setitem = some ⟨gocStock_setitem, godStock_setitem, .func (PySem.W.fnOf "__setitem__" "Stock.__setitem__" (defArgs sSSi) (defBody sSSi) (defScope sSSi) .none gkVStock_setitem gdcStock_setitem gpmStock_setitem ganStock_setitem gcdStock_setitem gctStock_setitem), gslStock_setitem⟩)
    (gcStock_setitem : PySem.W.codeIn K gcdStock_setitem "Stock.__setitem__" = true)
    (gfStock_setitem : PySem.W.isFn K (.ref gStock_setitem) = true)
    (gkStock_setitem : PySem.W.keepIn K (.ref gStock_setitem) = true)
    (aC_Short : PySem.W.nsIn K mainGlobals "Short" = some (some (.ref C_Short)))
    (lCE_Short : K.lookup C_Short = some (excClassObj nmE_Short qE_Short C_Short NE_Short bsE_Short bmE_Short true snE_Short subE_Short abE_Short colE_Short ddE_Short k0E_Short k1E_Short k2E_Short k3E_Short k5E_Short "ValueError.__new__"))
    (rvE_Short : PySem.HandSPX.refsVE bmE_Short = true)
    (saE_Short : PySem.W.findIn K (.ref C_Short) "__setattr__" = some (some (.builtin "object.__setattr__")))
    (exCE_Short : PySem.W.subIn K (.ref C_Short) (.type "BaseException") = some true)
    (tyCE_Short : PySem.W.typeIn K (.ref C_Short) = some (.type "type"))
    (kCE_Short : PySem.W.keepIn K (.ref C_Short) = true)
    (iCE_Short : PySem.W.findIn K (.ref C_Short) "__init__" = some (some (.ref fE_Short)))
    (lfE_Short : K.lookup fE_Short = some ⟨ocE_Short, odE_Short, .func (PySem.W.ksFn "__init__" "Short.__init__" (defArgs sE_Short) (defBody sE_Short) (defScope sE_Short) .none kVE_Short docE_Short pmE_Short anE_Short (.ref cdaE_Short) ctE_Short ccE_Short), oslE_Short⟩)
    (cfE_Short : PySem.W.codeIn K (.ref cdaE_Short) "Short.__init__" = true)
    (tf_E_Short : PySem.W.typeIn K (.ref fE_Short) = some (.type "function"))
    (lcdE_Short : K.lookup cdaE_Short = some ⟨cclE_Short, cddE_Short, .fields vsE_Short, ccsE_Short⟩)
    (hvsE_Short : vsE_Short[2]? = some (.str fileE_Short tfE_Short))
    (hfileE_Short : ((l.prog.main.file : Str) == fileE_Short) = true)
    (lccE_Short : K.lookup ccE_Short = some ⟨clE_Short, cldE_Short, .cell (some (.ref C_Short)), cslE_Short⟩)
    (msE_Short : PySem.W.mroIn K C_Short (.ref C_Short) = some true)
    (iniE_Short : PySem.W.ks_superIn K C_Short C_Short "__init__" = some (some (.builtin "ValueError.__init__")))
    (basE_Short : PySem.W.subIn K (.ref C_Short) (.type "ValueError") = some true)
    (no_Short_name : PySem.W.findIn K (.ref C_Short) "name" = some none)
    (a9 : PySem.W.nsIn K mainGlobals "sums_of" = some (some (.ref f9)))
    (l9 : K.lookup f9 = some ⟨oc9, od9, .func (PySem.W.fnOf "sums_of" "sums_of" (defArgs sSum) (defBody sSum) (defScope sSum) .none kV9 dc9 pm9 an9 cd9 ct9), sl9⟩)
    (c9 : PySem.W.codeIn K cd9 "sums_of" = true)
    (k9 : PySem.W.keepIn K (.ref f9) = true)
    (a10 : PySem.W.nsIn K mainGlobals "differences_of" = some (some (.ref f10)))
    (l10 : K.lookup f10 = some ⟨oc10, od10, .func (PySem.W.fnOf "differences_of" "differences_of" (defArgs sDif) (defBody sDif) (defScope sDif) .none kV10 dc10 pm10 an10 cd10 ct10), sl10⟩)
    (c10 : PySem.W.codeIn K cd10 "differences_of" = true)
    (k10 : PySem.W.keepIn K (.ref f10) = true)
    (ia_Stock : PySem.W.findIn K (.ref C_Stock) "__class__" = some (some (.builtin "object.__class__")))
    (in_ : PySem.W.specialIn K (.builtin "object.__class__") "__get__" = some (some (.builtin "getset_descriptor.__get__")))
    (it_ : PySem.W.takesIn K (.builtin "object.__class__") = some true)
    (im_Stock : PySem.W.mroIn K C_Stock (.type "object") = some true)
    (kit_Stock : PySem.W.kitOne K (.ref C_Stock) (.ref C_Stock) = some true)
    (giStock_add : PySem.W.findIn K (.ref C_Stock) "__add__" = some (some (.ref gStock_add)))
    (glStock_add : K.lookup gStock_add = some ⟨gocStock_add, godStock_add, .func (PySem.W.fnOf "__add__" "Stock.__add__" (defArgs sSAd) (defBody sSAd) (defScope sSAd) .none gkVStock_add gdcStock_add gpmStock_add ganStock_add gcdStock_add gctStock_add), gslStock_add⟩)
    (gcStock_add : PySem.W.codeIn K gcdStock_add "Stock.__add__" = true)
    (gfStock_add : PySem.W.isFn K (.ref gStock_add) = true)
    (gkStock_add : PySem.W.keepIn K (.ref gStock_add) = true)
    (giStock_sub : PySem.W.findIn K (.ref C_Stock) "__sub__" = some (some (.ref gStock_sub)))
    (glStock_sub : K.lookup gStock_sub = some ⟨gocStock_sub, godStock_sub, .func (PySem.W.fnOf "__sub__" "Stock.__sub__" (defArgs sSSu) (defBody sSSu) (defScope sSSu) .none gkVStock_sub gdcStock_sub gpmStock_sub ganStock_sub gcdStock_sub gctStock_sub), gslStock_sub⟩)
    (gcStock_sub : PySem.W.codeIn K gcdStock_sub "Stock.__sub__" = true)
    (gfStock_sub : PySem.W.isFn K (.ref gStock_sub) = true)
    (gkStock_sub : PySem.W.keepIn K (.ref gStock_sub) = true)
    (giStock_iadd : PySem.W.findIn K (.ref C_Stock) "__iadd__" = some (some (.ref gStock_iadd)))
    (glStock_iadd : K.lookup gStock_iadd = some ⟨gocStock_iadd, godStock_iadd, .func (PySem.W.fnOf "__iadd__" "Stock.__iadd__" (defArgs sSIa) (defBody sSIa) (defScope sSIa) .none gkVStock_iadd gdcStock_iadd gpmStock_iadd ganStock_iadd gcdStock_iadd gctStock_iadd), gslStock_iadd⟩)
    (gcStock_iadd : PySem.W.codeIn K gcdStock_iadd "Stock.__iadd__" = true)
    (gfStock_iadd : PySem.W.isFn K (.ref gStock_iadd) = true)
    (gkStock_iadd : PySem.W.keepIn K (.ref gStock_iadd) = true)
    (giStock_isub : PySem.W.findIn K (.ref C_Stock) "__isub__" = some (some (.ref gStock_isub)))
    (glStock_isub : K.lookup gStock_isub = some ⟨gocStock_isub, godStock_isub, .func (PySem.W.fnOf "__isub__" "Stock.__isub__" (defArgs sSIs) (defBody sSIs) (defScope sSIs) .none gkVStock_isub gdcStock_isub gpmStock_isub ganStock_isub gcdStock_isub gctStock_isub), gslStock_isub⟩)
    (gcStock_isub : PySem.W.codeIn K gcdStock_isub "Stock.__isub__" = true)
    (gfStock_isub : PySem.W.isFn K (.ref gStock_isub) = true)
    (gkStock_isub : PySem.W.keepIn K (.ref gStock_isub) = true)
    (giStock_eq : PySem.W.findIn K (.ref C_Stock) "__eq__" = some (some (.ref gStock_eq)))
    (glStock_eq : K.lookup gStock_eq = some ⟨gocStock_eq, godStock_eq, .func (PySem.W.fnOf "__eq__" "Stock.__eq__" (defArgs sSEq) (defBody sSEq) (defScope sSEq) .none gkVStock_eq gdcStock_eq gpmStock_eq ganStock_eq gcdStock_eq gctStock_eq), gslStock_eq⟩)
    (gcStock_eq : PySem.W.codeIn K gcdStock_eq "Stock.__eq__" = true)
    (gfStock_eq : PySem.W.isFn K (.ref gStock_eq) = true)
    (gkStock_eq : PySem.W.keepIn K (.ref gStock_eq) = true)
    (pcSGif : PySem.W.fnIn K gStock_getitem = true)
    (giStock_le : PySem.W.findIn K (.ref C_Stock) "__le__" = some (some (.ref gStock_le)))
    (glStock_le : K.lookup gStock_le = some ⟨gocStock_le, godStock_le, .func (PySem.W.fnOf "__le__" "Stock.__le__" (defArgs sSLe) (defBody sSLe) (defScope sSLe) .none gkVStock_le gdcStock_le gpmStock_le ganStock_le gcdStock_le gctStock_le), gslStock_le⟩)
    (gcStock_le : PySem.W.codeIn K gcdStock_le "Stock.__le__" = true)
    (gfStock_le : PySem.W.isFn K (.ref gStock_le) = true)
    (gkStock_le : PySem.W.keepIn K (.ref gStock_le) = true)
    (a11 : PySem.W.nsIn K mainGlobals "_law_mixed" = some (some (.ref f11)))
    (l11 : K.lookup f11 = some ⟨oc11, od11, .func (PySem.W.fnOf "_law_mixed" "_law_mixed" (defArgs sMixed) (defBody sMixed) (defScope sMixed) .none kV11 dc11 pm11 an11 cd11 ct11), sl11⟩)
    (c11 : PySem.W.codeIn K cd11 "_law_mixed" = true)
    (k11 : PySem.W.keepIn K (.ref f11) = true)
    (a12 : PySem.W.nsIn K mainGlobals "_law_numbers" = some (some (.ref f12)))
    (l12 : K.lookup f12 = some ⟨oc12, od12, .func (PySem.W.fnOf "_law_numbers" "_law_numbers" (defArgs sLNm) (defBody sLNm) (defScope sLNm) .none kV12 dc12 pm12 an12 cd12 ct12), sl12⟩)
    (c12 : PySem.W.codeIn K cd12 "_law_numbers" = true)
    (k12 : PySem.W.keepIn K (.ref f12) = true)
    (pxf_Short : xfB K C_Short = true)
    (exm_Short : PySem.W.exmOne K (.ref C_Short) (.ref C_Short) = some true)
    (sf_Stock : PySem.W.selfFirst K C_Stock = true)
    (a13 : PySem.W.nsIn K mainGlobals "_law_less" = some (some (.ref f13)))
    (l13 : K.lookup f13 = some ⟨oc13, od13, .func (PySem.W.fnOf "_law_less" "_law_less" (defArgs sLLs) (defBody sLLs) (defScope sLLs) .none kV13 dc13 pm13 an13 cd13 ct13), sl13⟩)
    (c13 : PySem.W.codeIn K cd13 "_law_less" = true)
    (k13 : PySem.W.keepIn K (.ref f13) = true)
    (a14 : PySem.W.nsIn K mainGlobals "_law_lessened" = some (some (.ref f14)))
    (l14 : K.lookup f14 = some ⟨oc14, od14, .func (PySem.W.fnOf "_law_lessened" "_law_lessened" (defArgs sLLd) (defBody sLLd) (defScope sLLd) .none kV14 dc14 pm14 an14 cd14 ct14), sl14⟩)
    (c14 : PySem.W.codeIn K cd14 "_law_lessened" = true)
    (k14 : PySem.W.keepIn K (.ref f14) = true)
    (a15 : PySem.W.nsIn K mainGlobals "_law_short" = some (some (.ref f15)))
    (l15 : K.lookup f15 = some ⟨oc15, od15, .func (PySem.W.fnOf "_law_short" "_law_short" (defArgs sLSr) (defBody sLSr) (defScope sLSr) .none kV15 dc15 pm15 an15 cd15 ct15), sl15⟩)
    (c15 : PySem.W.codeIn K cd15 "_law_short" = true)
    (k15 : PySem.W.keepIn K (.ref f15) = true)
    (a16 : PySem.W.nsIn K mainGlobals "_law_shows" = some (some (.ref f16)))
    (l16 : K.lookup f16 = some ⟨oc16, od16, .func (PySem.W.fnOf "_law_shows" "_law_shows" (defArgs sLSh) (defBody sLSh) (defScope sLSh) .none kV16 dc16 pm16 an16 cd16 ct16), sl16⟩)
    (c16 : PySem.W.codeIn K cd16 "_law_shows" = true)
    (k16 : PySem.W.keepIn K (.ref f16) = true)
    (hnq : PySem.W.noSeq K C_Stock = true)
    (a17 : PySem.W.nsIn K mainGlobals "_law_changes_results" = some (some (.ref f17)))
    (l17 : K.lookup f17 = some ⟨oc17, od17, .func (PySem.W.fnOf "_law_changes_results" "_law_changes_results" (defArgs sLCr) (defBody sLCr) (defScope sLCr) .none kV17 dc17 pm17 an17 cd17 ct17), sl17⟩)
    (c17 : PySem.W.codeIn K cd17 "_law_changes_results" = true)
    (k17 : PySem.W.keepIn K (.ref f17) = true)
    (a18 : PySem.W.nsIn K mainGlobals "_law_grows" = some (some (.ref f18)))
    (l18 : K.lookup f18 = some ⟨oc18, od18, .func (PySem.W.fnOf "_law_grows" "_law_grows" (defArgs sLGr) (defBody sLGr) (defScope sLGr) .none kV18 dc18 pm18 an18 cd18 ct18), sl18⟩)
    (c18 : PySem.W.codeIn K cd18 "_law_grows" = true)
    (k18 : PySem.W.keepIn K (.ref f18) = true)
    (nfS : PySem.W.notFirst K C_Stock (.ref C_Stock) = true)
    (a19 : PySem.W.nsIn K mainGlobals "_law_with_itself" = some (some (.ref f19)))
    (l19 : K.lookup f19 = some ⟨oc19, od19, .func (PySem.W.fnOf "_law_with_itself" "_law_with_itself" (defArgs sLWi) (defBody sLWi) (defScope sLWi) .none kV19 dc19 pm19 an19 cd19 ct19), sl19⟩)
    (c19 : PySem.W.codeIn K cd19 "_law_with_itself" = true)
    (k19 : PySem.W.keepIn K (.ref f19) = true)
    (a20 : PySem.W.nsIn K mainGlobals "law" = some (some (.ref f20)))
    (l20 : K.lookup f20 = some ⟨oc20, od20, .func (PySem.W.fnOf "law" "law" (defArgs sLaw) (defBody sLaw) (defScope sLaw) .none kV20 dc20 pm20 an20 cd20 ct20), sl20⟩)
    (c20 : PySem.W.codeIn K cd20 "law" = true)
    (k20 : PySem.W.keepIn K (.ref f20) = true)
    (z_len : PySem.W.nsIn K mainGlobals "len" = some none)
    (z_list : PySem.W.nsIn K mainGlobals "list" = some none)
    (z_tuple : PySem.W.nsIn K mainGlobals "tuple" = some none)
    (z_int : PySem.W.nsIn K mainGlobals "int" = some none)
    (z_repr : PySem.W.nsIn K mainGlobals "repr" = some none)
    (z_range : PySem.W.nsIn K mainGlobals "range" = some none)
    (z_all : PySem.W.nsIn K mainGlobals "all" = some none)
    (z_zip : PySem.W.nsIn K mainGlobals "zip" = some none)
    (z_enumerate : PySem.W.nsIn K mainGlobals "enumerate" = some none)
    (z_isinstance : PySem.W.nsIn K mainGlobals "isinstance" = some none)
    (z_str : PySem.W.nsIn K mainGlobals "str" = some none)
    (z_bool : PySem.W.nsIn K mainGlobals "bool" = some none)
    (z_dict : PySem.W.nsIn K mainGlobals "dict" = some none)
    (z_any : PySem.W.nsIn K mainGlobals "any" = some none)
    (z_min : PySem.W.nsIn K mainGlobals "min" = some none)
    (z_sorted : PySem.W.nsIn K mainGlobals "sorted" = some none)
    (z_set : PySem.W.nsIn K mainGlobals "set" = some none)
    (z_max : PySem.W.nsIn K mainGlobals "max" = some none)
    (z_sum : PySem.W.nsIn K mainGlobals "sum" = some none)
    : ∃ fd : FuncData, (∀ (s : Shared) (v : Value), BindsTo s fd ⟨[v], []⟩ [("_law_script", v)]) ∧ ∀ base : Heap, K.In base → base.Ns mainGlobals mg → FnG l.prog w K mg base (L2.CX l.prog w) 12 fa fd ["_law_script"] (spD K FLaw) := by
  have e := hfa.symm.trans (PySem.W.mg_of X G a20)
  cases e
  have T : NoB mg := ⟨PySem.W.mg_none_of X G z_len, PySem.W.mg_none_of X G z_list, PySem.W.mg_none_of X G z_tuple, PySem.W.mg_none_of X G z_int, PySem.W.mg_none_of X G z_repr, PySem.W.mg_none_of X G z_range, PySem.W.mg_none_of X G z_all, PySem.W.mg_none_of X G z_zip, PySem.W.mg_none_of X G z_enumerate, PySem.W.mg_none_of X G z_isinstance, PySem.W.mg_none_of X G z_str, PySem.W.mg_none_of X G z_bool, PySem.W.mg_none_of X G z_dict, PySem.W.mg_none_of X G z_any, PySem.W.mg_none_of X G z_min, PySem.W.mg_none_of X G z_sorted, PySem.W.mg_none_of X G z_set, PySem.W.mg_none_of X G z_max, PySem.W.mg_none_of X G z_sum⟩
  refine ⟨PySem.W.fnOf "law" "law" (defArgs sLaw) (defBody sLaw) (defScope sLaw) .none kV20 dc20 pm20 an20 cd20 ct20, fun s v => .of_eq rfl, fun base _ _ => ?_⟩
  have F0 := fun_mk (st := sDraw) l0 c0 k0
  have b0 := F0.binds (ps := ["_law_stream", "_law_many"]) fun _ _ _ _ _ _ us hl => match us, hl with | [_, _], _ => rfl
  have cD := cal_draw (P := l.prog) (w := w) (K := K) (mg := mg) (base := base)  T F0 (PySem.W.mg_of X G a0) k0 b0
  have F1 := fun_mk (st := sSame) l1 c1 k1
  have b1 := F1.binds (ps := ["_law_found", "_law_due"]) fun _ _ _ _ _ _ us hl => match us, hl with | [_, _], _ => rfl
  have cSm := cal_same (P := l.prog) (w := w) (K := K) (mg := mg) (base := base)  T F1 (PySem.W.mg_of X G a1) k1 b1
  have F2 := fun_mk (st := sName) l2 c2 k2
  have b2 := F2.binds (ps := ["_law_stream", "_law_taken"]) fun _ _ _ _ _ _ us hl => match us, hl with | [_, _], _ => rfl
  have cN := cal_name (P := l.prog) (w := w) (K := K) (mg := mg) (base := base) cD T F2 (PySem.W.mg_of X G a2) k2 b2
  have F3 := fun_mk (st := sNames) l3 c3 k3
  have b3 := F3.binds (ps := ["_law_stream", "_law_many", "_law_taken"]) fun _ _ _ _ _ _ us hl => match us, hl with | [_, _, _], _ => rfl
  have cNs := cal_names (P := l.prog) (w := w) (K := K) (mg := mg) (base := base) cN T F3 (PySem.W.mg_of X G a3) k3 b3
  have F4 := fun_mk (st := sLet) l4 c4 k4
  have b4 := F4.binds (ps := ["sign"]) fun _ _ _ _ _ _ us hl => match us, hl with | [_], _ => rfl
  have cLet := cal_let (P := l.prog) (w := w) (K := K) (mg := mg) (base := base)  T F4 (PySem.W.mg_of X G a4) k4 b4
  have hm_RESERVED := PySem.W.mg_of X G ac_RESERVED
  have l_RESERVED : ∀ H0 : Hp, SqT K H0 TR_RESERVED (Reserved.map V.str) := fun H0 => .inr ⟨_, iR_RESERVED, nR_RESERVED, lc_RESERVED, rfl, rfl, zc_RESERVED, vc_RESERVED⟩
  have hm_LONGEST := PySem.W.mg_of X G ac_LONGEST
  have F5 := fun_mk (st := sIsN) l5 c5 k5
  have b5 := F5.binds (ps := ["value"]) fun _ _ _ _ _ _ us hl => match us, hl with | [_], _ => rfl
  have cIsN := cal_isn (P := l.prog) (w := w) (K := K) (mg := mg) (base := base) cLet hm_RESERVED l_RESERVED hm_LONGEST T F5 (PySem.W.mg_of X G a5) k5 b5
  have TE_BadName : SupK l.prog K mg C_BadName cdaE_BadName ccE_BadName := ⟨⟨⟨nmE_BadName, qE_BadName, NE_BadName, bsE_BadName, bmE_BadName, snE_BadName, subE_BadName, abE_BadName, colE_BadName, ddE_BadName, k0E_BadName, k1E_BadName, k2E_BadName, k3E_BadName, k5E_BadName, lCE_BadName, rvE_BadName⟩, saE_BadName, exCE_BadName, tyCE_BadName, kCE_BadName⟩, ⟨_, _, _, _, _, _, lcdE_BadName, hvsE_BadName, hfileE_BadName⟩, ⟨_, _, _, lccE_BadName⟩, msE_BadName, PySem.W.mg_none_of X G su_, tp_, iniE_BadName, basE_BadName, tpa_⟩
  have hm_BadName := PySem.W.mg_of X G aC_BadName
  have erc_BadName : Erc l.prog w K mg base 1 "BadName" C_BadName eOk_BadName eFl_BadName := Dl.erc_BadName TE_BadName lfE_BadName cfE_BadName tf_E_BadName iCE_BadName hm_BadName no_BadName_name
  have F6 := fun_mk (st := sChE) l6 c6 k6
  have b6 := F6.binds (ps := ["name"]) fun _ _ _ _ _ _ us hl => match us, hl with | [_], _ => rfl
  have cChE := cal_che (P := l.prog) (w := w) (K := K) (mg := mg) (base := base) cIsN erc_BadName T F6 (PySem.W.mg_of X G a6) k6 b6
  have TE_BadNumber : SupK l.prog K mg C_BadNumber cdaE_BadNumber ccE_BadNumber := ⟨⟨⟨nmE_BadNumber, qE_BadNumber, NE_BadNumber, bsE_BadNumber, bmE_BadNumber, snE_BadNumber, subE_BadNumber, abE_BadNumber, colE_BadNumber, ddE_BadNumber, k0E_BadNumber, k1E_BadNumber, k2E_BadNumber, k3E_BadNumber, k5E_BadNumber, lCE_BadNumber, rvE_BadNumber⟩, saE_BadNumber, exCE_BadNumber, tyCE_BadNumber, kCE_BadNumber⟩, ⟨_, _, _, _, _, _, lcdE_BadNumber, hvsE_BadNumber, hfileE_BadNumber⟩, ⟨_, _, _, lccE_BadNumber⟩, msE_BadNumber, PySem.W.mg_none_of X G su_, tp_, iniE_BadNumber, basE_BadNumber, tpa_⟩
  have hm_BadNumber := PySem.W.mg_of X G aC_BadNumber
  have erc_BadNumber : Erc l.prog w K mg base 1 "BadNumber" C_BadNumber eOk_BadNumber eFl_BadNumber := Dl.erc_BadNumber TE_BadNumber lfE_BadNumber cfE_BadNumber tf_E_BadNumber iCE_BadNumber hm_BadNumber no_BadNumber_number
  have F7 := fun_mk (st := sCkM) l7 c7 k7
  have b7 := F7.binds (ps := ["number"]) fun _ _ _ _ _ _ us hl => match us, hl with | [_], _ => rfl
  have cCkM := cal_ckm (P := l.prog) (w := w) (K := K) (mg := mg) (base := base) erc_BadNumber T F7 (PySem.W.mg_of X G a7) k7 b7
  have F8 := fun_mk (st := sWoZ) l8 c8 k8
  have b8 := F8.binds (ps := ["numbers"]) fun _ _ _ _ _ _ us hl => match us, hl with | [_], _ => rfl
  have cwzD := cal_wzD (P := l.prog) (w := w) (K := K) (mg := mg) (base := base)  T F8 (PySem.W.mg_of X G a8) k8 b8
  have cls_Stock : Cls K C_Stock := ⟨pg_Stock, hd_Stock, po_Stock, sa_Stock⟩
  have na_numbers : NoAttr K C_Stock ("_numbers" : Str) := pna_numbers
  have GStock_init := fun_mk1 (st := sSIni) glStock_init gcStock_init
  obtain ⟨daStock_init, raStock_init, gbStock_init⟩ := binds_d (st := sSIni) (ps := ["self", "numbers"]) (dvs := [.non]) 2 1 glStock_init gcStock_init gkStock_init gTStock_init (.cons rfl .nil) (by simp) rfl fun _ _ _ _ _ _ _ us its hl hi => match us, its, hl, hi with | [_, _], [_], _, _ => ⟨_, rfl, rfl⟩
  cases raStock_init
  obtain ⟨dnStock_init, hvStock_init, gbnStock_init⟩ := binds_d (st := sSIni) (ps := ["self", "numbers"]) (dvs := [.non]) 1 0 glStock_init gcStock_init gkStock_init gTStock_init (.cons rfl .nil) (by simp) rfl fun _ _ _ _ _ _ _ us its hl hi => match us, its, hl, hi with | [_], [_], _, _ => ⟨_, rfl, rfl⟩
  have haStock_init : ∀ ι H, Ats K ι H [.non] [.non] := fun ι H => (.cons .non .nil)
  have MStock_init : Mk K C_Stock gStock_init := ⟨mk_Stock, giStock_init, gfStock_init, kC_Stock⟩
  have cstD := mak_stD (P := l.prog) (w := w) (K := K) (mg := mg) (base := base) cls_Stock na_numbers cChE cCkM cwzD T GStock_init (PySem.W.mg_of X G aC_Stock) MStock_init gbStock_init .nil (dds := []) (fun _ _ => .nil)
  have cstDN := mak_stD (P := l.prog) (w := w) (K := K) (mg := mg) (base := base) cls_Stock na_numbers cChE cCkM cwzD T GStock_init (PySem.W.mg_of X G aC_Stock) MStock_init gbnStock_init hvStock_init haStock_init
  have GStock_names := fun_mk1 (st := sSNm) glStock_names gcStock_names
  have gbStock_names := (fun_mk (st := sSNm) glStock_names gcStock_names gkStock_names).binds (ps := ["self"]) fun _ _ _ _ _ _ us hl => match us, hl with | [_], _ => rfl
  have MStock_names : Meth K C_Stock "names" gStock_names := ⟨giStock_names, gfStock_names, gkStock_names⟩
  have cSNm := met_SNm (P := l.prog) (w := w) (K := K) (mg := mg) (base := base) na_numbers T GStock_names cls_Stock MStock_names gbStock_names
  have GStock_getitem := fun_mk1 (st := sSGi) glStock_getitem gcStock_getitem
  have gbStock_getitem := (fun_mk (st := sSGi) glStock_getitem gcStock_getitem gkStock_getitem).binds (ps := ["self", "name"]) fun _ _ _ _ _ _ us hl => match us, hl with | [_, _], _ => rfl
  have MStock_getitem : Meth K C_Stock "__getitem__" gStock_getitem := ⟨giStock_getitem, gfStock_getitem, gkStock_getitem⟩
  have cSGi := met_SGi (P := l.prog) (w := w) (K := K) (mg := mg) (base := base) na_numbers T GStock_getitem cls_Stock MStock_getitem gbStock_getitem
  have GStock_copy := fun_mk1 (st := sSCp) glStock_copy gcStock_copy
  have gbStock_copy := (fun_mk (st := sSCp) glStock_copy gcStock_copy gkStock_copy).binds (ps := ["self"]) fun _ _ _ _ _ _ us hl => match us, hl with | [_], _ => rfl
  have MStock_copy : Meth K C_Stock "copy" gStock_copy := ⟨giStock_copy, gfStock_copy, gkStock_copy⟩
  have cSCpC := met_SCpC (P := l.prog) (w := w) (K := K) (mg := mg) (base := base) na_numbers cstD T GStock_copy cls_Stock MStock_copy gbStock_copy
  have GStock_setitem := fun_mk1 (st := sSSi) glStock_setitem gcStock_setitem
  have gbStock_setitem := (fun_mk (st := sSSi) glStock_setitem gcStock_setitem gkStock_setitem).binds (ps := ["self", "name", "number"]) fun _ _ _ _ _ _ us hl => match us, hl with | [_, _, _], _ => rfl
  have MStock_setitem : Meth K C_Stock "__setitem__" gStock_setitem := ⟨giStock_setitem, gfStock_setitem, gkStock_setitem⟩
  have cSSi := met_SSi (P := l.prog) (w := w) (K := K) (mg := mg) (base := base) cls_Stock na_numbers cChE cCkM cwzD T GStock_setitem cls_Stock MStock_setitem gbStock_setitem
  have TE_Short : SupK l.prog K mg C_Short cdaE_Short ccE_Short := ⟨⟨⟨nmE_Short, qE_Short, NE_Short, bsE_Short, bmE_Short, snE_Short, subE_Short, abE_Short, colE_Short, ddE_Short, k0E_Short, k1E_Short, k2E_Short, k3E_Short, k5E_Short, lCE_Short, rvE_Short⟩, saE_Short, exCE_Short, tyCE_Short, kCE_Short⟩, ⟨_, _, _, _, _, _, lcdE_Short, hvsE_Short, hfileE_Short⟩, ⟨_, _, _, lccE_Short⟩, msE_Short, PySem.W.mg_none_of X G su_, tp_, iniE_Short, basE_Short, tpa_⟩
  have hm_Short := PySem.W.mg_of X G aC_Short
  have erc_Short : Erc l.prog w K mg base 1 "Short" C_Short eOk_Short eFl_Short := Dl.erc_Short TE_Short lfE_Short cfE_Short tf_E_Short iCE_Short hm_Short no_Short_name
  have F9 := fun_mk (st := sSum) l9 c9 k9
  have b9 := F9.binds (ps := ["one", "other"]) fun _ _ _ _ _ _ us hl => match us, hl with | [_, _], _ => rfl
  have cSum := cal_sum (P := l.prog) (w := w) (K := K) (mg := mg) (base := base)  T F9 (PySem.W.mg_of X G a9) k9 b9
  have F10 := fun_mk (st := sDif) l10 c10 k10
  have b10 := F10.binds (ps := ["one", "other"]) fun _ _ _ _ _ _ us hl => match us, hl with | [_, _], _ => rfl
  have cDif := cal_dif (P := l.prog) (w := w) (K := K) (mg := mg) (base := base) cwzD erc_Short T F10 (PySem.W.mg_of X G a10) k10 b10
  have hm_Stock := PySem.W.mg_of X G aC_Stock
  have isC_Stock : IsC K C_Stock := ⟨cls_Stock, ia_Stock, in_, it_, im_Stock⟩
  have GStock_add := fun_mk1 (st := sSAd) glStock_add gcStock_add
  have gbStock_add := (fun_mk (st := sSAd) glStock_add gcStock_add gkStock_add).binds (ps := ["self", "other"]) fun _ _ _ _ _ _ us hl => match us, hl with | [_, _], _ => rfl
  have MStock_add : Meth K C_Stock "__add__" gStock_add := ⟨giStock_add, gfStock_add, gkStock_add⟩
  have cSAd := met_SAd (P := l.prog) (w := w) (K := K) (mg := mg) (base := base) hm_Stock isC_Stock kit_Stock na_numbers cstD cSum T GStock_add cls_Stock MStock_add gbStock_add
  have GStock_sub := fun_mk1 (st := sSSu) glStock_sub gcStock_sub
  have gbStock_sub := (fun_mk (st := sSSu) glStock_sub gcStock_sub gkStock_sub).binds (ps := ["self", "other"]) fun _ _ _ _ _ _ us hl => match us, hl with | [_, _], _ => rfl
  have MStock_sub : Meth K C_Stock "__sub__" gStock_sub := ⟨giStock_sub, gfStock_sub, gkStock_sub⟩
  have cSSu := met_SSu (P := l.prog) (w := w) (K := K) (mg := mg) (base := base) hm_Stock isC_Stock kit_Stock na_numbers cstD cDif T GStock_sub cls_Stock MStock_sub gbStock_sub
  have GStock_iadd := fun_mk1 (st := sSIa) glStock_iadd gcStock_iadd
  have gbStock_iadd := (fun_mk (st := sSIa) glStock_iadd gcStock_iadd gkStock_iadd).binds (ps := ["self", "other"]) fun _ _ _ _ _ _ us hl => match us, hl with | [_, _], _ => rfl
  have MStock_iadd : Meth K C_Stock "__iadd__" gStock_iadd := ⟨giStock_iadd, gfStock_iadd, gkStock_iadd⟩
  have cSIa := met_SIa (P := l.prog) (w := w) (K := K) (mg := mg) (base := base) hm_Stock isC_Stock kit_Stock na_numbers cls_Stock cSum T GStock_iadd cls_Stock MStock_iadd gbStock_iadd
  have GStock_isub := fun_mk1 (st := sSIs) glStock_isub gcStock_isub
  have gbStock_isub := (fun_mk (st := sSIs) glStock_isub gcStock_isub gkStock_isub).binds (ps := ["self", "other"]) fun _ _ _ _ _ _ us hl => match us, hl with | [_, _], _ => rfl
  have MStock_isub : Meth K C_Stock "__isub__" gStock_isub := ⟨giStock_isub, gfStock_isub, gkStock_isub⟩
  have cSIs := met_SIs (P := l.prog) (w := w) (K := K) (mg := mg) (base := base) hm_Stock isC_Stock kit_Stock na_numbers cls_Stock cDif T GStock_isub cls_Stock MStock_isub gbStock_isub
  have GStock_eq := fun_mk1 (st := sSEq) glStock_eq gcStock_eq
  have gbStock_eq := (fun_mk (st := sSEq) glStock_eq gcStock_eq gkStock_eq).binds (ps := ["self", "other"]) fun _ _ _ _ _ _ us hl => match us, hl with | [_, _], _ => rfl
  have MStock_eq : Meth K C_Stock "__eq__" gStock_eq := ⟨giStock_eq, gfStock_eq, gkStock_eq⟩
  have cSEq := met_SEq (P := l.prog) (w := w) (K := K) (mg := mg) (base := base) hm_Stock isC_Stock kit_Stock na_numbers T GStock_eq cls_Stock MStock_eq gbStock_eq
  have cSGif : ∀ f, Meth K C_Stock "__getitem__" f → PySem.W.fnIn K f = true := fun f hf => by
    have e := hf.at_.symm.trans giStock_getitem
    cases e
    exact pcSGif
  have GStock_le := fun_mk1 (st := sSLe) glStock_le gcStock_le
  have gbStock_le := (fun_mk (st := sSLe) glStock_le gcStock_le gkStock_le).binds (ps := ["self", "other"]) fun _ _ _ _ _ _ us hl => match us, hl with | [_, _], _ => rfl
  have MStock_le : Meth K C_Stock "__le__" gStock_le := ⟨giStock_le, gfStock_le, gkStock_le⟩
  have cSLe := met_SLe (P := l.prog) (w := w) (K := K) (mg := mg) (base := base) cls_Stock hm_Stock isC_Stock kit_Stock na_numbers cSGi cSGif T GStock_le cls_Stock MStock_le gbStock_le
  have F11 := fun_mk (st := sMixed) l11 c11 k11
  have b11 := F11.binds (ps := ["_law_stream", "_law_some"]) fun _ _ _ _ _ _ us hl => match us, hl with | [_, _], _ => rfl
  have cM := cal_mixed (P := l.prog) (w := w) (K := K) (mg := mg) (base := base) cD T F11 (PySem.W.mg_of X G a11) k11 b11
  have F12 := fun_mk (st := sLNm) l12 c12 k12
  have b12 := F12.binds (ps := ["_law_stream", "_law_names_here"]) fun _ _ _ _ _ _ us hl => match us, hl with | [_, _], _ => rfl
  have cLNm := cal_lnm (P := l.prog) (w := w) (K := K) (mg := mg) (base := base) cD cM T F12 (PySem.W.mg_of X G a12) k12 b12
  have xf_Short : XfC K C_Short := xfB_ok pxf_Short
  have F13 := fun_mk (st := sLLs) l13 c13 k13
  have b13 := F13.binds (ps := ["_law_one", "_law_other"]) fun _ _ _ _ _ _ us hl => match us, hl with | [_, _], _ => rfl
  have cLLs := cal_lls (P := l.prog) (w := w) (K := K) (mg := mg) (base := base) hm_Short xf_Short no_Short_name exm_Short isC_Stock sf_Stock cSSu T F13 (PySem.W.mg_of X G a13) k13 b13
  have F14 := fun_mk (st := sLLd) l14 c14 k14
  have b14 := F14.binds (ps := ["_law_one", "_law_other"]) fun _ _ _ _ _ _ us hl => match us, hl with | [_, _], _ => rfl
  have cLLd := cal_lld (P := l.prog) (w := w) (K := K) (mg := mg) (base := base) hm_Short xf_Short no_Short_name exm_Short sf_Stock cSIs T F14 (PySem.W.mg_of X G a14) k14 b14
  have F15 := fun_mk (st := sLSr) l15 c15 k15
  have b15 := F15.binds (ps := ["_law_names_here", "_law_one", "_law_other"]) fun _ _ _ _ _ _ us hl => match us, hl with | [_, _, _], _ => rfl
  have cLSr := cal_lsr (P := l.prog) (w := w) (K := K) (mg := mg) (base := base)  T F15 (PySem.W.mg_of X G a15) k15 b15
  have F16 := fun_mk (st := sLSh) l16 c16 k16
  have b16 := F16.binds (ps := ["_law_stock", "_law_names_here", "_law_numbers_here"]) fun _ _ _ _ _ _ us hl => match us, hl with | [_, _, _], _ => rfl
  have cLSh := cal_lsh (P := l.prog) (w := w) (K := K) (mg := mg) (base := base) hm_Stock isC_Stock kit_Stock cSm cSGi cSGif T F16 (PySem.W.mg_of X G a16) k16 b16
  have F17 := fun_mk (st := sLCr) l17 c17 k17
  have b17 := F17.binds (ps := ["_law_names_here", "_law_left", "_law_right"]) fun _ _ _ _ _ _ us hl => match us, hl with | [_, _, _], _ => rfl
  have cLCr := cal_lcr (P := l.prog) (w := w) (K := K) (mg := mg) (base := base) isC_Stock sf_Stock hnq cstDN cSAd cSSu cSSi T F17 (PySem.W.mg_of X G a17) k17 b17
  have F18 := fun_mk (st := sLGr) l18 c18 k18
  have b18 := F18.binds (ps := ["_law_names_here", "_law_left", "_law_right", "_law_total"]) fun _ _ _ _ _ _ us hl => match us, hl with | [_, _, _, _], _ => rfl
  have cLGr := cal_lgr (P := l.prog) (w := w) (K := K) (mg := mg) (base := base) isC_Stock sf_Stock hnq cSCpC cSAd cSIa cSSi cLSh T F18 (PySem.W.mg_of X G a18) k18 b18
  have F19 := fun_mk (st := sLWi) l19 c19 k19
  have b19 := F19.binds (ps := ["_law_names_here", "_law_numbers_here"]) fun _ _ _ _ _ _ us hl => match us, hl with | [_, _], _ => rfl
  have cLWi := cal_lwi (P := l.prog) (w := w) (K := K) (mg := mg) (base := base) isC_Stock sf_Stock nfS cstD cSAd cSSu cSIa cSIs cSLe cSNm cLSh T F19 (PySem.W.mg_of X G a19) k19 b19
  have F20 := fun_mk (st := sLaw) l20 c20 k20
  have b20 := F20.binds (ps := ["_law_script"]) fun _ _ _ _ _ _ us hl => match us, hl with | [_], _ => rfl
  exact cal_law isC_Stock sf_Stock nfS cD cNs cSm cLNm cLSr cLGr cLLs cLLd cLSh cLCr cLWi cstD cSCpC cSAd cSSu cSEq T F20 hfa k20 b20
theorem all_told {w : World} {K : PySem.W.Frag} {h : Heap} {mg : Str → Option Value} {fa : Addr} (X : K.In h) (G : h.Ns mainGlobals mg) (hfa : mg "law" = some (.ref fa)) (c : Told tXs tFs K) :
    ∃ fd : FuncData, (∀ (s : Shared) (v : Value), BindsTo s fd ⟨[v], []⟩ [("_law_script", v)]) ∧ ∀ base : Heap, K.In base → base.Ns mainGlobals mg → FnG PySem.Challenge.rw_noneorsome_k23_stocks_reckoned.prog w K mg base (L2.CX PySem.Challenge.rw_noneorsome_k23_stocks_reckoned.prog w) 12 fa fd ["_law_script"] (spD K FLaw) := by
  have a0 := of_dec (show (decide (PySem.W.nsIn K mainGlobals "_law_draw" = some (some (.ref (gA "_law_draw" K))))) = true from c.ex 0 (f := fun K => decide (PySem.W.nsIn K mainGlobals "_law_draw" = some (some (.ref (gA "_law_draw" K))))))
  obtain ⟨_, _, _, _, _, _, _, _, _, l0, c0⟩ := c.pl 0
  have k0 := (show (PySem.W.keepIn K (.ref (gA "_law_draw" K))) = true from c.ex 1 (f := fun K => PySem.W.keepIn K (.ref (gA "_law_draw" K))))
  have a1 := of_dec (show (decide (PySem.W.nsIn K mainGlobals "_law_same" = some (some (.ref (gA "_law_same" K))))) = true from c.ex 2 (f := fun K => decide (PySem.W.nsIn K mainGlobals "_law_same" = some (some (.ref (gA "_law_same" K))))))
  obtain ⟨_, _, _, _, _, _, _, _, _, l1, c1⟩ := c.pl 1
  have k1 := (show (PySem.W.keepIn K (.ref (gA "_law_same" K))) = true from c.ex 3 (f := fun K => PySem.W.keepIn K (.ref (gA "_law_same" K))))
  have a2 := of_dec (show (decide (PySem.W.nsIn K mainGlobals "_law_name" = some (some (.ref (gA "_law_name" K))))) = true from c.ex 4 (f := fun K => decide (PySem.W.nsIn K mainGlobals "_law_name" = some (some (.ref (gA "_law_name" K))))))
  obtain ⟨_, _, _, _, _, _, _, _, _, l2, c2⟩ := c.pl 2
  have k2 := (show (PySem.W.keepIn K (.ref (gA "_law_name" K))) = true from c.ex 5 (f := fun K => PySem.W.keepIn K (.ref (gA "_law_name" K))))
  have a3 := of_dec (show (decide (PySem.W.nsIn K mainGlobals "_law_names" = some (some (.ref (gA "_law_names" K))))) = true from c.ex 6 (f := fun K => decide (PySem.W.nsIn K mainGlobals "_law_names" = some (some (.ref (gA "_law_names" K))))))
  obtain ⟨_, _, _, _, _, _, _, _, _, l3, c3⟩ := c.pl 3
  have k3 := (show (PySem.W.keepIn K (.ref (gA "_law_names" K))) = true from c.ex 7 (f := fun K => PySem.W.keepIn K (.ref (gA "_law_names" K))))
  have a4 := of_dec (show (decide (PySem.W.nsIn K mainGlobals "is_letter" = some (some (.ref (gA "is_letter" K))))) = true from c.ex 8 (f := fun K => decide (PySem.W.nsIn K mainGlobals "is_letter" = some (some (.ref (gA "is_letter" K))))))
  obtain ⟨_, _, _, _, _, _, _, _, _, l4, c4⟩ := c.pl 4
  have k4 := (show (PySem.W.keepIn K (.ref (gA "is_letter" K))) = true from c.ex 9 (f := fun K => PySem.W.keepIn K (.ref (gA "is_letter" K))))
  have ac_RESERVED := of_dec (show (decide (PySem.W.nsIn K mainGlobals "RESERVED" = some (some (.ref (gA "RESERVED" K))))) = true from c.ex 10 (f := fun K => decide (PySem.W.nsIn K mainGlobals "RESERVED" = some (some (.ref (gA "RESERVED" K))))))
  obtain ⟨_, _, _, _, lc_RESERVED, zc_RESERVED, vc_RESERVED⟩ := tupB_ok (show (tupB (gA "RESERVED" K) (Reserved.map V.str) K) = true from c.ex 11 (f := fun K => tupB (gA "RESERVED" K) (Reserved.map V.str) K))
  obtain ⟨_, ac_LONGEST⟩ := intB_ok (show (intB "LONGEST" 8 K) = true from c.ex 12 (f := intB "LONGEST" 8))
  have a5 := of_dec (show (decide (PySem.W.nsIn K mainGlobals "is_name" = some (some (.ref (gA "is_name" K))))) = true from c.ex 13 (f := fun K => decide (PySem.W.nsIn K mainGlobals "is_name" = some (some (.ref (gA "is_name" K))))))
  obtain ⟨_, _, _, _, _, _, _, _, _, l5, c5⟩ := c.pl 5
  have k5 := (show (PySem.W.keepIn K (.ref (gA "is_name" K))) = true from c.ex 14 (f := fun K => PySem.W.keepIn K (.ref (gA "is_name" K))))
  have aC_BadName := of_dec (show (decide (PySem.W.nsIn K mainGlobals "BadName" = some (some (.ref (gA "BadName" K))))) = true from c.ex 15 (f := fun K => decide (PySem.W.nsIn K mainGlobals "BadName" = some (some (.ref (gA "BadName" K))))))
  obtain ⟨_, _, _, _, _, _, _, _, _, _, _, _, _, _, _, lCE_BadName, rvE_BadName⟩ := excB_ok (show (excB (gA "BadName" K) K) = true from c.ex 16 (f := fun K => excB (gA "BadName" K) K))
  have saE_BadName := of_dec (show (decide (PySem.W.findIn K (.ref (gA "BadName" K)) "__setattr__" = some (some (.builtin "object.__setattr__")))) = true from c.ex 17 (f := fun K => decide (PySem.W.findIn K (.ref (gA "BadName" K)) "__setattr__" = some (some (.builtin "object.__setattr__")))))
  have exCE_BadName := of_dec (show (decide (PySem.W.subIn K (.ref (gA "BadName" K)) (.type "BaseException") = some true)) = true from c.ex 18 (f := fun K => decide (PySem.W.subIn K (.ref (gA "BadName" K)) (.type "BaseException") = some true)))
  have tyCE_BadName := of_dec (show (decide (PySem.W.typeIn K (.ref (gA "BadName" K)) = some (.type "type"))) = true from c.ex 19 (f := fun K => decide (PySem.W.typeIn K (.ref (gA "BadName" K)) = some (.type "type"))))
  have kCE_BadName := (show (PySem.W.keepIn K (.ref (gA "BadName" K))) = true from c.ex 20 (f := fun K => PySem.W.keepIn K (.ref (gA "BadName" K))))
  have iCE_BadName := of_dec (show (decide (PySem.W.findIn K (.ref (gA "BadName" K)) "__init__" = some (some (.ref (mA "BadName" "__init__" K))))) = true from c.ex 21 (f := fun K => decide (PySem.W.findIn K (.ref (gA "BadName" K)) "__init__" = some (some (.ref (mA "BadName" "__init__" K))))))
  obtain ⟨_, _, _, _, _, _, _, _, lfE_BadName, cfE_BadName⟩ := c.err 6 22
  have tf_E_BadName := of_dec (show (decide (PySem.W.typeIn K (.ref (mA "BadName" "__init__" K)) = some (.type "function"))) = true from c.ex 23 (f := fun K => decide (PySem.W.typeIn K (.ref (mA "BadName" "__init__" K)) = some (.type "function"))))
  obtain ⟨_, _, _, _, _, _, lcdE_BadName, hvsE_BadName, hfileE_BadName⟩ := fileB_ok (show (fileB PySem.Challenge.rw_noneorsome_k23_stocks_reckoned.prog (codeAt (mA "BadName" "__init__") K) K) = true from c.ex 24 (f := fun K => fileB PySem.Challenge.rw_noneorsome_k23_stocks_reckoned.prog (codeAt (mA "BadName" "__init__") K) K))
  obtain ⟨_, _, _, lccE_BadName⟩ := cellB_ok (show (cellB (cellAt (mA "BadName" "__init__") K) (gA "BadName" K) K) = true from c.ex 25 (f := fun K => cellB (cellAt (mA "BadName" "__init__") K) (gA "BadName" K) K))
  have msE_BadName := of_dec (show (decide (PySem.W.mroIn K (gA "BadName" K) (.ref (gA "BadName" K)) = some true)) = true from c.ex 26 (f := fun K => decide (PySem.W.mroIn K (gA "BadName" K) (.ref (gA "BadName" K)) = some true)))
  have su_ := of_dec (show (decide (PySem.W.nsIn K mainGlobals "super" = some none)) = true from c.ex 27 (f := fun K => decide (PySem.W.nsIn K mainGlobals "super" = some none)))
  have tp_ : (PySem.Challenge.rw_noneorsome_k23_stocks_reckoned.prog.main.scope.names.lookup ("super" : Str)).isSome = false := by first | rfl | decide +kernel
  have iniE_BadName := of_dec (show (decide (PySem.W.ks_superIn K (gA "BadName" K) (gA "BadName" K) "__init__" = some (some (.builtin "ValueError.__init__")))) = true from c.ex 28 (f := fun K => decide (PySem.W.ks_superIn K (gA "BadName" K) (gA "BadName" K) "__init__" = some (some (.builtin "ValueError.__init__")))))
  have basE_BadName := of_dec (show (decide (PySem.W.subIn K (.ref (gA "BadName" K)) (.type "ValueError") = some true)) = true from c.ex 29 (f := fun K => decide (PySem.W.subIn K (.ref (gA "BadName" K)) (.type "ValueError") = some true)))
  have tpa_ := of_dec (show (decide (PySem.W.nsIn K cStatics "thirdparty.any" = some none)) = true from c.ex 30 (f := fun K => decide (PySem.W.nsIn K cStatics "thirdparty.any" = some none)))
  have no_BadName_name := of_dec (show (decide (PySem.W.findIn K (.ref (gA "BadName" K)) "name" = some none)) = true from c.ex 31 (f := fun K => decide (PySem.W.findIn K (.ref (gA "BadName" K)) "name" = some none)))
  have a6 := of_dec (show (decide (PySem.W.nsIn K mainGlobals "check_name" = some (some (.ref (gA "check_name" K))))) = true from c.ex 32 (f := fun K => decide (PySem.W.nsIn K mainGlobals "check_name" = some (some (.ref (gA "check_name" K))))))
  obtain ⟨_, _, _, _, _, _, _, _, _, l6, c6⟩ := c.pl 7
  have k6 := (show (PySem.W.keepIn K (.ref (gA "check_name" K))) = true from c.ex 33 (f := fun K => PySem.W.keepIn K (.ref (gA "check_name" K))))
  have aC_BadNumber := of_dec (show (decide (PySem.W.nsIn K mainGlobals "BadNumber" = some (some (.ref (gA "BadNumber" K))))) = true from c.ex 34 (f := fun K => decide (PySem.W.nsIn K mainGlobals "BadNumber" = some (some (.ref (gA "BadNumber" K))))))
  obtain ⟨_, _, _, _, _, _, _, _, _, _, _, _, _, _, _, lCE_BadNumber, rvE_BadNumber⟩ := excB_ok (show (excB (gA "BadNumber" K) K) = true from c.ex 35 (f := fun K => excB (gA "BadNumber" K) K))
  have saE_BadNumber := of_dec (show (decide (PySem.W.findIn K (.ref (gA "BadNumber" K)) "__setattr__" = some (some (.builtin "object.__setattr__")))) = true from c.ex 36 (f := fun K => decide (PySem.W.findIn K (.ref (gA "BadNumber" K)) "__setattr__" = some (some (.builtin "object.__setattr__")))))
  have exCE_BadNumber := of_dec (show (decide (PySem.W.subIn K (.ref (gA "BadNumber" K)) (.type "BaseException") = some true)) = true from c.ex 37 (f := fun K => decide (PySem.W.subIn K (.ref (gA "BadNumber" K)) (.type "BaseException") = some true)))
  have tyCE_BadNumber := of_dec (show (decide (PySem.W.typeIn K (.ref (gA "BadNumber" K)) = some (.type "type"))) = true from c.ex 38 (f := fun K => decide (PySem.W.typeIn K (.ref (gA "BadNumber" K)) = some (.type "type"))))
  have kCE_BadNumber := (show (PySem.W.keepIn K (.ref (gA "BadNumber" K))) = true from c.ex 39 (f := fun K => PySem.W.keepIn K (.ref (gA "BadNumber" K))))
  have iCE_BadNumber := of_dec (show (decide (PySem.W.findIn K (.ref (gA "BadNumber" K)) "__init__" = some (some (.ref (mA "BadNumber" "__init__" K))))) = true from c.ex 40 (f := fun K => decide (PySem.W.findIn K (.ref (gA "BadNumber" K)) "__init__" = some (some (.ref (mA "BadNumber" "__init__" K))))))
  obtain ⟨_, _, _, _, _, _, _, _, lfE_BadNumber, cfE_BadNumber⟩ := c.err 8 41
  have tf_E_BadNumber := of_dec (show (decide (PySem.W.typeIn K (.ref (mA "BadNumber" "__init__" K)) = some (.type "function"))) = true from c.ex 42 (f := fun K => decide (PySem.W.typeIn K (.ref (mA "BadNumber" "__init__" K)) = some (.type "function"))))
  obtain ⟨_, _, _, _, _, _, lcdE_BadNumber, hvsE_BadNumber, hfileE_BadNumber⟩ := fileB_ok (show (fileB PySem.Challenge.rw_noneorsome_k23_stocks_reckoned.prog (codeAt (mA "BadNumber" "__init__") K) K) = true from c.ex 43 (f := fun K => fileB PySem.Challenge.rw_noneorsome_k23_stocks_reckoned.prog (codeAt (mA "BadNumber" "__init__") K) K))
  obtain ⟨_, _, _, lccE_BadNumber⟩ := cellB_ok (show (cellB (cellAt (mA "BadNumber" "__init__") K) (gA "BadNumber" K) K) = true from c.ex 44 (f := fun K => cellB (cellAt (mA "BadNumber" "__init__") K) (gA "BadNumber" K) K))
  have msE_BadNumber := of_dec (show (decide (PySem.W.mroIn K (gA "BadNumber" K) (.ref (gA "BadNumber" K)) = some true)) = true from c.ex 45 (f := fun K => decide (PySem.W.mroIn K (gA "BadNumber" K) (.ref (gA "BadNumber" K)) = some true)))
  have iniE_BadNumber := of_dec (show (decide (PySem.W.ks_superIn K (gA "BadNumber" K) (gA "BadNumber" K) "__init__" = some (some (.builtin "ValueError.__init__")))) = true from c.ex 46 (f := fun K => decide (PySem.W.ks_superIn K (gA "BadNumber" K) (gA "BadNumber" K) "__init__" = some (some (.builtin "ValueError.__init__")))))
  have basE_BadNumber := of_dec (show (decide (PySem.W.subIn K (.ref (gA "BadNumber" K)) (.type "ValueError") = some true)) = true from c.ex 47 (f := fun K => decide (PySem.W.subIn K (.ref (gA "BadNumber" K)) (.type "ValueError") = some true)))
  have no_BadNumber_number := of_dec (show (decide (PySem.W.findIn K (.ref (gA "BadNumber" K)) "number" = some none)) = true from c.ex 48 (f := fun K => decide (PySem.W.findIn K (.ref (gA "BadNumber" K)) "number" = some none)))
  have a7 := of_dec (show (decide (PySem.W.nsIn K mainGlobals "check_number" = some (some (.ref (gA "check_number" K))))) = true from c.ex 49 (f := fun K => decide (PySem.W.nsIn K mainGlobals "check_number" = some (some (.ref (gA "check_number" K))))))
  obtain ⟨_, _, _, _, _, _, _, _, _, l7, c7⟩ := c.pl 9
  have k7 := (show (PySem.W.keepIn K (.ref (gA "check_number" K))) = true from c.ex 50 (f := fun K => PySem.W.keepIn K (.ref (gA "check_number" K))))
  have a8 := of_dec (show (decide (PySem.W.nsIn K mainGlobals "without_zeros" = some (some (.ref (gA "without_zeros" K))))) = true from c.ex 51 (f := fun K => decide (PySem.W.nsIn K mainGlobals "without_zeros" = some (some (.ref (gA "without_zeros" K))))))
  obtain ⟨_, _, _, _, _, _, _, _, _, l8, c8⟩ := c.pl 10
  have k8 := (show (PySem.W.keepIn K (.ref (gA "without_zeros" K))) = true from c.ex 52 (f := fun K => PySem.W.keepIn K (.ref (gA "without_zeros" K))))
  have aC_Stock := of_dec (show (decide (PySem.W.nsIn K mainGlobals "Stock" = some (some (.ref (gA "Stock" K))))) = true from c.ex 53 (f := fun K => decide (PySem.W.nsIn K mainGlobals "Stock" = some (some (.ref (gA "Stock" K))))))
  have pg_Stock := (show (PySem.W.plainGet K (gA "Stock" K) Str.empty) = true from c.ex 54 (f := fun K => PySem.W.plainGet K (gA "Stock" K) Str.empty))
  have hd_Stock := (show (PySem.W.hasDictIn K (gA "Stock" K)) = true from c.ex 55 (f := fun K => PySem.W.hasDictIn K (gA "Stock" K)))
  have po_Stock := (show (PySem.W.plainOver K (gA "Stock" K)) = true from c.ex 56 (f := fun K => PySem.W.plainOver K (gA "Stock" K)))
  have sa_Stock := of_dec (show (decide (PySem.W.findIn K (.ref (gA "Stock" K)) "__setattr__" = some (some (.builtin "object.__setattr__")))) = true from c.ex 57 (f := fun K => decide (PySem.W.findIn K (.ref (gA "Stock" K)) "__setattr__" = some (some (.builtin "object.__setattr__")))))
  have pna_numbers := of_dec (show (decide (PySem.W.findIn K (.ref (gA "Stock" K)) "_numbers" = some none)) = true from c.ex 58 (f := fun K => decide (PySem.W.findIn K (.ref (gA "Stock" K)) "_numbers" = some none)))
  have giStock_init := of_dec (show (decide (PySem.W.findIn K (.ref (gA "Stock" K)) "__init__" = some (some (.ref (mA "Stock" "__init__" K))))) = true from c.ex 59 (f := fun K => decide (PySem.W.findIn K (.ref (gA "Stock" K)) "__init__" = some (some (.ref (mA "Stock" "__init__" K))))))
  obtain ⟨_, _, _, _, _, _, _, _, _, glStock_init, gcStock_init⟩ := c.pl 11
  have gfStock_init := (show (PySem.W.isFn K (.ref (mA "Stock" "__init__" K))) = true from c.ex 60 (f := fun K => PySem.W.isFn K (.ref (mA "Stock" "__init__" K))))
  have gkStock_init := (show (PySem.W.keepIn K (.ref (mA "Stock" "__init__" K))) = true from c.ex 61 (f := fun K => PySem.W.keepIn K (.ref (mA "Stock" "__init__" K))))
  obtain ⟨_, _, _, gTStock_init⟩ := tupVB_ok (show (tupVB (dflAt (mA "Stock" "__init__") K) [.none] K) = true from c.ex 62 (f := fun K => tupVB (dflAt (mA "Stock" "__init__") K) [.none] K))
  have mk_Stock := (show (PySem.W.makesIn K (gA "Stock" K)) = true from c.ex 63 (f := fun K => PySem.W.makesIn K (gA "Stock" K)))
  have kC_Stock := (show (PySem.W.keepIn K (.ref (gA "Stock" K))) = true from c.ex 64 (f := fun K => PySem.W.keepIn K (.ref (gA "Stock" K))))
  have giStock_names := of_dec (show (decide (PySem.W.findIn K (.ref (gA "Stock" K)) "names" = some (some (.ref (mA "Stock" "names" K))))) = true from c.ex 65 (f := fun K => decide (PySem.W.findIn K (.ref (gA "Stock" K)) "names" = some (some (.ref (mA "Stock" "names" K))))))
  obtain ⟨_, _, _, _, _, _, _, _, _, glStock_names, gcStock_names⟩ := c.pl 12
  have gfStock_names := (show (PySem.W.isFn K (.ref (mA "Stock" "names" K))) = true from c.ex 66 (f := fun K => PySem.W.isFn K (.ref (mA "Stock" "names" K))))
  have gkStock_names := (show (PySem.W.keepIn K (.ref (mA "Stock" "names" K))) = true from c.ex 67 (f := fun K => PySem.W.keepIn K (.ref (mA "Stock" "names" K))))
  have giStock_getitem := of_dec (show (decide (PySem.W.findIn K (.ref (gA "Stock" K)) "__getitem__" = some (some (.ref (mA "Stock" "__getitem__" K))))) = true from c.ex 68 (f := fun K => decide (PySem.W.findIn K (.ref (gA "Stock" K)) "__getitem__" = some (some (.ref (mA "Stock" "__getitem__" K))))))
  obtain ⟨_, _, _, _, _, _, _, _, _, glStock_getitem, gcStock_getitem⟩ := c.pl 13
  have gfStock_getitem := (show (PySem.W.isFn K (.ref (mA "Stock" "__getitem__" K))) = true from c.ex 69 (f := fun K => PySem.W.isFn K (.ref (mA "Stock" "__getitem__" K))))
  have gkStock_getitem := (show (PySem.W.keepIn K (.ref (mA "Stock" "__getitem__" K))) = true from c.ex 70 (f := fun K => PySem.W.keepIn K (.ref (mA "Stock" "__getitem__" K))))
  have giStock_copy := of_dec (show (decide (PySem.W.findIn K (.ref (gA "Stock" K)) "copy" = some (some (.ref (mA "Stock" "copy" K))))) = true from c.ex 71 (f := fun K => decide (PySem.W.findIn K (.ref (gA "Stock" K)) "copy" = some (some (.ref (mA "Stock" "copy" K))))))
  obtain ⟨_, _, _, _, _, _, _, _, _, glStock_copy, gcStock_copy⟩ := c.pl 14
  have gfStock_copy := (show (PySem.W.isFn K (.ref (mA "Stock" "copy" K))) = true from c.ex 72 (f := fun K => PySem.W.isFn K (.ref (mA "Stock" "copy" K))))
  have gkStock_copy := (show (PySem.W.keepIn K (.ref (mA "Stock" "copy" K))) = true from c.ex 73 (f := fun K => PySem.W.keepIn K (.ref (mA "Stock" "copy" K))))
  have giStock_setitem := of_dec (show (decide (PySem.W.findIn K (.ref (gA "Stock" K)) "__setitem__" = some (some (.ref (mA "Stock" "__setitem__" K))))) = true from c.ex 74 (f := fun K => decide (PySem.W.findIn K (.ref (gA "Stock" K)) "__setitem__" = some (some (.ref (mA "Stock" "__setitem__" K))))))
  obtain ⟨_, _, _, _, _, _, _, _, _, glStock_setitem, gcStock_setitem⟩ := c.pl 15
  have gfStock_setitem := (show (PySem.W.isFn K (.ref (mA "Stock" "__setitem__" K))) = true from c.ex 75 (f := fun K => PySem.W.isFn K (.ref (mA "Stock" "__setitem__" K))))
  have gkStock_setitem := (show (PySem.W.keepIn K (.ref (mA "Stock" "__setitem__" K))) = true from c.ex 76 (f := fun K => PySem.W.keepIn K (.ref (mA "Stock" "__setitem__" K))))
  have aC_Short := of_dec (show (decide (PySem.W.nsIn K mainGlobals "Short" = some (some (.ref (gA "Short" K))))) = true from c.ex 77 (f := fun K => decide (PySem.W.nsIn K mainGlobals "Short" = some (some (.ref (gA "Short" K))))))
  obtain ⟨_, _, _, _, _, _, _, _, _, _, _, _, _, _, _, lCE_Short, rvE_Short⟩ := excB_ok (show (excB (gA "Short" K) K) = true from c.ex 78 (f := fun K => excB (gA "Short" K) K))
  have saE_Short := of_dec (show (decide (PySem.W.findIn K (.ref (gA "Short" K)) "__setattr__" = some (some (.builtin "object.__setattr__")))) = true from c.ex 79 (f := fun K => decide (PySem.W.findIn K (.ref (gA "Short" K)) "__setattr__" = some (some (.builtin "object.__setattr__")))))
  have exCE_Short := of_dec (show (decide (PySem.W.subIn K (.ref (gA "Short" K)) (.type "BaseException") = some true)) = true from c.ex 80 (f := fun K => decide (PySem.W.subIn K (.ref (gA "Short" K)) (.type "BaseException") = some true)))
  have tyCE_Short := of_dec (show (decide (PySem.W.typeIn K (.ref (gA "Short" K)) = some (.type "type"))) = true from c.ex 81 (f := fun K => decide (PySem.W.typeIn K (.ref (gA "Short" K)) = some (.type "type"))))
  have kCE_Short := (show (PySem.W.keepIn K (.ref (gA "Short" K))) = true from c.ex 82 (f := fun K => PySem.W.keepIn K (.ref (gA "Short" K))))
  have iCE_Short := of_dec (show (decide (PySem.W.findIn K (.ref (gA "Short" K)) "__init__" = some (some (.ref (mA "Short" "__init__" K))))) = true from c.ex 83 (f := fun K => decide (PySem.W.findIn K (.ref (gA "Short" K)) "__init__" = some (some (.ref (mA "Short" "__init__" K))))))
  obtain ⟨_, _, _, _, _, _, _, _, lfE_Short, cfE_Short⟩ := c.err 16 84
  have tf_E_Short := of_dec (show (decide (PySem.W.typeIn K (.ref (mA "Short" "__init__" K)) = some (.type "function"))) = true from c.ex 85 (f := fun K => decide (PySem.W.typeIn K (.ref (mA "Short" "__init__" K)) = some (.type "function"))))
  obtain ⟨_, _, _, _, _, _, lcdE_Short, hvsE_Short, hfileE_Short⟩ := fileB_ok (show (fileB PySem.Challenge.rw_noneorsome_k23_stocks_reckoned.prog (codeAt (mA "Short" "__init__") K) K) = true from c.ex 86 (f := fun K => fileB PySem.Challenge.rw_noneorsome_k23_stocks_reckoned.prog (codeAt (mA "Short" "__init__") K) K))
  obtain ⟨_, _, _, lccE_Short⟩ := cellB_ok (show (cellB (cellAt (mA "Short" "__init__") K) (gA "Short" K) K) = true from c.ex 87 (f := fun K => cellB (cellAt (mA "Short" "__init__") K) (gA "Short" K) K))
  have msE_Short := of_dec (show (decide (PySem.W.mroIn K (gA "Short" K) (.ref (gA "Short" K)) = some true)) = true from c.ex 88 (f := fun K => decide (PySem.W.mroIn K (gA "Short" K) (.ref (gA "Short" K)) = some true)))
  have iniE_Short := of_dec (show (decide (PySem.W.ks_superIn K (gA "Short" K) (gA "Short" K) "__init__" = some (some (.builtin "ValueError.__init__")))) = true from c.ex 89 (f := fun K => decide (PySem.W.ks_superIn K (gA "Short" K) (gA "Short" K) "__init__" = some (some (.builtin "ValueError.__init__")))))
  have basE_Short := of_dec (show (decide (PySem.W.subIn K (.ref (gA "Short" K)) (.type "ValueError") = some true)) = true from c.ex 90 (f := fun K => decide (PySem.W.subIn K (.ref (gA "Short" K)) (.type "ValueError") = some true)))
  have no_Short_name := of_dec (show (decide (PySem.W.findIn K (.ref (gA "Short" K)) "name" = some none)) = true from c.ex 91 (f := fun K => decide (PySem.W.findIn K (.ref (gA "Short" K)) "name" = some none)))
  have a9 := of_dec (show (decide (PySem.W.nsIn K mainGlobals "sums_of" = some (some (.ref (gA "sums_of" K))))) = true from c.ex 92 (f := fun K => decide (PySem.W.nsIn K mainGlobals "sums_of" = some (some (.ref (gA "sums_of" K))))))
  obtain ⟨_, _, _, _, _, _, _, _, _, l9, c9⟩ := c.pl 17
  have k9 := (show (PySem.W.keepIn K (.ref (gA "sums_of" K))) = true from c.ex 93 (f := fun K => PySem.W.keepIn K (.ref (gA "sums_of" K))))
  have a10 := of_dec (show (decide (PySem.W.nsIn K mainGlobals "differences_of" = some (some (.ref (gA "differences_of" K))))) = true from c.ex 94 (f := fun K => decide (PySem.W.nsIn K mainGlobals "differences_of" = some (some (.ref (gA "differences_of" K))))))
  obtain ⟨_, _, _, _, _, _, _, _, _, l10, c10⟩ := c.pl 18
  have k10 := (show (PySem.W.keepIn K (.ref (gA "differences_of" K))) = true from c.ex 95 (f := fun K => PySem.W.keepIn K (.ref (gA "differences_of" K))))
  have ia_Stock := of_dec (show (decide (PySem.W.findIn K (.ref (gA "Stock" K)) "__class__" = some (some (.builtin "object.__class__")))) = true from c.ex 96 (f := fun K => decide (PySem.W.findIn K (.ref (gA "Stock" K)) "__class__" = some (some (.builtin "object.__class__")))))
  have in_ := of_dec (show (decide (PySem.W.specialIn K (.builtin "object.__class__") "__get__" = some (some (.builtin "getset_descriptor.__get__")))) = true from c.ex 97 (f := fun K => decide (PySem.W.specialIn K (.builtin "object.__class__") "__get__" = some (some (.builtin "getset_descriptor.__get__")))))
  have it_ := of_dec (show (decide (PySem.W.takesIn K (.builtin "object.__class__") = some true)) = true from c.ex 98 (f := fun K => decide (PySem.W.takesIn K (.builtin "object.__class__") = some true)))
  have im_Stock := of_dec (show (decide (PySem.W.mroIn K (gA "Stock" K) (.type "object") = some true)) = true from c.ex 99 (f := fun K => decide (PySem.W.mroIn K (gA "Stock" K) (.type "object") = some true)))
  have kit_Stock := of_dec (show (decide (PySem.W.kitOne K (.ref (gA "Stock" K)) (.ref (gA "Stock" K)) = some true)) = true from c.ex 100 (f := fun K => decide (PySem.W.kitOne K (.ref (gA "Stock" K)) (.ref (gA "Stock" K)) = some true)))
  have giStock_add := of_dec (show (decide (PySem.W.findIn K (.ref (gA "Stock" K)) "__add__" = some (some (.ref (mA "Stock" "__add__" K))))) = true from c.ex 101 (f := fun K => decide (PySem.W.findIn K (.ref (gA "Stock" K)) "__add__" = some (some (.ref (mA "Stock" "__add__" K))))))
  obtain ⟨_, _, _, _, _, _, _, _, _, glStock_add, gcStock_add⟩ := c.pl 19
  have gfStock_add := (show (PySem.W.isFn K (.ref (mA "Stock" "__add__" K))) = true from c.ex 102 (f := fun K => PySem.W.isFn K (.ref (mA "Stock" "__add__" K))))
  have gkStock_add := (show (PySem.W.keepIn K (.ref (mA "Stock" "__add__" K))) = true from c.ex 103 (f := fun K => PySem.W.keepIn K (.ref (mA "Stock" "__add__" K))))
  have giStock_sub := of_dec (show (decide (PySem.W.findIn K (.ref (gA "Stock" K)) "__sub__" = some (some (.ref (mA "Stock" "__sub__" K))))) = true from c.ex 104 (f := fun K => decide (PySem.W.findIn K (.ref (gA "Stock" K)) "__sub__" = some (some (.ref (mA "Stock" "__sub__" K))))))
  obtain ⟨_, _, _, _, _, _, _, _, _, glStock_sub, gcStock_sub⟩ := c.pl 20
  have gfStock_sub := (show (PySem.W.isFn K (.ref (mA "Stock" "__sub__" K))) = true from c.ex 105 (f := fun K => PySem.W.isFn K (.ref (mA "Stock" "__sub__" K))))
  have gkStock_sub := (show (PySem.W.keepIn K (.ref (mA "Stock" "__sub__" K))) = true from c.ex 106 (f := fun K => PySem.W.keepIn K (.ref (mA "Stock" "__sub__" K))))
  have giStock_iadd := of_dec (show (decide (PySem.W.findIn K (.ref (gA "Stock" K)) "__iadd__" = some (some (.ref (mA "Stock" "__iadd__" K))))) = true from c.ex 107 (f := fun K => decide (PySem.W.findIn K (.ref (gA "Stock" K)) "__iadd__" = some (some (.ref (mA "Stock" "__iadd__" K))))))
  obtain ⟨_, _, _, _, _, _, _, _, _, glStock_iadd, gcStock_iadd⟩ := c.pl 21
  have gfStock_iadd := (show (PySem.W.isFn K (.ref (mA "Stock" "__iadd__" K))) = true from c.ex 108 (f := fun K => PySem.W.isFn K (.ref (mA "Stock" "__iadd__" K))))
  have gkStock_iadd := (show (PySem.W.keepIn K (.ref (mA "Stock" "__iadd__" K))) = true from c.ex 109 (f := fun K => PySem.W.keepIn K (.ref (mA "Stock" "__iadd__" K))))
  have giStock_isub := of_dec (show (decide (PySem.W.findIn K (.ref (gA "Stock" K)) "__isub__" = some (some (.ref (mA "Stock" "__isub__" K))))) = true from c.ex 110 (f := fun K => decide (PySem.W.findIn K (.ref (gA "Stock" K)) "__isub__" = some (some (.ref (mA "Stock" "__isub__" K))))))
  obtain ⟨_, _, _, _, _, _, _, _, _, glStock_isub, gcStock_isub⟩ := c.pl 22
  have gfStock_isub := (show (PySem.W.isFn K (.ref (mA "Stock" "__isub__" K))) = true from c.ex 111 (f := fun K => PySem.W.isFn K (.ref (mA "Stock" "__isub__" K))))
  have gkStock_isub := (show (PySem.W.keepIn K (.ref (mA "Stock" "__isub__" K))) = true from c.ex 112 (f := fun K => PySem.W.keepIn K (.ref (mA "Stock" "__isub__" K))))
  have giStock_eq := of_dec (show (decide (PySem.W.findIn K (.ref (gA "Stock" K)) "__eq__" = some (some (.ref (mA "Stock" "__eq__" K))))) = true from c.ex 113 (f := fun K => decide (PySem.W.findIn K (.ref (gA "Stock" K)) "__eq__" = some (some (.ref (mA "Stock" "__eq__" K))))))
  obtain ⟨_, _, _, _, _, _, _, _, _, glStock_eq, gcStock_eq⟩ := c.pl 23
  have gfStock_eq := (show (PySem.W.isFn K (.ref (mA "Stock" "__eq__" K))) = true from c.ex 114 (f := fun K => PySem.W.isFn K (.ref (mA "Stock" "__eq__" K))))
  have gkStock_eq := (show (PySem.W.keepIn K (.ref (mA "Stock" "__eq__" K))) = true from c.ex 115 (f := fun K => PySem.W.keepIn K (.ref (mA "Stock" "__eq__" K))))
  have pcSGif := (show (PySem.W.fnIn K (mA "Stock" "__getitem__" K)) = true from c.ex 116 (f := fun K => PySem.W.fnIn K (mA "Stock" "__getitem__" K)))
  have giStock_le := of_dec (show (decide (PySem.W.findIn K (.ref (gA "Stock" K)) "__le__" = some (some (.ref (mA "Stock" "__le__" K))))) = true from c.ex 117 (f := fun K => decide (PySem.W.findIn K (.ref (gA "Stock" K)) "__le__" = some (some (.ref (mA "Stock" "__le__" K))))))
  obtain ⟨_, _, _, _, _, _, _, _, _, glStock_le, gcStock_le⟩ := c.pl 24
  have gfStock_le := (show (PySem.W.isFn K (.ref (mA "Stock" "__le__" K))) = true from c.ex 118 (f := fun K => PySem.W.isFn K (.ref (mA "Stock" "__le__" K))))
  have gkStock_le := (show (PySem.W.keepIn K (.ref (mA "Stock" "__le__" K))) = true from c.ex 119 (f := fun K => PySem.W.keepIn K (.ref (mA "Stock" "__le__" K))))
  have a11 := of_dec (show (decide (PySem.W.nsIn K mainGlobals "_law_mixed" = some (some (.ref (gA "_law_mixed" K))))) = true from c.ex 120 (f := fun K => decide (PySem.W.nsIn K mainGlobals "_law_mixed" = some (some (.ref (gA "_law_mixed" K))))))
  obtain ⟨_, _, _, _, _, _, _, _, _, l11, c11⟩ := c.pl 25
  have k11 := (show (PySem.W.keepIn K (.ref (gA "_law_mixed" K))) = true from c.ex 121 (f := fun K => PySem.W.keepIn K (.ref (gA "_law_mixed" K))))
  have a12 := of_dec (show (decide (PySem.W.nsIn K mainGlobals "_law_numbers" = some (some (.ref (gA "_law_numbers" K))))) = true from c.ex 122 (f := fun K => decide (PySem.W.nsIn K mainGlobals "_law_numbers" = some (some (.ref (gA "_law_numbers" K))))))
  obtain ⟨_, _, _, _, _, _, _, _, _, l12, c12⟩ := c.pl 26
  have k12 := (show (PySem.W.keepIn K (.ref (gA "_law_numbers" K))) = true from c.ex 123 (f := fun K => PySem.W.keepIn K (.ref (gA "_law_numbers" K))))
  have pxf_Short := (show (xfB K (gA "Short" K)) = true from c.ex 124 (f := fun K => xfB K (gA "Short" K)))
  have exm_Short := of_dec (show (decide (PySem.W.exmOne K (.ref (gA "Short" K)) (.ref (gA "Short" K)) = some true)) = true from c.ex 125 (f := fun K => decide (PySem.W.exmOne K (.ref (gA "Short" K)) (.ref (gA "Short" K)) = some true)))
  have sf_Stock := (show (PySem.W.selfFirst K (gA "Stock" K)) = true from c.ex 126 (f := fun K => PySem.W.selfFirst K (gA "Stock" K)))
  have a13 := of_dec (show (decide (PySem.W.nsIn K mainGlobals "_law_less" = some (some (.ref (gA "_law_less" K))))) = true from c.ex 127 (f := fun K => decide (PySem.W.nsIn K mainGlobals "_law_less" = some (some (.ref (gA "_law_less" K))))))
  obtain ⟨_, _, _, _, _, _, _, _, _, l13, c13⟩ := c.pl 27
  have k13 := (show (PySem.W.keepIn K (.ref (gA "_law_less" K))) = true from c.ex 128 (f := fun K => PySem.W.keepIn K (.ref (gA "_law_less" K))))
  have a14 := of_dec (show (decide (PySem.W.nsIn K mainGlobals "_law_lessened" = some (some (.ref (gA "_law_lessened" K))))) = true from c.ex 129 (f := fun K => decide (PySem.W.nsIn K mainGlobals "_law_lessened" = some (some (.ref (gA "_law_lessened" K))))))
  obtain ⟨_, _, _, _, _, _, _, _, _, l14, c14⟩ := c.pl 28
  have k14 := (show (PySem.W.keepIn K (.ref (gA "_law_lessened" K))) = true from c.ex 130 (f := fun K => PySem.W.keepIn K (.ref (gA "_law_lessened" K))))
  have a15 := of_dec (show (decide (PySem.W.nsIn K mainGlobals "_law_short" = some (some (.ref (gA "_law_short" K))))) = true from c.ex 131 (f := fun K => decide (PySem.W.nsIn K mainGlobals "_law_short" = some (some (.ref (gA "_law_short" K))))))
  obtain ⟨_, _, _, _, _, _, _, _, _, l15, c15⟩ := c.pl 29
  have k15 := (show (PySem.W.keepIn K (.ref (gA "_law_short" K))) = true from c.ex 132 (f := fun K => PySem.W.keepIn K (.ref (gA "_law_short" K))))
  have a16 := of_dec (show (decide (PySem.W.nsIn K mainGlobals "_law_shows" = some (some (.ref (gA "_law_shows" K))))) = true from c.ex 133 (f := fun K => decide (PySem.W.nsIn K mainGlobals "_law_shows" = some (some (.ref (gA "_law_shows" K))))))
  obtain ⟨_, _, _, _, _, _, _, _, _, l16, c16⟩ := c.pl 30
  have k16 := (show (PySem.W.keepIn K (.ref (gA "_law_shows" K))) = true from c.ex 134 (f := fun K => PySem.W.keepIn K (.ref (gA "_law_shows" K))))
  have hnq := (show (PySem.W.noSeq K (gA "Stock" K)) = true from c.ex 135 (f := fun K => PySem.W.noSeq K (gA "Stock" K)))
  have a17 := of_dec (show (decide (PySem.W.nsIn K mainGlobals "_law_changes_results" = some (some (.ref (gA "_law_changes_results" K))))) = true from c.ex 136 (f := fun K => decide (PySem.W.nsIn K mainGlobals "_law_changes_results" = some (some (.ref (gA "_law_changes_results" K))))))
  obtain ⟨_, _, _, _, _, _, _, _, _, l17, c17⟩ := c.pl 31
  have k17 := (show (PySem.W.keepIn K (.ref (gA "_law_changes_results" K))) = true from c.ex 137 (f := fun K => PySem.W.keepIn K (.ref (gA "_law_changes_results" K))))
  have a18 := of_dec (show (decide (PySem.W.nsIn K mainGlobals "_law_grows" = some (some (.ref (gA "_law_grows" K))))) = true from c.ex 138 (f := fun K => decide (PySem.W.nsIn K mainGlobals "_law_grows" = some (some (.ref (gA "_law_grows" K))))))
  obtain ⟨_, _, _, _, _, _, _, _, _, l18, c18⟩ := c.pl 32
  have k18 := (show (PySem.W.keepIn K (.ref (gA "_law_grows" K))) = true from c.ex 139 (f := fun K => PySem.W.keepIn K (.ref (gA "_law_grows" K))))
  have nfS := (show (PySem.W.notFirst K (gA "Stock" K) (.ref (gA "Stock" K))) = true from c.ex 140 (f := fun K => PySem.W.notFirst K (gA "Stock" K) (.ref (gA "Stock" K))))
  have a19 := of_dec (show (decide (PySem.W.nsIn K mainGlobals "_law_with_itself" = some (some (.ref (gA "_law_with_itself" K))))) = true from c.ex 141 (f := fun K => decide (PySem.W.nsIn K mainGlobals "_law_with_itself" = some (some (.ref (gA "_law_with_itself" K))))))
  obtain ⟨_, _, _, _, _, _, _, _, _, l19, c19⟩ := c.pl 33
  have k19 := (show (PySem.W.keepIn K (.ref (gA "_law_with_itself" K))) = true from c.ex 142 (f := fun K => PySem.W.keepIn K (.ref (gA "_law_with_itself" K))))
  have a20 := of_dec (show (decide (PySem.W.nsIn K mainGlobals "law" = some (some (.ref (gA "law" K))))) = true from c.ex 143 (f := fun K => decide (PySem.W.nsIn K mainGlobals "law" = some (some (.ref (gA "law" K))))))
  obtain ⟨_, _, _, _, _, _, _, _, _, l20, c20⟩ := c.pl 34
  have k20 := (show (PySem.W.keepIn K (.ref (gA "law" K))) = true from c.ex 144 (f := fun K => PySem.W.keepIn K (.ref (gA "law" K))))
  have z_len := of_dec (show (decide (PySem.W.nsIn K mainGlobals "len" = some none)) = true from c.ex 145 (f := fun K => decide (PySem.W.nsIn K mainGlobals "len" = some none)))
  have z_list := of_dec (show (decide (PySem.W.nsIn K mainGlobals "list" = some none)) = true from c.ex 146 (f := fun K => decide (PySem.W.nsIn K mainGlobals "list" = some none)))
  have z_tuple := of_dec (show (decide (PySem.W.nsIn K mainGlobals "tuple" = some none)) = true from c.ex 147 (f := fun K => decide (PySem.W.nsIn K mainGlobals "tuple" = some none)))
  have z_int := of_dec (show (decide (PySem.W.nsIn K mainGlobals "int" = some none)) = true from c.ex 148 (f := fun K => decide (PySem.W.nsIn K mainGlobals "int" = some none)))
  have z_repr := of_dec (show (decide (PySem.W.nsIn K mainGlobals "repr" = some none)) = true from c.ex 149 (f := fun K => decide (PySem.W.nsIn K mainGlobals "repr" = some none)))
  have z_range := of_dec (show (decide (PySem.W.nsIn K mainGlobals "range" = some none)) = true from c.ex 150 (f := fun K => decide (PySem.W.nsIn K mainGlobals "range" = some none)))
  have z_all := of_dec (show (decide (PySem.W.nsIn K mainGlobals "all" = some none)) = true from c.ex 151 (f := fun K => decide (PySem.W.nsIn K mainGlobals "all" = some none)))
  have z_zip := of_dec (show (decide (PySem.W.nsIn K mainGlobals "zip" = some none)) = true from c.ex 152 (f := fun K => decide (PySem.W.nsIn K mainGlobals "zip" = some none)))
  have z_enumerate := of_dec (show (decide (PySem.W.nsIn K mainGlobals "enumerate" = some none)) = true from c.ex 153 (f := fun K => decide (PySem.W.nsIn K mainGlobals "enumerate" = some none)))
  have z_isinstance := of_dec (show (decide (PySem.W.nsIn K mainGlobals "isinstance" = some none)) = true from c.ex 154 (f := fun K => decide (PySem.W.nsIn K mainGlobals "isinstance" = some none)))
  have z_str := of_dec (show (decide (PySem.W.nsIn K mainGlobals "str" = some none)) = true from c.ex 155 (f := fun K => decide (PySem.W.nsIn K mainGlobals "str" = some none)))
  have z_bool := of_dec (show (decide (PySem.W.nsIn K mainGlobals "bool" = some none)) = true from c.ex 156 (f := fun K => decide (PySem.W.nsIn K mainGlobals "bool" = some none)))
  have z_dict := of_dec (show (decide (PySem.W.nsIn K mainGlobals "dict" = some none)) = true from c.ex 157 (f := fun K => decide (PySem.W.nsIn K mainGlobals "dict" = some none)))
  have z_any := of_dec (show (decide (PySem.W.nsIn K mainGlobals "any" = some none)) = true from c.ex 158 (f := fun K => decide (PySem.W.nsIn K mainGlobals "any" = some none)))
  have z_min := of_dec (show (decide (PySem.W.nsIn K mainGlobals "min" = some none)) = true from c.ex 159 (f := fun K => decide (PySem.W.nsIn K mainGlobals "min" = some none)))
  have z_sorted := of_dec (show (decide (PySem.W.nsIn K mainGlobals "sorted" = some none)) = true from c.ex 160 (f := fun K => decide (PySem.W.nsIn K mainGlobals "sorted" = some none)))
  have z_set := of_dec (show (decide (PySem.W.nsIn K mainGlobals "set" = some none)) = true from c.ex 161 (f := fun K => decide (PySem.W.nsIn K mainGlobals "set" = some none)))
  have z_max := of_dec (show (decide (PySem.W.nsIn K mainGlobals "max" = some none)) = true from c.ex 162 (f := fun K => decide (PySem.W.nsIn K mainGlobals "max" = some none)))
  have z_sum := of_dec (show (decide (PySem.W.nsIn K mainGlobals "sum" = some none)) = true from c.ex 163 (f := fun K => decide (PySem.W.nsIn K mainGlobals "sum" = some none)))
  exact all_mk (l := PySem.Challenge.rw_noneorsome_k23_stocks_reckoned) X G hfa a0 l0 c0 k0 a1 l1 c1 k1 a2 l2 c2 k2 a3 l3 c3 k3 a4 l4 c4 k4 ac_RESERVED lc_RESERVED zc_RESERVED vc_RESERVED ac_LONGEST a5 l5 c5 k5 aC_BadName lCE_BadName rvE_BadName saE_BadName exCE_BadName tyCE_BadName kCE_BadName iCE_BadName lfE_BadName cfE_BadName tf_E_BadName lcdE_BadName hvsE_BadName hfileE_BadName lccE_BadName msE_BadName su_ tp_ iniE_BadName basE_BadName tpa_ no_BadName_name a6 l6 c6 k6 aC_BadNumber lCE_BadNumber rvE_BadNumber saE_BadNumber exCE_BadNumber tyCE_BadNumber kCE_BadNumber iCE_BadNumber lfE_BadNumber cfE_BadNumber tf_E_BadNumber lcdE_BadNumber hvsE_BadNumber hfileE_BadNumber lccE_BadNumber msE_BadNumber iniE_BadNumber basE_BadNumber no_BadNumber_number a7 l7 c7 k7 a8 l8 c8 k8 aC_Stock pg_Stock hd_Stock po_Stock sa_Stock pna_numbers giStock_init glStock_init gcStock_init gfStock_init gkStock_init gTStock_init mk_Stock kC_Stock giStock_names glStock_names gcStock_names gfStock_names gkStock_names giStock_getitem glStock_getitem gcStock_getitem gfStock_getitem gkStock_getitem giStock_copy glStock_copy gcStock_copy gfStock_copy gkStock_copy giStock_setitem glStock_setitem gcStock_setitem gfStock_setitem gkStock_setitem aC_Short lCE_Short rvE_Short saE_Short exCE_Short tyCE_Short kCE_Short iCE_Short lfE_Short cfE_Short tf_E_Short lcdE_Short hvsE_Short hfileE_Short lccE_Short msE_Short iniE_Short basE_Short no_Short_name a9 l9 c9 k9 a10 l10 c10 k10 ia_Stock in_ it_ im_Stock kit_Stock giStock_add glStock_add gcStock_add gfStock_add gkStock_add giStock_sub glStock_sub gcStock_sub gfStock_sub gkStock_sub giStock_iadd glStock_iadd gcStock_iadd gfStock_iadd gkStock_iadd giStock_isub glStock_isub gcStock_isub gfStock_isub gkStock_isub giStock_eq glStock_eq gcStock_eq gfStock_eq gkStock_eq pcSGif giStock_le glStock_le gcStock_le gfStock_le gkStock_le a11 l11 c11 k11 a12 l12 c12 k12 pxf_Short exm_Short sf_Stock a13 l13 c13 k13 a14 l14 c14 k14 a15 l15 c15 k15 a16 l16 c16 k16 hnq a17 l17 c17 k17 a18 l18 c18 k18 nfS a19 l19 c19 k19 a20 l20 c20 k20 z_len z_list z_tuple z_int z_repr z_range z_all z_zip z_enumerate z_isinstance z_str z_bool z_dict z_any z_min z_sorted z_set z_max z_sum
end Dl
open PySem PySem.W PySem.Calls PyProof.Rows in
set_option maxRecDepth 100000 in
set_option maxHeartbeats 0 in
theorem PySem.Challenge.cw_noneorsome_k23_stocks_reckoned_holds : PySem.Challenge.rw_noneorsome_k23_stocks_reckoned.Holds := by
  w_on; o_law
  refine HandSHeadRun.head_any (r := OpenLaw.row PySem.Challenge.rw_noneorsome_k23_stocks_reckoned) (q := Dl.tQ) (H := Dl.topHook Dl.tXs Dl.tFs) (ob := Dl.topOb Dl.tXs Dl.tFs) (M := 20000) (loose := Dl.tNames) (d := HandSHeadRun.topDef (OpenLaw.row PySem.Challenge.rw_noneorsome_k23_stocks_reckoned).prog 31) (kwd := []) (fun s => Dl.topOb_eq Dl.tXs Dl.tFs s) (by kernel_rfl) (fun s => by kernel_rfl) Dl.tRun (by kernel_rfl) (by kernel_rfl) (by kernel_rfl) (by rfl) (by first | assumption | decide +kernel) (by decide +kernel) ⟨rfl, rfl, rfl, rfl, rfl, by decide +kernel⟩ ?hw ?hc
  case hw => w_witness2
  case hc =>
    refine Dl.walkY (l := PySem.Challenge.rw_noneorsome_k23_stocks_reckoned) (n := 63) (k := 12) (F := Dl.FLaw) (x := "_law_script") rfl (by decide) (by kernel_rfl) ⟨rfl, by decide, by decide⟩ ?G (fun ns Q E hl hq => ⟨ns, rfl, hl, rfl, hq⟩)
    intro w mg fa h Y G hmg0
    obtain ⟨K, KX, c⟩ := Y
    have hmg : mg ("law" : PySem.Str) = some (.ref fa) := by
      have e : (HandSHeadRun.topDef (OpenLaw.row PySem.Challenge.rw_noneorsome_k23_stocks_reckoned).prog 31).name = ("law" : PySem.Str) := by kernel_rfl
      rw [← e]
      exact hmg0
    exact ⟨K, KX, Dl.all_told KX G hmg c⟩


