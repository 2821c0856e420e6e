import PyProof.Rows.All
import Wide.All
import OpenK.AllK
import Wide.FinOn
import HandS.ForMost
import HandS.ForExc
import HandS.Star
import HandS.DictComp
import KE.KOpsOwn
import HandS.Wide
import HandS.TupAny
import HandS.IsInst
import HandS.Comp
import HandS.Text
import HandS.Iter
import HandS.Ends
import HandS.EndOwn
import HandS.SlotsOwn
import HandS.ListItems
import KE.KExcSuper
import HandS.ExcInit
import HandS.FStr
import HandS.ExcField
import HandS.ClsMeth
import KE.KStateDown
import HandS.Head0
import HandS.Head1
import HandS.Head2
import HandS.HeadHook1
import HandS.HeadHook2
import KE.KFmtOwn
import KE.KCallOwn
import HandS.WrittenGet
import HandS.RaiseMore
import KE.KxIndex
import HandS.SetTxt0
import HandS.Set
import HandS.SetFor
import HandS.TupSets
import HandS.Strs
import PyProof.Rows.SortShellAny
import PyProof.ZipIter
import KE.GoesZip
import KE.GoesEnum
import KE.GoesMore
import HandS.Zip
import HandS.Defaults
import HandS.Style
import KE.LtSeq
import PyProof.Rows.IntBool
import KE.KEqDict
import PyProof.DictUpdate
import PyProof.DictDisplay
import KE.DataEq
import HandS.SortKw
import KE.SortKeyHeap
import HandS.NoneIn
import PyProof.SetRoads
import PySem.Challenge.RW_noneorsome_k04_whole_conditions_compared
set_option Elab.async false
set_option linter.all false
set_option maxRecDepth 100000
set_option maxHeartbeats 4000000
/-! a def's promise where it is known that nothing that guards against itself (a repr) is under way -/
namespace Dl
open PySem PySem.Spec L2
open PyProof.Rows hiding St Binds

structure FnG (P : Program) (w : World) (K : W.Frag) (mg : Str → Option Value) (base : Heap) (CX : CXT) (k : Nat) (f : Addr) (fd : FuncData) (ps : List Str) (sp : Sp) : Prop where
  nargs : ∀ vs H Q E, sp vs H Q E → vs.length = ps.length
  go : ∀ (A : Around) (outer : List Env) (s : Shared) (H : Hp) (args : Args) (us : List Value) (vs : List V) (Q : VK) (E : XK),
    A.guards = some [] → Room k A → Env0 P w K mg base A outer s H → BindsTo s fd args (ps.zip us) → Vals vs us → sp vs H Q E →
      codeAny (model P w) A (.call (.ref f) args) (CR CX outer P w H s Q E) s

section
variable {P : Program} {w : World} {K : W.Frag} {mg : Str → Option Value} {base : Heap} {CX : CXT} {j k : Nat} {f : Addr} {fd : FuncData} {ps : List Str} {sp sp' : Sp}
theorem FnG.up (F : FnG P w K mg base CX j f fd ps sp) (h : j ≤ k) : FnG P w K mg base CX k f fd ps sp :=
  ⟨F.nargs, fun A outer s H args us vs Q E hg hr => F.go A outer s H args us vs Q E hg (hr.mono h)⟩
theorem FnG.weak (F : FnG P w K mg base CX k f fd ps sp) (h : ∀ vs H Q E, sp' vs H Q E → sp vs H Q E) : FnG P w K mg base CX k f fd ps sp' :=
  ⟨fun vs H Q E q => F.nargs vs H Q E (h vs H Q E q), fun A outer s H args us vs Q E hg hr e0 hb hv hs => F.go A outer s H args us vs Q E hg hr e0 hb hv (h vs H Q E hs)⟩
end

/-- f(..), C(..), o.m(..), what is wished of an exception hangs on the slots -/
def gCall (sp : Sp) (dvs : List V) (EE : L2.St → XK) (t : TA) : TE := fun σ H Q => t σ H fun vs H1 => sp (vs ++ dvs) H1 Q (EE σ)
def gMake (C : Addr) (sp : Sp) (dvs : List V) (EE : L2.St → XK) (t : TA) : TE := fun σ H Q => t σ H fun vs H1 =>
  ∀ x dx, H1 x = none → H1 dx = none → dx ≠ x → sp (.ref x :: (vs ++ dvs)) (upd (upd H1 dx (.own x)) x (.ins C dx [])) (fun v H2 => v = .non ∧ Q (.ref x) H2) (EE σ)
section
variable {X : Cx} {CX : CXT} {k : Nat} {f C : Addr} {fd : FuncData} {ps : List Str} {sp : Sp} {dvs : List V} {ds : List Value} {E : XK} {EE : L2.St → XK} {x m : Str} {p pos apos : Pos} {e o : Expr} {es : List Expr} {ta : TE} {t : TA}
variable {pins : List (Addr × Obj)} {σ : L2.St} {H : Hp} {s : Shared} {Q : VK} {us : List Value} {vs : List V}

/-- the callee is run: what it hands back, what it raises -/
theorem g_run (hG : X.A.guards = some []) (F : FnG X.prog X.w X.K X.mg X.base CX k f fd ps sp) (hr : Room k X.A) (hb : Binds X.K fd ps ds) (hd : Vals dvs ds)
    (hx : PassesAt CX X σ E) (I : Inv X pins σ H s) (r : Vals vs us) (h : sp (vs ++ dvs) H Q E) :
    wpAny (model X.prog X.w) X.A (call (.ref f) us) (EP X pins σ Q) X.xe s := by
  have both := r.append hd
  have many : (us ++ ds).length = ps.length := both.length.symm.trans (F.nargs _ _ _ _ h)
  have ran := F.go X.A X.stack s H ⟨us, []⟩ _ _ Q E hG hr I.env0 (hb s us I.kIn many) both h
  exact wpAny_call (codeAny_mono ran fun r s' hq => match r, hq with
    | .error e, hq => hx pins H s e s' I hq
    | .ok (.ret _), hq => I.after hq
    | .ok .next, hq => False.elim hq
    | .ok .brk, hq => False.elim hq
    | .ok .cont, hq => False.elim hq)

theorem g_make (hG : X.A.guards = some []) (M : Mk X.K C f) (F : FnG X.prog X.w X.K X.mg X.base CX k f fd ps sp) (hr : Room (k + 1) X.A) (hb : Binds X.K fd ps ds)
    (hd : Vals dvs ds) (hx : PassesAt CX X σ E) (I : Inv X pins σ H s) (r : Vals vs us)
    (h : ∀ x dx, H x = none → H dx = none → dx ≠ x →
      sp (.ref x :: (vs ++ dvs)) (upd (upd H dx (.own x)) x (.ins C dx [])) (fun v H2 => v = .non ∧ Q (.ref x) H2) E) :
    wpAny (model X.prog X.w) X.A (call (.ref C) us) (EP X pins σ Q) X.xe s := by
  have I2 := Inv.made (C := C) I
  have new := h (s.heap.objs.size + 1) s.heap.objs.size (I.hok.fresh (Nat.le_succ _)) (I.hok.fresh (Nat.le_refl _)) (Nat.ne_of_lt (Nat.lt_succ_self _))
  have all : Vals (V.ref (s.heap.objs.size + 1) :: (vs ++ dvs)) (Value.ref (s.heap.objs.size + 1) :: (us ++ ds)) := .cons rfl (r.append hd)
  have many : (Value.ref (s.heap.objs.size + 1) :: us ++ ds).length = ps.length :=
    Eq.trans (show _ = (V.ref (s.heap.objs.size + 1) :: (vs ++ dvs)).length from all.length.symm) (F.nargs _ _ _ _ new)
  have hG2 : (X.A.under (.builtin "type.__call__" ⟨.ref C :: us, []⟩)).guards = some [] := by
    unfold Around.under
    rw [hG]
    rfl
  have ran := F.go _ X.stack _ _ ⟨Value.ref (s.heap.objs.size + 1) :: us, []⟩ _ _ _ E hG2 (hr.make C us [])
    (I2.env0.make C us []) (hb _ (Value.ref (s.heap.objs.size + 1) :: us) I2.kIn many) all new
  refine wpAny_call (make_map (f := f) I.kIn M.makes M.init (beq_iff_eq.mp M.fn) (codeAny_mono ran fun r s' hq => ?_))
  match r, hq with
  | .error e, hq => exact hx pins _ _ e s' I2 hq
  | .ok (.ret u), hq =>
    obtain ⟨v, H', I3, rv, ev, q3⟩ := I2.after hq
    cases ev
    exact ⟨rv, .ref (s.heap.objs.size + 1), H', I3, rfl, q3⟩
  | .ok .next, hq => exact False.elim hq
  | .ok .brk, hq => exact False.elim hq
  | .ok .cont, hq => exact False.elim hq

theorem ge_call (hG : X.A.guards = some []) (F : FnG X.prog X.w X.K X.mg X.base CX k f fd ps sp) (hr : Room k X.A) (hg : Gl X x) (hm : X.mg x = some (.ref f))
    (hk : W.keepIn X.K (.ref f) = true) (hb : Binds X.K fd ps ds) (hd : Vals dvs ds) (hx : ∀ σ, PassesAt CX X σ (EE σ)) (ha : PA X (e :: es) t)
    (hdb : (x == ("__debug__" : Str)) = false := by decide) (he : starEach (e :: es) X.env = (false, eval e X.env) :: starEach es X.env := by rfl)
    (hpl : (backTo pos (starEach es X.env)).any (·.1) = false := by rfl) : PE X (.Call (.Name x p) (e :: es) [] pos) (gCall sp dvs EE t) :=
  ⟨fun pins s σ H Q I h => wpAny_Call_Name_kw (ld_glob I hg hm (W.callWith_K (h₀ := X.base) I.ok.mod.kin hk
    (thn (ha.run pos pins s σ H _ I h) fun _ _ ⟨_, _, I1, r, q⟩ => ⟨I1.kIn, g_run hG F hr hb hd (hx _) I1 r q⟩) he hpl) hdb)⟩
theorem ge_make (hG : X.A.guards = some []) (M : Mk X.K C f) (F : FnG X.prog X.w X.K X.mg X.base CX k f fd ps sp) (hr : Room (k + 1) X.A) (hg : Gl X x)
    (hm : X.mg x = some (.ref C)) (hb : Binds X.K fd ps ds) (hd : Vals dvs ds) (hx : ∀ σ, PassesAt CX X σ (EE σ)) (ha : PA X (e :: es) t)
    (hdb : (x == ("__debug__" : Str)) = false := by decide) (he : starEach (e :: es) X.env = (false, eval e X.env) :: starEach es X.env := by rfl)
    (hpl : (backTo pos (starEach es X.env)).any (·.1) = false := by rfl) : PE X (.Call (.Name x p) (e :: es) [] pos) (gMake C sp dvs EE t) :=
  ⟨fun pins s σ H Q I h => wpAny_Call_Name_kw (ld_glob I hg hm (W.callWith_K (h₀ := X.base) I.ok.mod.kin M.kp
    (thn (ha.run pos pins s σ H _ I h) fun _ _ ⟨_, _, I1, r, q⟩ => ⟨I1.kIn, g_make hG M F hr hb hd (hx _) I1 r q⟩) he hpl) hdb)⟩
end

/-- a def of the text, by its body -/
theorem g_fn {CX : CXT} {P : Program} {w : World} {K : W.Frag} {mg : Str → Option Value} {base : Heap} {k : Nat} {f : Addr} {name qual : Str} {params : Arguments} {body : List Stmt} {scope : Scope}
    {dV kV doc pm cdv ct oc : Value} {an od : Option Addr} {osl : Array (Option Value)} {N ps : List Str} {sp : Sp}
    (lk : K.lookup f = some ⟨oc, od, .func (W.fnOf name qual params body scope dV kV doc pm an cdv ct), osl⟩) (hcd : W.codeIn K cdv qual = true) (S : FnScope N ps scope)
    (len : ∀ vs H Q E, sp vs H Q E → vs.length = ps.length)
    (hbody : ∀ (A : Around) (outer : List Env) (s : Shared) (H : Hp) (vs : List V) (Q : VK) (E : XK),
      (A.deeper (envOfC qual scope s.heap.objs.size f cdv)).guards = some [] → Room k (A.deeper (envOfC qual scope s.heap.objs.size f cdv)) → sp vs H Q E →
        ∃ t, PSs (cxOf CX P w K mg base N qual scope f cdv A outer s H E) body t ∧ t { nx := fun _ H' => Q .non H', rt := Q } (start N vs) H) :
    FnG P w K mg base CX (k + 1) f (W.fnOf name qual params body scope dV kV doc pm an cdv ct) ps sp := by
  refine ⟨len, fun A outer s H args us vs Q E hG hr e0 hb r hsp => ?_⟩
  have KX : K.In s.heap := e0.mod.kin.keeps fun b o e => (e0.bs b o e).1
  have lim := e0.mod.nolimit.keeps fun b o e => (e0.bs b o e).1
  have kinds : ∀ y ∈ ps.zip us, scope.names.lookup y.1 = some .local ∨
      (scope.names.lookup y.1 = some .cell ∧ ((cellsFrom (s.heap.objs.size + 1) scope.names []).lookup y.1).isSome = true) := fun y hy =>
    (S.par y.1 (List.of_mem_zip (show (y.1, y.2) ∈ ps.zip us from hy)).1).imp id fun q => ⟨q, W.cellsFrom_some _ _ _ (.inl q)⟩
  refine codeAny_call_function hr.depth (KX _ _ lk) rfl S.co S.gen rfl (W.codeRec_of KX hcd) (hb _ _ _ _ (wpAny_newFunctionEnv_cells S.kind kinds fun env he s1 x => ?_))
  subst he
  obtain ⟨t, ht, hq⟩ := hbody A outer s H vs Q E hG (hr.deeper _) hsp
  have I : Inv (cxOf CX P w K mg base N qual scope f cdv A outer s H E) [] (start N vs) H s1 := inv_start S hr.hd e0 (len _ _ _ _ hsp) r x
  refine ⟨lim.keeps x.toInCall.keep, codeAny_func (wpAny_mono (ht.run [] s1 (start N vs) H _ I hq) (fun fl s' hs => ?_) fun e s' hs => hs)⟩
  match fl, hs with
  | .ret u, ⟨v, _, H', J, rv, q⟩ => exact ⟨v, H', J.os, J.bare, J.base, J.hok, rv, q⟩
  | .next, ⟨_, H', J, q⟩ => exact ⟨.non, H', J.os, J.bare, J.base, J.hok, rfl, q⟩
  | .brk, ⟨_, _, _, q⟩ => exact False.elim q
  | .cont, ⟨_, _, _, q⟩ => exact False.elim q

section
variable {P : Program} {w : World} {K : W.Frag} {mg : Str → Option Value} {base : Heap} {x qual : Str} {st : Stmt} {f : Addr} {fd : FuncData} {N ps : List Str} {k : Nat} {sp : Sp}
/-- a def of the text, with any defaults -/
structure FunA (K : PySem.W.Frag) (x qual : Str) (st : Stmt) (f : Addr) (fd : FuncData) : Prop where
  ex : ∃ (oc : Value) (od : Option Addr) (dV kV doc pm : Value) (an : Option Addr) (cdv ct : Value) (osl : Array (Option Value)),
    fd = PySem.W.fnOf x qual (defArgs st) (defBody st) (defScope st) dV kV doc pm an cdv ct ∧ K.lookup f = some ⟨oc, od, .func fd, osl⟩ ∧ PySem.W.codeIn K cdv qual = true
theorem anyFun (F : Fun K x qual st f fd) : FunA K x qual st f fd := by
  obtain ⟨oc, od, kV, doc, pm, an, cdv, ct, osl, h⟩ := F.ex
  exact ⟨oc, od, .none, kV, doc, pm, an, cdv, ct, osl, h⟩
theorem gfunX (F : FunA K x qual st f fd) (S : FnScope N ps (defScope st)) (len : ∀ vs H Q E, sp vs H Q E → vs.length = ps.length)
    (hbody : ∀ (cdv : Value) (A : Around) (outer : List Env) (s : Shared) (H : Hp) (vs : List V) (Q : VK) (E : XK),
      (A.deeper (envOfC qual (defScope st) s.heap.objs.size f cdv)).guards = some [] → Room k (A.deeper (envOfC qual (defScope st) s.heap.objs.size f cdv)) → sp vs H Q E →
        ∃ t, PSs (cxOf (L2.CX P w) P w K mg base N qual (defScope st) f cdv A outer s H E) (defBody st) t ∧ t { nx := fun _ H' => Q .non H', rt := Q } (start N vs) H) :
    FnG P w K mg base (L2.CX P w) (k + 1) f fd ps sp := by
  obtain ⟨oc, od, dV, kV, doc, pm, an, cdv, ct, osl, rfl, lk, hcd⟩ := F.ex
  exact g_fn lk hcd S len fun A outer s H vs Q E hG hr hsp => hbody cdv A outer s H vs Q E hG hr hsp
end
end Dl

/-! data at values: what a value stands for as a whole, cells for what is changed -/
namespace Dl
open PySem PySem.Spec L2
open PyProof.Rows hiding St Binds

inductive D where
  | non | bl (b : Bool) | int (i : Int) | str (s : Str)
  | lst (ds : List D) | tup (ds : List D) | dct (kd : List (Key × D)) | ins (C : Addr) (fd : List (Str × D))
  | cell (n : Nat) | ref (a : Addr) | fzl (ds : List D) | ty (n : String)
inductive CT where
  | lst (ds : List D) | dct (kd : List (Key × D)) | ins (C : Addr) (fd : List (Str × D)) | lck (ob : Obj) (kv : List (Key × V)) (kd : List (Key × D))
abbrev Sto := List CT
abbrev Io := List Addr
abbrev Rho := List (Option D)

/-- v stands for d; ι: where the cells stand -/
inductive At (K : W.Frag) (ι : Io) (H : Hp) : V → D → Prop
  | non : At K ι H .non .non
  | bl (b : Bool) : At K ι H (.bl b) (.bl b)
  | int (i : Int) : At K ι H (.int i) (.int i)
  | str (s : Str) : At K ι H (.str s) (.str s)
  | lst {a : Addr} {vs : List V} {ds : List D} (h : H a = some (.lst vs)) (n : a ∉ ι) (l : vs.length = ds.length)
      (r : ∀ (i : Nat) (v : V) (d : D), vs[i]? = some v → ds[i]? = some d → At K ι H v d) : At K ι H (.ref a) (.lst ds)
  | tup {a : Addr} {vs : List V} {ds : List D} (h : Rd H a (.tup vs)) (n : a ∉ ι) (l : vs.length = ds.length)
      (r : ∀ (i : Nat) (v : V) (d : D), vs[i]? = some v → ds[i]? = some d → At K ι H v d) : At K ι H (.ref a) (.tup ds)
  | ktup {a : Addr} {vs : List V} {ds : List D} (h : ∀ H0 : Hp, SqT K H0 a vs) (l : vs.length = ds.length)
      (r : ∀ (i : Nat) (v : V) (d : D), vs[i]? = some v → ds[i]? = some d → At K ι H v d) : At K ι H (.ref a) (.tup ds)
  | dct {a : Addr} {kv : List (Key × V)} {kd : List (Key × D)} (h : Rd H a (.dK kv)) (n : a ∉ ι) (l : kv.map (·.1) = kd.map (·.1))
      (r : ∀ (i : Nat) (p : Key × V) (q : Key × D), kv[i]? = some p → kd[i]? = some q → At K ι H p.2 q.2) : At K ι H (.ref a) (.dct kd)
  | ins {a C dx : Addr} {fv : List (Str × V)} {fd : List (Str × D)} (h : H a = some (.ins C dx fv)) (n : a ∉ ι) (l : fv.map (·.1) = fd.map (·.1))
      (r : ∀ (i : Nat) (p : Str × V) (q : Str × D), fv[i]? = some p → fd[i]? = some q → At K ι H p.2 q.2) : At K ι H (.ref a) (.ins C fd)
  | cell {a : Addr} {n : Nat} (h : ι[n]? = some a) : At K ι H (.ref a) (.cell n)
  | ref (a : Addr) : At K ι H (.ref a) (.ref a)
  | ty (n : String) : At K ι H (.ty n) (.ty n)
  | fzl {a : Addr} {vs : List V} {ds : List D} (h : (∃ o, H a = some (.frz o (.lst vs)) ∧ a ∉ ι) ∨ ∀ H0 : Hp, SqL K H0 a vs) (l : vs.length = ds.length)
      (r : ∀ (i : Nat) (v : V) (d : D), vs[i]? = some v → ds[i]? = some d → At K ι H v d) : At K ι H (.ref a) (.fzl ds)

def Ats (K : W.Frag) (ι : Io) (H : Hp) (vs : List V) (ds : List D) : Prop := vs.length = ds.length ∧ ∀ (i : Nat) (v : V) (d : D), vs[i]? = some v → ds[i]? = some d → At K ι H v d
def Pts {κ : Type} (K : W.Frag) (ι : Io) (H : Hp) (kv : List (κ × V)) (kd : List (κ × D)) : Prop :=
  kv.map (·.1) = kd.map (·.1) ∧ ∀ (i : Nat) (p : κ × V) (q : κ × D), kv[i]? = some p → kd[i]? = some q → At K ι H p.2 q.2

/-- what was tracked and is no cell stays; the cells stay where they are -/
structure Gr (ι : Io) (H : Hp) (ι' : Io) (H' : Hp) : Prop where
  pre : ∀ (n : Nat) (a : Addr), ι[n]? = some a → ι'[n]? = some a
  keep : ∀ a o, H a = some o → a ∉ ι → H' a = some o ∧ a ∉ ι'
theorem Gr.refl (ι : Io) (H : Hp) : Gr ι H ι H := ⟨fun _ _ h => h, fun _ _ h n => ⟨h, n⟩⟩
theorem Gr.trans {ι ι1 ι2 : Io} {H H1 H2 : Hp} (a : Gr ι H ι1 H1) (b : Gr ι1 H1 ι2 H2) : Gr ι H ι2 H2 :=
  ⟨fun n x h => b.pre n x (a.pre n x h), fun x o h n => let ⟨h1, n1⟩ := a.keep x o h n; b.keep x o h1 n1⟩

section
variable {K : W.Frag} {ι ι' : Io} {H H' : Hp} {v : V} {d : D} {vs : List V} {ds : List D}
theorem Gr.rd (g : Gr ι H ι' H') {a : Addr} {u : HO} (h : Rd H a u) (n : a ∉ ι) : Rd H' a u ∧ a ∉ ι' := by
  rcases h with h | ⟨o, h⟩
  · exact ⟨.inl (g.keep a _ h n).1, (g.keep a _ h n).2⟩
  · exact ⟨.inr ⟨o, (g.keep a _ h n).1⟩, (g.keep a _ h n).2⟩
theorem At.gr (h : At K ι H v d) (g : Gr ι H ι' H') : At K ι' H' v d := by
  induction h with
  | non => exact .non
  | bl b => exact .bl b
  | int i => exact .int i
  | str s => exact .str s
  | lst h n l _ ih => exact .lst (g.keep _ _ h n).1 (g.keep _ _ h n).2 l ih
  | tup h n l _ ih => exact .tup (g.rd h n).1 (g.rd h n).2 l ih
  | ktup h l _ ih => exact .ktup h l ih
  | dct h n l _ ih => exact .dct (g.rd h n).1 (g.rd h n).2 l ih
  | ins h n l _ ih => exact .ins (g.keep _ _ h n).1 (g.keep _ _ h n).2 l ih
  | cell h => exact .cell (g.pre _ _ h)
  | ref a => exact .ref a
  | ty n => exact .ty n
  | fzl h l _ ih => exact .fzl (h.imp (fun ⟨o, e, n⟩ => ⟨o, g.keep _ _ e n⟩) id) l ih
theorem Ats.gr (h : Ats K ι H vs ds) (g : Gr ι H ι' H') : Ats K ι' H' vs ds := ⟨h.1, fun i v d e1 e2 => (h.2 i v d e1 e2).gr g⟩
theorem Pts.gr {κ : Type} {kv : List (κ × V)} {kd : List (κ × D)} (h : Pts K ι H kv kd) (g : Gr ι H ι' H') : Pts K ι' H' kv kd := ⟨h.1, fun i p q e1 e2 => (h.2 i p q e1 e2).gr g⟩
theorem Ats.nil : Ats K ι H [] [] := ⟨rfl, fun i v d h _ => by simp at h⟩
theorem Ats.cons (h : At K ι H v d) (r : Ats K ι H vs ds) : Ats K ι H (v :: vs) (d :: ds) := by
  refine ⟨by simp [r.1], fun i x y h1 h2 => ?_⟩
  cases i with
  | zero => cases Option.some.inj h1; cases Option.some.inj h2; exact h
  | succ i => exact r.2 i x y h1 h2
theorem Ats.app {vs' : List V} {ds' : List D} (r : Ats K ι H vs ds) (r' : Ats K ι H vs' ds') : Ats K ι H (vs ++ vs') (ds ++ ds') := by
  refine ⟨by simp [r.1, r'.1], fun i x y h1 h2 => ?_⟩
  by_cases hi : i < vs.length
  · rw [List.getElem?_append_left hi] at h1
    rw [List.getElem?_append_left (by rw [← r.1]; exact hi)] at h2
    exact r.2 i x y h1 h2
  · rw [List.getElem?_append_right (by omega)] at h1
    rw [List.getElem?_append_right (by rw [← r.1]; omega), ← r.1] at h2
    exact r'.2 _ x y h1 h2
theorem Ats.uncons (r : Ats K ι H vs (d :: ds)) : ∃ v vs', vs = v :: vs' ∧ At K ι H v d ∧ Ats K ι H vs' ds := by
  cases vs with
  | nil => have := r.1; simp at this
  | cons v vs' => exact ⟨v, vs', rfl, r.2 0 v d rfl rfl, by have := r.1; simpa using this, fun i x y h1 h2 => r.2 (i + 1) x y h1 h2⟩
theorem Ats.unnil (r : Ats K ι H vs []) : vs = [] := List.length_eq_zero_iff.mp r.1
theorem Ats.get (r : Ats K ι H vs ds) {i : Nat} {d : D} (h : ds[i]? = some d) : ∃ v, vs[i]? = some v ∧ At K ι H v d := by
  have hi := (List.getElem?_eq_some_iff.mp h).1
  have hv : i < vs.length := by rw [r.1]; exact hi
  exact ⟨vs[i], List.getElem?_eq_getElem hv, r.2 i _ _ (List.getElem?_eq_getElem hv) h⟩
end

/-- what stands in a cell -/
def CAt (K : W.Frag) (ι : Io) (H : Hp) (a : Addr) : CT → Prop
  | .lst ds => ∃ vs, H a = some (.lst vs) ∧ Ats K ι H vs ds
  | .dct kd => ∃ kv, H a = some (.dK kv) ∧ Pts K ι H kv kd
  | .lck ob kv kd => H a = some (.frz ob (.dK kv)) ∧ Pts K ι H kv kd
  | .ins C fd => ∃ dx fv, H a = some (.ins C dx fv) ∧ Pts K ι H fv fd
theorem CAt.there {K : W.Frag} {ι : Io} {H : Hp} {a : Addr} {c : CT} (h : CAt K ι H a c) : ∃ o, H a = some o := by
  cases c with
  | lst ds => obtain ⟨vs, h, _⟩ := h; exact ⟨_, h⟩
  | dct kd => obtain ⟨vs, h, _⟩ := h; exact ⟨_, h⟩
  | lck ob kv kd => exact ⟨_, h.1⟩
  | ins C fd => obtain ⟨_, vs, h, _⟩ := h; exact ⟨_, h⟩
/-- the store stands in the heap -/
structure Rep (K : W.Frag) (ι : Io) (μ : Sto) (H : Hp) : Prop where
  len : ι.length = μ.length
  nd : ι.Nodup
  at_ : ∀ (n : Nat) (a : Addr) (c : CT), ι[n]? = some a → μ[n]? = some c → CAt K ι H a c
theorem Rep.free {K : W.Frag} {ι : Io} {μ : Sto} {H : Hp} (r : Rep K ι μ H) {p : Addr} (h : H p = none) : p ∉ ι := fun z => by
  obtain ⟨n, e⟩ := List.mem_iff_getElem?.mp z
  have hn : n < μ.length := by rw [← r.len]; exact (List.getElem?_eq_some_iff.mp e).1
  obtain ⟨o, ho⟩ := (r.at_ n p _ e (List.getElem?_eq_getElem hn)).there
  rw [h] at ho; cases ho
theorem Rep.cell {K : W.Frag} {ι : Io} {μ : Sto} {H : Hp} (r : Rep K ι μ H) {n : Nat} {c : CT} (h : μ[n]? = some c) : ∃ a, ι[n]? = some a ∧ CAt K ι H a c := by
  have hn : n < ι.length := by rw [r.len]; exact (List.getElem?_eq_some_iff.mp h).1
  exact ⟨ι[n], List.getElem?_eq_getElem hn, r.at_ n _ c (List.getElem?_eq_getElem hn) h⟩

/-- new objects that are no cells -/
theorem Gr.new {ι : Io} {H : Hp} {p : Addr} {o : HO} (h : H p = none) (n : p ∉ ι) : Gr ι H ι (upd H p o) :=
  ⟨fun _ _ h => h, fun a u e m => ⟨by rw [upd_ne (ne_of_none e h)]; exact e, m⟩⟩
theorem Rep.new {K : W.Frag} {ι : Io} {μ : Sto} {H : Hp} {p : Addr} {o : HO} (r : Rep K ι μ H) (h : H p = none) : Rep K ι μ (upd H p o) := by
  have g := Gr.new (o := o) h (r.free h)
  refine ⟨r.len, r.nd, fun n a c e1 e2 => ?_⟩
  have z := r.at_ n a c e1 e2
  cases c with
  | lst ds => obtain ⟨vs, h1, h2⟩ := z; exact ⟨vs, by rw [upd_ne (ne_of_none h1 h)]; exact h1, h2.gr g⟩
  | dct kd => obtain ⟨kv, h1, h2⟩ := z; exact ⟨kv, by rw [upd_ne (ne_of_none h1 h)]; exact h1, h2.gr g⟩
  | lck ob kv kd => exact ⟨by rw [upd_ne (ne_of_none z.1 h)]; exact z.1, z.2.gr g⟩
  | ins C fd => obtain ⟨dx, fv, h1, h2⟩ := z; exact ⟨dx, fv, by rw [upd_ne (ne_of_none h1 h)]; exact h1, h2.gr g⟩
theorem nodup_ix2 {N : List Addr} (hN : N.Nodup) {i j : Nat} {x : Addr} (a : N[i]? = some x) (b : N[j]? = some x) : i = j := by
  obtain ⟨h1, e1⟩ := List.getElem?_eq_some_iff.mp a
  obtain ⟨h2, e2⟩ := List.getElem?_eq_some_iff.mp b
  exact (List.getElem_inj hN).mp (e1.trans e2.symm)
/-- the objects of one cell are changed -/
theorem Gr.chg {ι : Io} {H : Hp} {p : Addr} {o : HO} (m : p ∈ ι) : Gr ι H ι (upd H p o) :=
  ⟨fun _ _ h => h, fun a u e n => ⟨by rw [upd_ne (fun z => n (by rw [z]; exact m))]; exact e, n⟩⟩
theorem Rep.chg {K : W.Frag} {ι : Io} {μ : Sto} {H : Hp} {p : Addr} {o : HO} {n : Nat} {c : CT} (r : Rep K ι μ H) (hn : ι[n]? = some p)
    (hc : CAt K ι (upd H p o) p c) : Rep K ι (μ.set n c) (upd H p o) := by
  have m : p ∈ ι := List.mem_of_getElem? hn
  have g := Gr.chg (H := H) (o := o) m
  refine ⟨by simp [r.len], r.nd, fun j a c' e1 e2 => ?_⟩
  by_cases hj : n = j
  · subst hj
    have hl : n < μ.length := by rw [← r.len]; exact (List.getElem?_eq_some_iff.mp hn).1
    rw [List.getElem?_set_self hl] at e2
    cases e2
    rw [hn] at e1; cases e1
    exact hc
  · rw [List.getElem?_set_ne hj] at e2
    have ne : a ≠ p := fun z => hj (nodup_ix2 r.nd hn (z ▸ e1))
    have z := r.at_ j a c' e1 e2
    cases c' with
    | lst ds => obtain ⟨vs, h1, h2⟩ := z; exact ⟨vs, by rw [upd_ne ne]; exact h1, h2.gr g⟩
    | dct kd => obtain ⟨kv, h1, h2⟩ := z; exact ⟨kv, by rw [upd_ne ne]; exact h1, h2.gr g⟩
    | lck ob kv kd => exact ⟨by rw [upd_ne ne]; exact z.1, z.2.gr g⟩
    | ins C fd => obtain ⟨dx, fv, h1, h2⟩ := z; exact ⟨dx, fv, by rw [upd_ne ne]; exact h1, h2.gr g⟩

/-- the slots -/
def Loc (K : W.Frag) (ι : Io) (H : Hp) (σ : L2.St) (ρ : Rho) : Prop :=
  σ.length = ρ.length ∧ ∀ (i : Nat) (d : D), ρ[i]? = some (some d) → ∃ v, σ[i]? = some (some v) ∧ At K ι H v d
theorem Loc.gr {K : W.Frag} {ι ι' : Io} {H H' : Hp} {σ : L2.St} {ρ : Rho} (h : Loc K ι H σ ρ) (g : Gr ι H ι' H') : Loc K ι' H' σ ρ :=
  ⟨h.1, fun i d e => let ⟨v, e1, a⟩ := h.2 i d e; ⟨v, e1, a.gr g⟩⟩
theorem Loc.set {K : W.Frag} {ι : Io} {H : Hp} {σ : L2.St} {ρ : Rho} {v : V} {d : D} (h : Loc K ι H σ ρ) (a : At K ι H v d) (i : Nat) : Loc K ι H (σ.set i (some v)) (ρ.set i (some d)) := by
  refine ⟨by simp [h.1], fun j e q => ?_⟩
  by_cases hj : i = j
  · subst hj
    have hl : i < ρ.length := by
      have := (List.getElem?_eq_some_iff.mp q).1
      simpa using this
    rw [List.getElem?_set_self hl] at q
    cases q
    exact ⟨v, List.getElem?_set_self (by rw [h.1]; exact hl), a⟩
  · rw [List.getElem?_set_ne hj] at q
    obtain ⟨w, e1, a1⟩ := h.2 j e q
    exact ⟨w, by rw [List.getElem?_set_ne hj]; exact e1, a1⟩

/-! ### readings over data -/
abbrev QD := D → Sto → Prop
/-- an exception: its class, its attributes, the slots, the store -/
abbrev ED := Value → List (Str × D) → Rho → Sto → Prop
abbrev FE := Rho → Sto → QD → ED → Prop
def QV (K : W.Frag) (ι : Io) (H : Hp) (Q : VK) : QD := fun d μ => ∀ ι' H' v, Gr ι H ι' H' → Rep K ι' μ H' → At K ι' H' v d → Q v H'
def XV (K : W.Frag) (ι : Io) (H : Hp) (W : Value → Option Addr → Hp → Prop) (cls : Value) (fd : List (Str × D)) (μ : Sto) : Prop :=
  ∀ ι' H' dd fv, Gr ι H ι' H' → Rep K ι' μ H' → H' dd = some (.xd fv) → Pts K ι' H' fv fd → W cls (some dd) H'
def EW (K : W.Frag) (ι : Io) (H : Hp) (W : WX) (σ : L2.St) : ED := fun cls fd _ μ => XV K ι H (fun c d H' => W c d σ H') cls fd μ
def rdE (K : W.Frag) (W : WX) (f : FE) : TE := fun σ H Q => ∃ ι ρ μ, Rep K ι μ H ∧ Loc K ι H σ ρ ∧ f ρ μ (QV K ι H Q) (EW K ι H W σ)
def MonE (f : FE) : Prop := ∀ ρ μ (Q Q' : QD) (E E' : ED), (∀ d m, Q d m → Q' d m) → (∀ c l m, E c l ρ m → E' c l ρ m) → f ρ μ Q E → f ρ μ Q' E'
structure DE (X : Cx) (W : WX) (e : Expr) (f : FE) : Prop where
  mono : MonE f
  run : PE X e (rdE X.K W f)
theorem PE.imp {X : Cx} {e : Expr} {t t' : TE} (h : PE X e t) (k : ∀ σ H Q, t' σ H Q → t σ H Q) : PE X e t' :=
  ⟨fun pins s σ H Q I q => h.run pins s σ H Q I (k σ H Q q)⟩

section
variable {K : W.Frag} {ι ι' : Io} {H H' : Hp} {σ : L2.St} {W : WX}
theorem QV.gr {Q : VK} {d : D} {μ : Sto} (g : Gr ι H ι' H') (h : QV K ι H Q d μ) : QV K ι' H' Q d μ := fun _ _ v g' r a => h _ _ v (g.trans g') r a
theorem EW.gr {c : Value} {l : List (Str × D)} {ρ ρ' : Rho} {μ : Sto} (g : Gr ι H ι' H') (h : EW K ι H W σ c l ρ μ) : EW K ι' H' W σ c l ρ' μ :=
  fun _ _ dd fv g' r a p => h _ _ dd fv (g.trans g') r a p
end
end Dl

namespace Dl
open PySem PySem.Spec L2
open PyProof.Rows hiding St Binds

/-! ### tests, argument lists -/
abbrev FT := Rho → Sto → (Bool → Sto → Prop) → ED → Prop
abbrev FA := Rho → Sto → (List D → Sto → Prop) → ED → Prop
def TV (K : PySem.W.Frag) (ι : Io) (H : Hp) (Q : Bool → Hp → Prop) : Bool → Sto → Prop := fun b μ => ∀ ι' H', Gr ι H ι' H' → Rep K ι' μ H' → Q b H'
def AV (K : PySem.W.Frag) (ι : Io) (H : Hp) (Q : List V → Hp → Prop) : List D → Sto → Prop := fun ds μ => ∀ ι' H' vs, Gr ι H ι' H' → Rep K ι' μ H' → Ats K ι' H' vs ds → Q vs H'
def rdT (K : PySem.W.Frag) (W : WX) (f : FT) : TT := fun σ H Q => ∃ ι ρ μ, Rep K ι μ H ∧ Loc K ι H σ ρ ∧ f ρ μ (TV K ι H Q) (EW K ι H W σ)
def rdA (K : PySem.W.Frag) (W : WX) (f : FA) : TA := fun σ H Q => ∃ ι ρ μ, Rep K ι μ H ∧ Loc K ι H σ ρ ∧ f ρ μ (AV K ι H Q) (EW K ι H W σ)
def MonT (f : FT) : Prop := ∀ ρ μ (Q Q' : Bool → Sto → Prop) (E E' : ED), (∀ d m, Q d m → Q' d m) → (∀ c l m, E c l ρ m → E' c l ρ m) → f ρ μ Q E → f ρ μ Q' E'
def MonA (f : FA) : Prop := ∀ ρ μ (Q Q' : List D → Sto → Prop) (E E' : ED), (∀ d m, Q d m → Q' d m) → (∀ c l m, E c l ρ m → E' c l ρ m) → f ρ μ Q E → f ρ μ Q' E'
structure DT (X : Cx) (W : WX) (e : Expr) (f : FT) : Prop where
  mono : MonT f
  run : PT X e (rdT X.K W f)
structure DW (X : Cx) (W : WX) (e : Expr) (f : FT) : Prop where
  mono : MonT f
  run : PW X e (rdT X.K W f)
structure DA (X : Cx) (W : WX) (es : List Expr) (f : FA) : Prop where
  mono : MonA f
  run : PA X es (rdA X.K W f)
theorem PT.imp {X : Cx} {e : Expr} {t t' : TT} (h : PT X e t) (k : ∀ σ H Q, t' σ H Q → t σ H Q) : PT X e t' :=
  ⟨fun pins s σ H Q I q => h.run pins s σ H Q I (k σ H Q q)⟩
theorem PW.imp {X : Cx} {e : Expr} {t t' : TT} (h : PW X e t) (k : ∀ σ H Q, t' σ H Q → t σ H Q) : PW X e t' :=
  ⟨fun wh pins s σ H Q I q => h.run wh pins s σ H Q I (k σ H Q q)⟩
theorem PA.imp {X : Cx} {es : List Expr} {t t' : TA} (h : PA X es t) (k : ∀ σ H Q, t' σ H Q → t σ H Q) : PA X es t' :=
  ⟨fun pos pins s σ H Q I q => h.run pos pins s σ H Q I (k σ H Q q)⟩

section
variable {X : Cx} {W : WX} {a b c e : Expr} {es : List Expr} {fa fb fc f : FE} {ft fu : FT} {fl : FA} {pos : Pos} {K : PySem.W.Frag} {ι : Io} {H : Hp} {σ : L2.St} {ρ : Rho} {μ : Sto}

/-- one expression ahead of what follows -/
theorem chain1 (ha : MonE fa) {R : VK} {P : QD} (r : Rep K ι μ H) (l : Loc K ι H σ ρ) (h : fa ρ μ P (EW K ι H W σ))
    (k : ∀ d μ1 ι1 H1 v, P d μ1 → Gr ι H ι1 H1 → Rep K ι1 μ1 H1 → Loc K ι1 H1 σ ρ → At K ι1 H1 v d → R v H1) : rdE K W fa σ H R :=
  ⟨ι, ρ, μ, r, l, ha ρ μ _ _ _ _ (fun d m q ι1 H1 v g r1 a1 => k d m ι1 H1 v q g r1 (l.gr g) a1) (fun _ _ _ q => q) h⟩
theorem chainT (ha : MonT ft) {R : Bool → Hp → Prop} {P : Bool → Sto → Prop} (r : Rep K ι μ H) (l : Loc K ι H σ ρ) (h : ft ρ μ P (EW K ι H W σ))
    (k : ∀ d μ1 ι1 H1, P d μ1 → Gr ι H ι1 H1 → Rep K ι1 μ1 H1 → Loc K ι1 H1 σ ρ → R d H1) : rdT K W ft σ H R :=
  ⟨ι, ρ, μ, r, l, ha ρ μ _ _ _ _ (fun d m q ι1 H1 g r1 => k d m ι1 H1 q g r1 (l.gr g)) (fun _ _ _ q => q) h⟩
theorem chainA (ha : MonA fl) {R : List V → Hp → Prop} {P : List D → Sto → Prop} (r : Rep K ι μ H) (l : Loc K ι H σ ρ) (h : fl ρ μ P (EW K ι H W σ))
    (k : ∀ d μ1 ι1 H1 v, P d μ1 → Gr ι H ι1 H1 → Rep K ι1 μ1 H1 → Loc K ι1 H1 σ ρ → Ats K ι1 H1 v d → R v H1) : rdA K W fl σ H R :=
  ⟨ι, ρ, μ, r, l, ha ρ μ _ _ _ _ (fun d m q ι1 H1 v g r1 a1 => k d m ι1 H1 v q g r1 (l.gr g) a1) (fun _ _ _ q => q) h⟩

/-! ### names and constants -/
def fVar (i : Nat) : FE := fun ρ μ Q _ => ∃ d, ρ[i]? = some (some d) ∧ Q d μ
def fC (d : D) : FE := fun _ μ Q _ => Q d μ
theorem mVar (i : Nat) : MonE (fVar i) := fun ρ μ Q Q' E E' h _ ⟨d, e, q⟩ => ⟨d, e, h d μ q⟩
theorem mC (d : D) : MonE (fC d) := fun ρ μ Q Q' E E' h _ q => h d μ q
theorem de_var (i : Nat) {x : Str} (hN : X.N[i]? = some x := by rfl) (hv : Vis X.env.scope x := by first | exact Or.inl rfl | exact Or.inr (Or.inl rfl) | exact Or.inr (Or.inr rfl))
    (hd : (x == ("__debug__" : Str)) = false := by decide) (hcd : (x == ("__classdict__" : Str)) = false := by decide) : DE X W (.Name x pos) (fVar i) :=
  ⟨mVar i, PE.imp (pe_var hN hv hd hcd) fun σ H Q ⟨ι, ρ, μ, r, l, d, e, q⟩ => let ⟨v, e1, a⟩ := l.2 i d e; ⟨v, e1, q ι H v (Gr.refl _ _) r a⟩⟩
theorem de_k {v : V} {d : D} (h : PE X e (tC v)) (a : ∀ ι H, At X.K ι H v d) : DE X W e (fC d) :=
  ⟨mC d, PE.imp h fun σ H Q ⟨ι, ρ, μ, r, l, q⟩ => q ι H v (Gr.refl _ _) r (a ι H)⟩
theorem de_int {i : Int} {j} : DE X W (.Constant (.int i) j pos) (fC (.int i)) := de_k pe_int fun _ _ => .int i
theorem de_bl {b : Bool} {j} : DE X W (.Constant (.bool b) j pos) (fC (.bl b)) := de_k pe_bl fun _ _ => .bl b
theorem de_str {x : Str} {j} : DE X W (.Constant (.str x) j pos) (fC (.str x)) := de_k pe_str fun _ _ => .str x

/-! ### operators -/
abbrev G2 := D → D → Sto → QD → Prop
def MonG (g : G2) : Prop := ∀ x y μ (Q Q' : QD), (∀ d m, Q d m → Q' d m) → g x y μ Q → g x y μ Q'
structure OpD (X : Cx) (f : Value → Value → Sem Value) (g : G2) : Prop where
  mono : MonG g
  run : ∃ r, OpR X f r ∧ ∀ ι H μ x y dx dy Q, Rep X.K ι μ H → At X.K ι H x dx → At X.K ι H y dy → g dx dy μ (QV X.K ι H Q) → r x y H Q
theorem OpD.or {p : Value → Value → Sem Value} {g g' : G2} (h : OpD X p g) (h' : OpD X p g') : OpD X p (fun x y μ Q => g x y μ Q ∨ g' x y μ Q) := by
  obtain ⟨r, o, k⟩ := h.run
  obtain ⟨r', o', k'⟩ := h'.run
  refine ⟨fun x y μ Q Q' m q => q.imp (h.mono x y μ Q Q' m) (h'.mono x y μ Q Q' m), fun x y H Q => r x y H Q ∨ r' x y H Q, fun pins s σ H x y v u Q I rx ry q => ?_, fun ι H μ x y dx dy Q r a b q => ?_⟩
  · rcases q with q | q
    · exact o pins s σ H x y v u Q I rx ry q
    · exact o' pins s σ H x y v u Q I rx ry q
  · exact q.imp (k ι H μ x y dx dy Q r a b) (k' ι H μ x y dx dy Q r a b)
def fOp (g : G2) (fa fb : FE) : FE := fun ρ μ Q E => fa ρ μ (fun x μ1 => fb ρ μ1 (fun y μ2 => g x y μ2 Q) E) E
theorem mOp {g : G2} (mg : MonG g) (ma : MonE fa) (mb : MonE fb) : MonE (fOp g fa fb) := fun ρ μ Q Q' E E' h he q =>
  ma ρ μ _ _ E E' (fun x m q1 => mb ρ m _ _ E E' (fun y m2 q2 => mg x y m2 Q Q' h q2) he q1) he q
theorem rdOp {g : G2} {r : R2} (mg : MonG g) (ma : MonE fa) (mb : MonE fb)
    (k : ∀ ι H μ x y dx dy Q, Rep K ι μ H → At K ι H x dx → At K ι H y dy → g dx dy μ (QV K ι H Q) → r x y H Q) {Q : VK} (h : rdE K W (fOp g fa fb) σ H Q) :
    tOp r (rdE K W fa) (rdE K W fb) σ H Q := by
  obtain ⟨ι, ρ, μ, rp, l, q⟩ := h
  refine chain1 ma rp l q fun x μ1 ι1 H1 v q1 g1 r1 l1 a1 => ?_
  refine chain1 mb r1 l1 (mb ρ μ1 _ _ _ _ (fun _ _ q => q) (fun _ _ _ z => EW.gr g1 z) q1) fun y μ2 ι2 H2 u q2 g2 r2 l2 a2 => ?_
  exact k ι2 H2 μ2 v u x y Q r2 (a1.gr g2) a2 (mg x y μ2 _ _ (fun d m z => QV.gr (g1.trans g2) z) q2)
theorem de_op {op : Operator} {g : G2} (o : OpD X (binaryOp op) g) (ha : DE X W a fa) (hb : DE X W b fb) : DE X W (.BinOp a op b pos) (fOp g fa fb) := by
  obtain ⟨r, ho, k⟩ := o.run
  exact ⟨mOp o.mono ha.mono hb.mono, PE.imp (pe_op ho ha.run hb.run) fun σ H Q h => rdOp o.mono ha.mono hb.mono k h⟩
theorem de_cmp {op : CmpOp} {g : G2} (o : OpD X (compareOp op) g) (ha : DE X W a fa) (hb : DE X W b fb) (hm : behindInMarks op b = false := by first | exact nomark _ | rfl) :
    DE X W (.Compare a [op] [b] pos) (fOp g fa fb) := by
  obtain ⟨r, ho, k⟩ := o.run
  exact ⟨mOp o.mono ha.mono hb.mono, PE.imp (pe_cmpR ho ha.run hb.run hm) fun σ H Q h => rdOp o.mono ha.mono hb.mono k h⟩

/-- a value that is a bool, as a test -/
def fB (f : FE) : FT := fun ρ μ Q E => f ρ μ (fun d m => ∃ b, d = .bl b ∧ Q b m) E
theorem mB (m : MonE f) : MonT (fB f) := fun ρ μ Q Q' E E' h he q => m ρ μ _ _ E E' (fun d m ⟨b, e, z⟩ => ⟨b, e, h b m z⟩) he q
theorem rdB (m : MonE f) {Q : Bool → Hp → Prop} (h : rdT K W (fB f) σ H Q) : tB (rdE K W f) σ H Q := by
  obtain ⟨ι, ρ, μ, rp, l, q⟩ := h
  refine chain1 m rp l q fun d μ1 ι1 H1 v q1 g1 r1 l1 a1 => ?_
  obtain ⟨b, rfl, z⟩ := q1
  cases a1
  exact ⟨b, rfl, z ι1 H1 g1 r1⟩
theorem dt_val (h : DE X W e f) (he : ∀ whole, isTrue e X.env whole = (do let v ← whole; standAt e.pos; holding [v] (truthy v)) := by intro _; rfl) : DT X W e (fB f) :=
  ⟨mB h.mono, PT.imp (pt_val h.run he) fun σ H Q q => rdB h.mono q⟩
theorem dt_cmp {op : CmpOp} {g : G2} (o : OpD X (compareOp op) g) (ha : DE X W a fa) (hb : DE X W b fb) (hm : behindInMarks op b = false := by first | exact nomark _ | rfl) :
    DT X W (.Compare a [op] [b] pos) (fB (fOp g fa fb)) := by
  obtain ⟨r, ho, k⟩ := o.run
  refine ⟨mB (mOp o.mono ha.mono hb.mono), PT.imp (pt_cmpR ho ha.run hb.run hm) fun σ H Q h => ?_⟩
  obtain ⟨ι, ρ, μ, rp, l, q⟩ := h
  refine rdOp (Q := fun x H1 => ∃ c, x = .bl c ∧ Q c H1) o.mono ha.mono hb.mono k ⟨ι, ρ, μ, rp, l, mOp o.mono ha.mono hb.mono ρ μ _ _ _ _ (fun d m z => ?_) (fun _ _ _ z => z) q⟩
  intro ι1 H1 v g1 r1 a1
  obtain ⟨b, e, z⟩ := z
  cases e
  cases a1
  exact ⟨b, rfl, z ι1 H1 g1 r1⟩

/-! ### not, and, or, if -/
def fNot (f : FT) : FT := fun ρ μ Q E => f ρ μ (fun b m => Q (!b) m) E
def fAnd (f u : FT) : FT := fun ρ μ Q E => f ρ μ (fun b m => if b = true then u ρ m Q E else Q false m) E
def fOr (f u : FT) : FT := fun ρ μ Q E => f ρ μ (fun b m => if b = true then Q true m else u ρ m Q E) E
theorem mNot (m : MonT ft) : MonT (fNot ft) := fun ρ μ Q Q' E E' h he q => m ρ μ _ _ E E' (fun d m z => h _ m z) he q
theorem mAnd (m : MonT ft) (m' : MonT fu) : MonT (fAnd ft fu) := fun ρ μ Q Q' E E' h he q => m ρ μ _ _ E E' (fun d mm z => by
  cases d with
  | true => exact m' ρ mm Q Q' E E' h he z
  | false => exact h false mm z) he q
theorem mOr (m : MonT ft) (m' : MonT fu) : MonT (fOr ft fu) := fun ρ μ Q Q' E E' h he q => m ρ μ _ _ E E' (fun d mm z => by
  cases d with
  | false => exact m' ρ mm Q Q' E E' h he z
  | true => exact h true mm z) he q
theorem dt_not (h : DT X W a ft) : DT X W (.UnaryOp .Not a pos) (fNot ft) :=
  ⟨mNot h.mono, PT.imp (pt_not h.run) fun σ H Q ⟨ι, ρ, μ, rp, l, q⟩ => chainT h.mono rp l q fun d μ1 ι1 H1 q1 g1 r1 l1 => q1 ι1 H1 g1 r1⟩
theorem dw_and1 (h : DT X W a ft) : DW X W (.BoolOp .And [a] pos) ft := ⟨h.mono, pw_and1 h.run⟩
theorem dw_or1 (h : DT X W a ft) : DW X W (.BoolOp .Or [a] pos) ft := ⟨h.mono, pw_or1 h.run⟩
theorem dw_and (h : DT X W a ft) (h' : DW X W (.BoolOp .And (b :: es) pos) fu) : DW X W (.BoolOp .And (a :: b :: es) pos) (fAnd ft fu) :=
  ⟨mAnd h.mono h'.mono, PW.imp (pw_and h.run h'.run) fun σ H Q ⟨ι, ρ, μ, rp, l, q⟩ => chainT h.mono rp l q fun d μ1 ι1 H1 q1 g1 r1 l1 => by
    cases d with
    | true => exact ⟨ι1, ρ, μ1, r1, l1, h'.mono ρ μ1 _ _ _ _ (fun b m z ι2 H2 g2 r2 => z ι2 H2 (g1.trans g2) r2) (fun _ _ _ z => EW.gr g1 z) q1⟩
    | false => exact q1 ι1 H1 g1 r1⟩
theorem dw_or (h : DT X W a ft) (h' : DW X W (.BoolOp .Or (b :: es) pos) fu) : DW X W (.BoolOp .Or (a :: b :: es) pos) (fOr ft fu) :=
  ⟨mOr h.mono h'.mono, PW.imp (pw_or h.run h'.run) fun σ H Q ⟨ι, ρ, μ, rp, l, q⟩ => chainT h.mono rp l q fun d μ1 ι1 H1 q1 g1 r1 l1 => by
    cases d with
    | false => exact ⟨ι1, ρ, μ1, r1, l1, h'.mono ρ μ1 _ _ _ _ (fun b m z ι2 H2 g2 r2 => z ι2 H2 (g1.trans g2) r2) (fun _ _ _ z => EW.gr g1 z) q1⟩
    | true => exact q1 ι1 H1 g1 r1⟩
theorem DW.pt (h : DW X W e ft) : DT X W e ft := ⟨h.mono, h.run.pt⟩
def fIf (t : FT) (f f' : FE) : FE := fun ρ μ Q E => t ρ μ (fun b m => if b = true then f ρ m Q E else f' ρ m Q E) E
theorem mIf (m : MonT ft) (ma : MonE fa) (mb : MonE fb) : MonE (fIf ft fa fb) := fun ρ μ Q Q' E E' h he q => m ρ μ _ _ E E' (fun d mm z => by
  cases d with
  | true => exact ma ρ mm Q Q' E E' h he z
  | false => exact mb ρ mm Q Q' E E' h he z) he q
theorem de_ifx (hc : DT X W c ft) (ha : DE X W a fa) (hb : DE X W b fb) : DE X W (.IfExp c a b pos) (fIf ft fa fb) :=
  ⟨mIf hc.mono ha.mono hb.mono, PE.imp (pe_ifExp hc.run ha.run hb.run) fun σ H Q ⟨ι, ρ, μ, rp, l, q⟩ => chainT hc.mono rp l q fun d μ1 ι1 H1 q1 g1 r1 l1 => by
    cases d with
    | true => exact ⟨ι1, ρ, μ1, r1, l1, ha.mono ρ μ1 _ _ _ _ (fun b m z => QV.gr g1 z) (fun _ _ _ z => EW.gr g1 z) q1⟩
    | false => exact ⟨ι1, ρ, μ1, r1, l1, hb.mono ρ μ1 _ _ _ _ (fun b m z => QV.gr g1 z) (fun _ _ _ z => EW.gr g1 z) q1⟩⟩
/-- .. as values -/
def fAndV (f f' : FE) : FE := fun ρ μ Q E => f ρ μ (fun d m => ∃ b, d = .bl b ∧ if b = true then f' ρ m Q E else Q (.bl false) m) E
def fOrV (f f' : FE) : FE := fun ρ μ Q E => f ρ μ (fun d m => ∃ b, d = .bl b ∧ if b = true then Q (.bl true) m else f' ρ m Q E) E
def fNotV (f : FE) : FE := fun ρ μ Q E => f ρ μ (fun d m => ∃ b, d = .bl b ∧ Q (.bl (!b)) m) E
theorem mAndV (m : MonE fa) (m' : MonE fb) : MonE (fAndV fa fb) := fun ρ μ Q Q' E E' h he q => m ρ μ _ _ E E' (fun d mm ⟨b, e, z⟩ => ⟨b, e, by
  cases b with
  | true => exact m' ρ mm Q Q' E E' h he z
  | false => exact h _ mm z⟩) he q
theorem mOrV (m : MonE fa) (m' : MonE fb) : MonE (fOrV fa fb) := fun ρ μ Q Q' E E' h he q => m ρ μ _ _ E E' (fun d mm ⟨b, e, z⟩ => ⟨b, e, by
  cases b with
  | false => exact m' ρ mm Q Q' E E' h he z
  | true => exact h _ mm z⟩) he q
theorem mNotV (m : MonE fa) : MonE (fNotV fa) := fun ρ μ Q Q' E E' h he q => m ρ μ _ _ E E' (fun d mm ⟨b, e, z⟩ => ⟨b, e, h _ mm z⟩) he q
theorem de_one {op} (h : DE X W a fa) : DE X W (.BoolOp op [a] pos) fa := ⟨h.mono, pe_one h.run⟩
theorem de_and (h : DE X W a fa) (h' : DE X W (.BoolOp .And (b :: es) pos) fb) : DE X W (.BoolOp .And (a :: b :: es) pos) (fAndV fa fb) :=
  ⟨mAndV h.mono h'.mono, PE.imp (pe_and h.run h'.run) fun σ H Q ⟨ι, ρ, μ, rp, l, q⟩ => chain1 h.mono rp l q fun d μ1 ι1 H1 v q1 g1 r1 l1 a1 => by
    obtain ⟨k, rfl, z⟩ := q1
    cases a1
    refine ⟨k, rfl, ?_⟩
    cases k with
    | true => exact ⟨ι1, ρ, μ1, r1, l1, h'.mono ρ μ1 _ _ _ _ (fun b m z => QV.gr g1 z) (fun _ _ _ z => EW.gr g1 z) z⟩
    | false => exact z ι1 H1 _ g1 r1 (.bl false)⟩
theorem de_or (h : DE X W a fa) (h' : DE X W (.BoolOp .Or (b :: es) pos) fb) : DE X W (.BoolOp .Or (a :: b :: es) pos) (fOrV fa fb) :=
  ⟨mOrV h.mono h'.mono, PE.imp (pe_or h.run h'.run) fun σ H Q ⟨ι, ρ, μ, rp, l, q⟩ => chain1 h.mono rp l q fun d μ1 ι1 H1 v q1 g1 r1 l1 a1 => by
    obtain ⟨k, rfl, z⟩ := q1
    cases a1
    refine ⟨k, rfl, ?_⟩
    cases k with
    | false => exact ⟨ι1, ρ, μ1, r1, l1, h'.mono ρ μ1 _ _ _ _ (fun b m z => QV.gr g1 z) (fun _ _ _ z => EW.gr g1 z) z⟩
    | true => exact z ι1 H1 _ g1 r1 (.bl true)⟩
theorem de_not (h : DE X W a fa) : DE X W (.UnaryOp .Not a pos) (fNotV fa) :=
  ⟨mNotV h.mono, PE.imp (pe_not h.run) fun σ H Q ⟨ι, ρ, μ, rp, l, q⟩ => chain1 h.mono rp l q fun d μ1 ι1 H1 v q1 g1 r1 l1 a1 => by
    obtain ⟨k, rfl, z⟩ := q1
    cases a1
    exact ⟨k, rfl, z ι1 H1 _ g1 r1 (.bl _)⟩⟩

/-! ### argument lists, displays -/
def fNil : FA := fun _ μ Q _ => Q [] μ
def fCons (f : FE) (g : FA) : FA := fun ρ μ Q E => f ρ μ (fun d m => g ρ m (fun ds m2 => Q (d :: ds) m2) E) E
theorem mNil : MonA fNil := fun _ μ _ _ _ _ h _ q => h _ μ q
theorem mCons (m : MonE f) (m' : MonA fl) : MonA (fCons f fl) := fun ρ μ Q Q' E E' h he q => m ρ μ _ _ E E' (fun d mm z => m' ρ mm _ _ E E' (fun ds m2 z2 => h _ m2 z2) he z) he q
theorem da_nil : DA X W [] fNil := ⟨mNil, PA.imp pa_nil fun σ H Q ⟨ι, ρ, μ, rp, l, q⟩ => q ι H [] (Gr.refl _ _) rp Ats.nil⟩
theorem da_cons (h : DE X W e f) (h' : DA X W es fl) (hs : starEach (e :: es) X.env = (false, eval e X.env) :: starEach es X.env := by rfl) : DA X W (e :: es) (fCons f fl) :=
  ⟨mCons h.mono h'.mono, PA.imp (pa_cons h.run h'.run hs) fun σ H Q ⟨ι, ρ, μ, rp, l, q⟩ => chain1 h.mono rp l q fun d μ1 ι1 H1 v q1 g1 r1 l1 a1 =>
    chainA h'.mono r1 l1 (h'.mono ρ μ1 _ _ _ _ (fun _ _ z => z) (fun _ _ _ z => EW.gr g1 z) q1) fun ds μ2 ι2 H2 vs q2 g2 r2 l2 a2 => q2 ι2 H2 _ (g1.trans g2) r2 (Ats.cons (a1.gr g2) a2)⟩

theorem At.newL {vs : List V} {ds : List D} {p : Addr} (h : H p = none) (n : p ∉ ι) (a : Ats K ι H vs ds) : At K ι (upd H p (.lst vs)) (.ref p) (.lst ds) :=
  .lst upd_same n a.1 fun i v d e1 e2 => (a.2 i v d e1 e2).gr (Gr.new h n)
theorem At.newT {vs : List V} {ds : List D} {p : Addr} (h : H p = none) (n : p ∉ ι) (a : Ats K ι H vs ds) : At K ι (upd H p (.tup vs)) (.ref p) (.tup ds) :=
  .tup (.inl upd_same) n a.1 fun i v d e1 e2 => (a.2 i v d e1 e2).gr (Gr.new h n)
/-- a new cell -/
theorem Gr.cellNew {p : Addr} {o : HO} (h : H p = none) (n : p ∉ ι) : Gr ι H (ι ++ [p]) (upd H p o) := by
  refine ⟨fun n a e => by rw [List.getElem?_append_left (List.getElem?_eq_some_iff.mp e).1]; exact e, fun a u e m => ⟨by rw [upd_ne (ne_of_none e h)]; exact e, fun z => ?_⟩⟩
  rcases List.mem_append.mp z with z | z
  · exact m z
  · rw [List.mem_singleton.mp z, h] at e; cases e
theorem Rep.cellNew {p : Addr} {o : HO} {c : CT} (r : Rep K ι μ H) (h : H p = none) (hc : CAt K (ι ++ [p]) (upd H p o) p c) : Rep K (ι ++ [p]) (μ ++ [c]) (upd H p o) := by
  have n := r.free h
  have g := Gr.cellNew (o := o) h n
  refine ⟨by simp [r.len], ?_, fun j a c' e1 e2 => ?_⟩
  · refine List.nodup_append.mpr ⟨r.nd, by simp, fun a ha b hb e => ?_⟩
    rw [List.mem_singleton.mp hb] at e
    exact n (e ▸ ha)
  · by_cases hj : j < ι.length
    · rw [List.getElem?_append_left hj] at e1
      rw [List.getElem?_append_left (by rw [← r.len]; exact hj)] at e2
      have z := r.at_ j a c' e1 e2
      have ne : a ≠ p := fun w => n (w ▸ List.mem_of_getElem? e1)
      cases c' with
      | lst ds => obtain ⟨vs, h1, h2⟩ := z; exact ⟨vs, by rw [upd_ne ne]; exact h1, h2.gr g⟩
      | dct kd => obtain ⟨kv, h1, h2⟩ := z; exact ⟨kv, by rw [upd_ne ne]; exact h1, h2.gr g⟩
      | lck ob kv kd => exact ⟨by rw [upd_ne ne]; exact z.1, z.2.gr g⟩
      | ins C fd => obtain ⟨dx, fv, h1, h2⟩ := z; exact ⟨dx, fv, by rw [upd_ne ne]; exact h1, h2.gr g⟩
    · have hl : j = ι.length := by
        have := (List.getElem?_eq_some_iff.mp e1).1
        rw [List.length_append, List.length_singleton] at this
        omega
      subst hl
      rw [List.getElem?_append_right (Nat.le_refl _), Nat.sub_self] at e1
      rw [List.getElem?_append_right (by rw [r.len]; exact Nat.le_refl _), r.len, Nat.sub_self] at e2
      cases Option.some.inj e1
      cases Option.some.inj e2
      exact hc
/-- a new list: as data, or as a cell -/
def gNewL (ds : List D) (μ : Sto) (Q : QD) : Prop := ds.length ≤ sizeLine ∧ (Q (.lst ds) μ ∨ Q (.cell μ.length) (μ ++ [.lst ds]))
theorem gNewL_mono {ds : List D} {Q Q' : QD} (h : ∀ d m, Q d m → Q' d m) (q : gNewL ds μ Q) : gNewL ds μ Q' := ⟨q.1, q.2.imp (h _ _) (h _ _)⟩
theorem newL_ok {vs : List V} {ds : List D} {Q : VK} (r : Rep K ι μ H) (a : Ats K ι H vs ds) (q : gNewL ds μ (QV K ι H Q)) (p : Addr) (h : H p = none) : Q (.ref p) (upd H p (.lst vs)) := by
  have n := r.free h
  rcases q.2 with q | q
  · exact q ι _ _ (Gr.new h n) (r.new h) (.newL h n a)
  · have g := Gr.cellNew (o := .lst vs) h n
    exact q _ _ _ g (r.cellNew h ⟨vs, upd_same, a.gr g⟩) (.cell (by rw [List.getElem?_append_right (by rw [r.len]; exact Nat.le_refl _), r.len, Nat.sub_self]; rfl))
def fLst (g : FA) : FE := fun ρ μ Q E => g ρ μ (fun ds m => gNewL ds m Q) E
def fTup (g : FA) : FE := fun ρ μ Q E => g ρ μ (fun ds m => ds.length ≤ sizeLine ∧ Q (.tup ds) m) E
theorem mLst (m : MonA fl) : MonE (fLst fl) := fun ρ μ Q Q' E E' h he q => m ρ μ _ _ E E' (fun d mm z => gNewL_mono h z) he q
theorem mTup (m : MonA fl) : MonE (fTup fl) := fun ρ μ Q Q' E E' h he q => m ρ μ _ _ E E' (fun d mm z => ⟨z.1, h _ mm z.2⟩) he q
theorem de_lst (h : DA X W es fl) : DE X W (.List es pos) (fLst fl) :=
  ⟨mLst h.mono, PE.imp (pe_lst h.run) fun σ H Q ⟨ι, ρ, μ, rp, l, q⟩ => chainA h.mono rp l q fun ds μ1 ι1 H1 vs q1 g1 r1 l1 a1 =>
    ⟨by rw [a1.1]; exact q1.1, newL_ok r1 a1 (gNewL_mono (fun d m z => QV.gr g1 z) q1)⟩⟩
theorem de_tup {x1} (h : DA X W es fl) : DE X W (.Tuple es x1 pos) (fTup fl) :=
  ⟨mTup h.mono, PE.imp (pe_tup h.run) fun σ H Q ⟨ι, ρ, μ, rp, l, q⟩ => chainA h.mono rp l q fun ds μ1 ι1 H1 vs q1 g1 r1 l1 a1 =>
    ⟨by rw [a1.1]; exact q1.1, fun p hp => q1.2 ι1 _ _ (g1.trans (Gr.new hp (r1.free hp))) (r1.new hp) (.newT hp (r1.free hp) a1)⟩⟩
end
end Dl

namespace Dl
open PySem PySem.Spec L2
open PyProof.Rows hiding St Binds

/-! ### what a datum is read as -/
def asL (μ : Sto) : D → Option (List D)
  | .lst ds => some ds
  | .cell n => match μ[n]? with | some (.lst ds) => some ds | _ => none
  | _ => none
def asD (μ : Sto) : D → Option (List (Key × D))
  | .dct kd => some kd
  | .cell n => match μ[n]? with | some (.dct kd) => some kd | some (.lck _ _ kd) => some kd | _ => none
  | _ => none
/-- a list or a tuple -/
def asS (μ : Sto) : D → Option (List D)
  | .tup ds => some ds
  | d => asL μ d
section
variable {K : PySem.W.Frag} {ι : Io} {H : Hp} {μ : Sto} {v : V} {d : D} {ds : List D} {kd : List (Key × D)}
theorem asL_at (r : Rep K ι μ H) (a : At K ι H v d) (h : asL μ d = some ds) : ∃ p vs, v = .ref p ∧ H p = some (.lst vs) ∧ Ats K ι H vs ds := by
  cases a with
  | lst h1 n l q => cases Option.some.inj h; exact ⟨_, _, rfl, h1, l, q⟩
  | @cell p n hn =>
    simp only [asL] at h
    split at h
    · rename_i e
      cases Option.some.inj h
      obtain ⟨vs, h1, h2⟩ := r.at_ n p _ hn e
      exact ⟨p, vs, rfl, h1, h2⟩
    · cases h
  | _ => cases h
theorem asD_at (r : Rep K ι μ H) (a : At K ι H v d) (h : asD μ d = some kd) : ∃ p kv, v = .ref p ∧ Rd H p (.dK kv) ∧ Pts K ι H kv kd := by
  cases a with
  | dct h1 n l q => cases Option.some.inj h; exact ⟨_, _, rfl, h1, l, q⟩
  | @cell p n hn =>
    simp only [asD] at h
    split at h
    · rename_i e
      cases Option.some.inj h
      obtain ⟨kv, h1, h2⟩ := r.at_ n p _ hn e
      exact ⟨p, kv, rfl, .inl h1, h2⟩
    · rename_i e
      cases Option.some.inj h
      obtain ⟨h1, h2⟩ := r.at_ n p _ hn e
      exact ⟨p, _, rfl, .inr ⟨_, h1⟩, h2⟩
    · cases h
  | _ => cases h
theorem asS_at (r : Rep K ι μ H) (a : At K ι H v d) (h : asS μ d = some ds) : ∃ p vs, v = .ref p ∧ (SqL K H p vs ∨ SqT K H p vs) ∧ Ats K ι H vs ds := by
  cases a with
  | tup h1 n l q => cases Option.some.inj h; exact ⟨_, _, rfl, .inr (.inl h1), l, q⟩
  | ktup h1 l q => cases Option.some.inj h; exact ⟨_, _, rfl, .inr (h1 H), l, q⟩
  | lst h1 n l q => cases Option.some.inj h; exact ⟨_, _, rfl, .inl (SqL.of h1), l, q⟩
  | cell hn =>
    obtain ⟨p, vs, e, h1, h2⟩ := asL_at r (.cell hn) (show asL μ (.cell _) = some ds from h)
    exact ⟨p, vs, e, .inl (SqL.of h1), h2⟩
  | _ => cases h
theorem tup_at (a : At K ι H v (.tup ds)) : ∃ p vs, v = .ref p ∧ SqT K H p vs ∧ Ats K ι H vs ds := by
  cases a with
  | tup h1 n l q => exact ⟨_, _, rfl, .inl h1, l, q⟩
  | ktup h1 l q => exact ⟨_, _, rfl, h1 H, l, q⟩
end

/-! ### the two-place operators -/
theorem OpD.imp {X : Cx} {f : Value → Value → Sem Value} {g g' : G2} (h : OpD X f g') (m : MonG g) (k : ∀ x y μ Q, g x y μ Q → g' x y μ Q) : OpD X f g := by
  obtain ⟨r, o, q⟩ := h.run
  exact ⟨m, r, o, fun ι H μ x y dx dy Q r a b z => q ι H μ x y dx dy Q r a b (k _ _ _ _ z)⟩
theorem opd_ii {X : Cx} {f : Value → Value → Sem Value} {C : Int → Int → Prop} {g : Int → Int → V} {gd : Int → Int → D} (o : OpR X f (rI C g)) (hg : ∀ i j K ι H, At K ι H (g i j) (gd i j)) :
    OpD X f (fun x y μ Q => ∃ i j, x = .int i ∧ y = .int j ∧ C i j ∧ Q (gd i j) μ) :=
  ⟨fun x y μ Q Q' h ⟨i, j, e1, e2, c, q⟩ => ⟨i, j, e1, e2, c, h _ _ q⟩, _, o, fun ι H μ x y dx dy Q r a b ⟨i, j, e1, e2, c, q⟩ => by
    subst e1; subst e2
    cases a; cases b
    exact ⟨i, j, rfl, rfl, c, q ι H _ (Gr.refl _ _) r (hg i j _ _ _)⟩⟩
theorem opd_ii0 {X : Cx} {f : Value → Value → Sem Value} {g : Int → Int → V} {gd : Int → Int → D} (o : OpR X f (rI0 g)) (hg : ∀ i j K ι H, At K ι H (g i j) (gd i j)) :
    OpD X f (fun x y μ Q => ∃ i j, x = .int i ∧ y = .int j ∧ Q (gd i j) μ) :=
  ⟨fun x y μ Q Q' h ⟨i, j, e1, e2, q⟩ => ⟨i, j, e1, e2, h _ _ q⟩, _, o, fun ι H μ x y dx dy Q r a b ⟨i, j, e1, e2, q⟩ => by
    subst e1; subst e2
    cases a; cases b
    exact ⟨i, j, rfl, rfl, q ι H _ (Gr.refl _ _) r (hg i j _ _ _)⟩⟩
/-- two texts to a value -/
theorem opd_ss {X : Cx} {f : Value → Value → Sem Value} {C : Str → Str → Prop} {g : Str → Str → V} {gd : Str → Str → D}
    (o : OpR X f (fun x y H Q => ∃ i j, x = .str i ∧ y = .str j ∧ C i j ∧ Q (g i j) H)) (hg : ∀ i j K ι H, At K ι H (g i j) (gd i j)) :
    OpD X f (fun x y μ Q => ∃ i j, x = .str i ∧ y = .str j ∧ C i j ∧ Q (gd i j) μ) :=
  ⟨fun x y μ Q Q' h ⟨i, j, e1, e2, c, q⟩ => ⟨i, j, e1, e2, c, h _ _ q⟩, _, o, fun ι H μ x y dx dy Q r a b ⟨i, j, e1, e2, c, q⟩ => by
    subst e1; subst e2
    cases a; cases b
    exact ⟨i, j, rfl, rfl, c, q ι H _ (Gr.refl _ _) r (hg i j _ _ _)⟩⟩
theorem opd_ss0 {X : Cx} {f : Value → Value → Sem Value} {g : Str → Str → V} {gd : Str → Str → D}
    (o : OpR X f (fun x y H Q => ∃ i j, x = .str i ∧ y = .str j ∧ Q (g i j) H)) (hg : ∀ i j K ι H, At K ι H (g i j) (gd i j)) :
    OpD X f (fun x y μ Q => ∃ i j, x = .str i ∧ y = .str j ∧ Q (gd i j) μ) :=
  ⟨fun x y μ Q Q' h ⟨i, j, e1, e2, q⟩ => ⟨i, j, e1, e2, h _ _ q⟩, _, o, fun ι H μ x y dx dy Q r a b ⟨i, j, e1, e2, q⟩ => by
    subst e1; subst e2
    cases a; cases b
    exact ⟨i, j, rfl, rfl, q ι H _ (Gr.refl _ _) r (hg i j _ _ _)⟩⟩

section
variable {X : Cx}
/-- x + y -/
def addD : G2 := fun x y μ Q => match x, y with
  | .int i, .int j => Q (.int (i + j)) μ
  | .str s, .str t => s.length + t.length ≤ sizeLine ∧ Q (.str (s ++ t)) μ
  | .tup xs, .tup ys => xs.length + ys.length ≤ sizeLine ∧ Q (.tup (xs ++ ys)) μ
  | x, y => ∃ xs ys, asL μ x = some xs ∧ asL μ y = some ys ∧ gNewL (xs ++ ys) μ Q
theorem opd_catL : OpD X (binaryOp .Add) (fun x y μ Q => ∃ xs ys, asL μ x = some xs ∧ asL μ y = some ys ∧ gNewL (xs ++ ys) μ Q) :=
  ⟨fun x y μ Q Q' h ⟨xs, ys, e1, e2, q⟩ => ⟨xs, ys, e1, e2, gNewL_mono h q⟩, _, op_cat, fun ι H μ x y dx dy Q r a b ⟨xs, ys, e1, e2, q⟩ => by
    obtain ⟨p, vs, rfl, h1, r1⟩ := asL_at r a e1
    obtain ⟨p', vs', rfl, h2, r2⟩ := asL_at r b e2
    refine ⟨p, p', vs, vs', rfl, rfl, h1, h2, ?_, fun l hl => newL_ok r (r1.app r2) q l hl⟩
    have := q.1
    rw [List.length_append] at this
    rw [r1.1, r2.1]; exact this⟩
theorem opd_catT : OpD X (binaryOp .Add) (fun x y μ Q => ∃ xs ys, x = .tup xs ∧ y = .tup ys ∧ xs.length + ys.length ≤ sizeLine ∧ Q (.tup (xs ++ ys)) μ) :=
  ⟨fun x y μ Q Q' h ⟨xs, ys, e1, e2, c, q⟩ => ⟨xs, ys, e1, e2, c, h _ _ q⟩, _, op_catA, fun ι H μ x y dx dy Q r a b ⟨xs, ys, e1, e2, c, q⟩ => by
    subst e1; subst e2
    have t1 : ∃ p vs, x = .ref p ∧ SqT X.K H p vs ∧ Ats X.K ι H vs xs := by
      cases a with
      | tup h1 n l q => exact ⟨_, _, rfl, .inl h1, l, q⟩
      | ktup h1 l q => exact ⟨_, _, rfl, h1 H, l, q⟩
    have t2 : ∃ p vs, y = .ref p ∧ SqT X.K H p vs ∧ Ats X.K ι H vs ys := by
      cases b with
      | tup h1 n l q => exact ⟨_, _, rfl, .inl h1, l, q⟩
      | ktup h1 l q => exact ⟨_, _, rfl, h1 H, l, q⟩
    obtain ⟨p, vs, rfl, h1, r1⟩ := t1
    obtain ⟨p', vs', rfl, h2, r2⟩ := t2
    refine ⟨p, p', vs, vs', rfl, rfl, h1, h2, by rw [r1.1, r2.1]; exact c, fun e => ?_, fun _ e => ?_, fun _ _ l hl => ?_⟩
    · subst e
      have : xs = [] := List.length_eq_zero_iff.mp r1.1.symm
      subst this
      exact q ι H _ (Gr.refl _ _) r b
    · subst e
      have : ys = [] := List.length_eq_zero_iff.mp r2.1.symm
      subst this
      rw [List.append_nil] at q
      exact q ι H _ (Gr.refl _ _) r a
    · exact q ι _ _ (Gr.new hl (r.free hl)) (r.new hl) (.newT hl (r.free hl) (r1.app r2))⟩
theorem opd_add : OpD X (binaryOp .Add) addD :=
  OpD.imp (((opd_ii0 (gd := fun i j => .int (i + j)) op_add fun _ _ _ _ _ => .int _).or (opd_ss (gd := fun s t => .str (s ++ t)) op_add_str fun _ _ _ _ _ => .str _)).or (opd_catT.or opd_catL))
    (fun x y μ Q Q' h q => by
      unfold addD at q ⊢
      split at q
      · exact h _ _ q
      · exact ⟨q.1, h _ _ q.2⟩
      · exact ⟨q.1, h _ _ q.2⟩
      · obtain ⟨xs, ys, e1, e2, q⟩ := q; exact ⟨xs, ys, e1, e2, gNewL_mono h q⟩)
    (fun x y μ Q q => by
      unfold addD at q
      split at q
      · exact .inl (.inl ⟨_, _, rfl, rfl, q⟩)
      · exact .inl (.inr ⟨_, _, rfl, rfl, q⟩)
      · exact .inr (.inl ⟨_, _, rfl, rfl, q⟩)
      · exact .inr (.inr q))
def subD : G2 := fun x y μ Q => ∃ i j, x = .int i ∧ y = .int j ∧ Q (.int (i - j)) μ
theorem opd_sub : OpD X (binaryOp .Sub) subD := opd_ii0 (gd := fun i j => .int (i - j)) op_sub fun _ _ _ _ _ => .int _
def modD : G2 := fun x y μ Q => ∃ i j, x = .int i ∧ y = .int j ∧ 0 < j ∧ Q (.int (i % j)) μ
theorem opd_mod : OpD X (binaryOp .Mod) modD := opd_ii (gd := fun i j => .int (i % j)) op_mod fun _ _ _ _ _ => .int _
def fdivD : G2 := fun x y μ Q => ∃ i j, x = .int i ∧ y = .int j ∧ CDivW i j ∧ Q (.int (i / j)) μ
theorem opd_fdiv : OpD X (binaryOp .FloorDiv) fdivD := opd_ii (gd := fun i j => .int (i / j)) op_fdivW fun _ _ _ _ _ => .int _
def powD : G2 := fun x y μ Q => ∃ i j, x = .int i ∧ y = .int j ∧ CPow i j ∧ Q (.int (i ^ j.toNat)) μ
theorem opd_pow : OpD X (binaryOp .Pow) powD := opd_ii (gd := fun i j => .int (i ^ j.toNat)) op_pow fun _ _ _ _ _ => .int _
/-! ### comparisons -/
def ltD : G2 := fun x y μ Q => match x, y with
  | .int i, .int j => Q (.bl (decide (i < j))) μ
  | .str s, .str t => Q (.bl (decide (s.cps.toList < t.cps.toList))) μ
  | _, _ => False
def leD : G2 := fun x y μ Q => match x, y with
  | .int i, .int j => Q (.bl (decide (i ≤ j))) μ
  | .str s, .str t => Q (.bl (!decide (t.cps.toList < s.cps.toList))) μ
  | _, _ => False
def gtD : G2 := fun x y μ Q => ∃ i j, x = .int i ∧ y = .int j ∧ Q (.bl (decide (j < i))) μ
def geD : G2 := fun x y μ Q => ∃ i j, x = .int i ∧ y = .int j ∧ Q (.bl (decide (j ≤ i))) μ
theorem opd_gt : OpD X (compareOp .Gt) gtD := opd_ii0 (gd := fun i j => .bl (decide (j < i))) op_gt fun _ _ _ _ _ => .bl _
theorem opd_lt : OpD X (compareOp .Lt) ltD :=
  OpD.imp ((opd_ii0 (gd := fun i j => .bl (decide (i < j))) op_lt fun _ _ _ _ _ => .bl _).or (opd_ss0 (gd := fun s t => .bl (decide (s.cps.toList < t.cps.toList))) op_lt_str fun _ _ _ _ _ => .bl _))
    (fun x y μ Q Q' h q => by unfold ltD at q ⊢; split at q <;> first | exact h _ _ q | exact q)
    (fun x y μ Q q => by
      unfold ltD at q
      split at q
      · exact .inl ⟨_, _, rfl, rfl, q⟩
      · exact .inr ⟨_, _, rfl, rfl, q⟩
      · exact q.elim)
theorem opd_le : OpD X (compareOp .LtE) leD :=
  OpD.imp ((opd_ii0 (gd := fun i j => .bl (decide (i ≤ j))) op_le fun _ _ _ _ _ => .bl _).or (opd_ss0 (gd := fun s t => .bl (!decide (t.cps.toList < s.cps.toList))) op_le_str fun _ _ _ _ _ => .bl _))
    (fun x y μ Q Q' h q => by unfold leD at q ⊢; split at q <;> first | exact h _ _ q | exact q)
    (fun x y μ Q q => by
      unfold leD at q
      split at q
      · exact .inl ⟨_, _, rfl, rfl, q⟩
      · exact .inr ⟨_, _, rfl, rfl, q⟩
      · exact q.elim)
end

/-! ### data without cells, instances and dicts as the library's data -/
mutual
def D.py : D → Option PyData
  | .non => some .none
  | .bl b => some (.bool b)
  | .int i => some (.int i)
  | .str s => some (.str s)
  | .lst ds => (pyAll ds).map .list
  | .tup ds => (pyAll ds).map .tuple
  | _ => none
def pyAll : List D → Option (List PyData)
  | [] => some []
  | d :: ds => match d.py, pyAll ds with | some p, some ps => some (p :: ps) | _, _ => none
end
def pyS (μ : Sto) : D → Option PyData
  | .cell n => match μ[n]? with | some (.lst ds) => (pyAll ds).map .list | _ => none
  | d => d.py
theorem pyAll_cons {d : D} {ds : List D} {ps : List PyData} (h : pyAll (d :: ds) = some ps) : ∃ p qs, d.py = some p ∧ pyAll ds = some qs ∧ ps = p :: qs := by
  unfold pyAll at h
  split at h
  · rename_i e1 e2
    exact ⟨_, _, e1, e2, (Option.some.inj h).symm⟩
  · cases h
section
variable {K : PySem.W.Frag} {ι : Io} {H : Hp} {μ : Sto}
mutual
theorem dp_of : ∀ {d : D} {v : V} {p : PyData}, At K ι H v d → d.py = some p → Dp K H v p
  | .non, _, _, a, h => by cases a; unfold D.py at h; cases Option.some.inj h; exact .non
  | .bl b, _, _, a, h => by cases a; unfold D.py at h; cases Option.some.inj h; exact .bl b
  | .int i, _, _, a, h => by cases a; unfold D.py at h; cases Option.some.inj h; exact .int i
  | .str s, _, _, a, h => by cases a; unfold D.py at h; cases Option.some.inj h; exact .str s
  | .lst ds, _, _, a, h => by
    unfold D.py at h
    obtain ⟨ps, e, rfl⟩ := Option.map_eq_some_iff.mp h
    cases a with
    | lst h1 n l q => exact .lst (SqL.of h1) (dpAll_of ⟨l, q⟩ e)
  | .tup ds, _, _, a, h => by
    unfold D.py at h
    obtain ⟨ps, e, rfl⟩ := Option.map_eq_some_iff.mp h
    cases a with
    | tup h1 n l q => exact .tup (.inl h1) (dpAll_of ⟨l, q⟩ e)
    | ktup h1 l q => exact .tup (h1 H) (dpAll_of ⟨l, q⟩ e)
  | .dct _, _, _, _, h => by unfold D.py at h; cases h
  | .ins _ _, _, _, _, h => by unfold D.py at h; cases h
  | .cell _, _, _, _, h => by unfold D.py at h; cases h
  | .ref _, _, _, _, h => by unfold D.py at h; cases h
  | .fzl _, _, _, _, h => by unfold D.py at h; cases h
  | .ty _, _, _, _, h => by unfold D.py at h; cases h
theorem dpAll_of : ∀ {ds : List D} {vs : List V} {ps : List PyData}, Ats K ι H vs ds → pyAll ds = some ps → DpAll K H vs ps
  | [], vs, ps, a, h => by
    unfold pyAll at h
    cases Option.some.inj h
    cases Ats.unnil a
    exact .nil
  | d :: ds, vs, ps, a, h => by
    obtain ⟨p, qs, e1, e2, rfl⟩ := pyAll_cons h
    obtain ⟨v, vs', rfl, a1, a2⟩ := a.uncons
    exact .cons (dp_of a1 e1) (dpAll_of a2 e2)
end
theorem dpS_of {d : D} {v : V} {p : PyData} (r : Rep K ι μ H) (a : At K ι H v d) (h : pyS μ d = some p) : Dp K H v p := by
  cases d with
  | cell n =>
    cases a with
    | cell hn =>
      simp only [pyS] at h
      split at h
      · rename_i e
        obtain ⟨ps, e2, rfl⟩ := Option.map_eq_some_iff.mp h
        obtain ⟨vs, h1, h2⟩ := r.at_ n _ _ hn e
        exact .lst (SqL.of h1) (dpAll_of h2 e2)
      · cases h
  | _ => exact dp_of a h
end
section
variable {X : Cx}
theorem opd_eqP (hu : X.A.units + 64 < cLine) : OpD X (compareOp .Eq) (fun x y μ Q => ∃ p q, pyS μ x = some p ∧ pyS μ y = some q ∧ SeqAt.shaped p = true ∧ SeqAt.shaped q = true ∧ Q (.bl (PyData.eqv p q)) μ) :=
  ⟨fun x y μ Q Q' h ⟨p, q, e1, e2, c1, c2, z⟩ => ⟨p, q, e1, e2, c1, c2, h _ _ z⟩, _, op_eqD hu, fun ι H μ x y dx dy Q r a b ⟨p, q, e1, e2, c1, c2, z⟩ =>
    ⟨p, q, dpS_of r a e1, dpS_of r b e2, c1, c2, z ι H _ (Gr.refl _ _) r (.bl _)⟩⟩
theorem opd_neP (hu : X.A.units + 64 < cLine) : OpD X (compareOp .NotEq) (fun x y μ Q => ∃ p q, pyS μ x = some p ∧ pyS μ y = some q ∧ SeqAt.shaped p = true ∧ SeqAt.shaped q = true ∧ Q (.bl (!PyData.eqv p q)) μ) :=
  ⟨fun x y μ Q Q' h ⟨p, q, e1, e2, c1, c2, z⟩ => ⟨p, q, e1, e2, c1, c2, h _ _ z⟩, _, op_neD hu, fun ι H μ x y dx dy Q r a b ⟨p, q, e1, e2, c1, c2, z⟩ =>
    ⟨p, q, dpS_of r a e1, dpS_of r b e2, c1, c2, z ι H _ (Gr.refl _ _) r (.bl _)⟩⟩
theorem opd_eqs : OpD X (compareOp .Eq) (fun x y μ Q => (∃ i j, x = .int i ∧ y = .int j ∧ Q (.bl (decide (i = j))) μ) ∨ (∃ i j, x = .str i ∧ y = .str j ∧ Q (.bl (decide (i = j))) μ) ∨ (∃ i j, x = .bl i ∧ y = .bl j ∧ Q (.bl (decide (i = j))) μ)) :=
  ⟨fun x y μ Q Q' h q => q.imp (fun ⟨i, j, e1, e2, q⟩ => ⟨i, j, e1, e2, h _ _ q⟩) (fun q => q.imp (fun ⟨i, j, e1, e2, q⟩ => ⟨i, j, e1, e2, h _ _ q⟩) fun ⟨i, j, e1, e2, q⟩ => ⟨i, j, e1, e2, h _ _ q⟩), _, op_eq,
    fun ι H μ x y dx dy Q r a b q => by
      rcases q with ⟨i, j, rfl, rfl, q⟩ | ⟨i, j, rfl, rfl, q⟩ | ⟨i, j, rfl, rfl, q⟩ <;> cases a <;> cases b
      · exact ⟨rfl, by have z := q ι H _ (Gr.refl _ _) r (.bl _); rwa [show decide (V.int i = V.int j) = decide (i = j) from decide_eq_decide.mpr ⟨fun e => V.int.inj e, fun e => by rw [e]⟩]⟩
      · exact ⟨rfl, by have z := q ι H _ (Gr.refl _ _) r (.bl _); rwa [show decide (V.str i = V.str j) = decide (i = j) from decide_eq_decide.mpr ⟨fun e => V.str.inj e, fun e => by rw [e]⟩]⟩
      · exact ⟨rfl, by have z := q ι H _ (Gr.refl _ _) r (.bl _); rwa [show decide (V.bl i = V.bl j) = decide (i = j) from decide_eq_decide.mpr ⟨fun e => V.bl.inj e, fun e => by rw [e]⟩]⟩⟩
end
end Dl

namespace Dl
open PySem PySem.Spec L2
open PyProof.Rows hiding St Binds

/-! ### cells below n alone -/
mutual
def D.bd (n : Nat) : D → Bool
  | .lst ds => bdL n ds
  | .tup ds => bdL n ds
  | .dct kd => bdK n kd
  | .ins _ fd => bdF n fd
  | .cell m => decide (m < n)
  | .fzl ds => bdL n ds
  | _ => true
def bdL (n : Nat) : List D → Bool
  | [] => true
  | d :: ds => d.bd n && bdL n ds
def bdK (n : Nat) : List (Key × D) → Bool
  | [] => true
  | (_, d) :: ds => d.bd n && bdK n ds
def bdF (n : Nat) : List (Str × D) → Bool
  | [] => true
  | (_, d) :: ds => d.bd n && bdF n ds
end
def CT.bd (n : Nat) : CT → Bool
  | .lst ds => bdL n ds
  | .dct kd => bdK n kd
  | .lck _ _ kd => bdK n kd
  | .ins _ fd => bdF n fd
def bdS (n : Nat) (μ : Sto) : Bool := μ.all (CT.bd n)
section
variable {n : Nat}
theorem bdL_get : ∀ {ds : List D} {i : Nat} {d : D}, bdL n ds = true → ds[i]? = some d → d.bd n = true
  | [], _, _, _, h => by simp at h
  | d :: ds, 0, e, b, h => by simp at h; subst h; unfold bdL at b; exact (Bool.and_eq_true_iff.mp b).1
  | d :: ds, i + 1, e, b, h => by unfold bdL at b; exact bdL_get (i := i) (Bool.and_eq_true_iff.mp b).2 (by simpa using h)
theorem bdK_get : ∀ {ds : List (Key × D)} {i : Nat} {p : Key × D}, bdK n ds = true → ds[i]? = some p → p.2.bd n = true
  | [], _, _, _, h => by simp at h
  | (k, d) :: ds, 0, e, b, h => by simp at h; subst h; unfold bdK at b; exact (Bool.and_eq_true_iff.mp b).1
  | (k, d) :: ds, i + 1, e, b, h => by unfold bdK at b; exact bdK_get (i := i) (Bool.and_eq_true_iff.mp b).2 (by simpa using h)
theorem bdF_get : ∀ {ds : List (Str × D)} {i : Nat} {p : Str × D}, bdF n ds = true → ds[i]? = some p → p.2.bd n = true
  | [], _, _, _, h => by simp at h
  | (k, d) :: ds, 0, e, b, h => by simp at h; subst h; unfold bdF at b; exact (Bool.and_eq_true_iff.mp b).1
  | (k, d) :: ds, i + 1, e, b, h => by unfold bdF at b; exact bdF_get (i := i) (Bool.and_eq_true_iff.mp b).2 (by simpa using h)
end
section
variable {K : PySem.W.Frag} {ι ext : Io} {H H' : Hp} {μ : Sto} {v : V} {d : D}
theorem At.trunc (a : At K (ι ++ ext) H v d) (b : d.bd ι.length = true) : At K ι H v d := by
  have nn : ∀ {x : Addr}, x ∉ ι ++ ext → x ∉ ι := fun h z => h (List.mem_append_left _ z)
  induction a with
  | non => exact .non
  | bl c => exact .bl c
  | int i => exact .int i
  | str s => exact .str s
  | lst h n l _ ih => unfold D.bd at b; exact .lst h (nn n) l fun i v d e1 e2 => ih i v d e1 e2 (bdL_get b e2)
  | tup h n l _ ih => unfold D.bd at b; exact .tup h (nn n) l fun i v d e1 e2 => ih i v d e1 e2 (bdL_get b e2)
  | ktup h l _ ih => unfold D.bd at b; exact .ktup h l fun i v d e1 e2 => ih i v d e1 e2 (bdL_get b e2)
  | dct h n l _ ih => unfold D.bd at b; exact .dct h (nn n) l fun i p q e1 e2 => ih i p q e1 e2 (bdK_get b e2)
  | ins h n l _ ih => unfold D.bd at b; exact .ins h (nn n) l fun i p q e1 e2 => ih i p q e1 e2 (bdF_get b e2)
  | @cell a n h =>
    unfold D.bd at b
    have hn : n < ι.length := of_decide_eq_true b
    exact .cell (by rw [List.getElem?_append_left hn] at h; exact h)
  | ref a => exact .ref a
  | ty n => exact .ty n
  | fzl h l _ ih => unfold D.bd at b; exact .fzl (h.imp (fun ⟨o, e, n⟩ => ⟨o, e, nn n⟩) id) l fun i v d e1 e2 => ih i v d e1 e2 (bdL_get b e2)
theorem CAt.trunc {a : Addr} {c : CT} (h : CAt K (ι ++ ext) H a c) (b : c.bd ι.length = true) : CAt K ι H a c := by
  cases c with
  | lst ds => obtain ⟨vs, h1, h2⟩ := h; exact ⟨vs, h1, h2.1, fun i v d e1 e2 => (h2.2 i v d e1 e2).trunc (bdL_get b e2)⟩
  | dct kd => obtain ⟨vs, h1, h2⟩ := h; exact ⟨vs, h1, h2.1, fun i v d e1 e2 => (h2.2 i v d e1 e2).trunc (bdK_get b e2)⟩
  | lck ob kv kd => exact ⟨h.1, h.2.1, fun i v d e1 e2 => (h.2.2 i v d e1 e2).trunc (bdK_get b e2)⟩
  | ins C fd => obtain ⟨dx, vs, h1, h2⟩ := h; exact ⟨dx, vs, h1, h2.1, fun i v d e1 e2 => (h2.2 i v d e1 e2).trunc (bdF_get b e2)⟩
theorem Rep.trunc {μx : Sto} (r : Rep K (ι ++ ext) (μ ++ μx) H) (l : ι.length = μ.length) (b : bdS μ.length μ = true) : Rep K ι μ H := by
  refine ⟨l, (List.nodup_append.mp r.nd).1, fun n a c e1 e2 => ?_⟩
  have h1 : (ι ++ ext)[n]? = some a := by rw [List.getElem?_append_left (List.getElem?_eq_some_iff.mp e1).1]; exact e1
  have h2 : (μ ++ μx)[n]? = some c := by rw [List.getElem?_append_left (List.getElem?_eq_some_iff.mp e2).1]; exact e2
  refine (r.at_ n a c h1 h2).trunc ?_
  rw [l]
  exact List.all_eq_true.mp b c (List.mem_of_getElem? e2)
theorem Gr.trunc {ι0 : Io} {H0 : Hp} (g : Gr ι0 H0 (ι ++ ext) H) (l : ι0.length ≤ ι.length) : Gr ι0 H0 ι H :=
  ⟨fun n a e => by
    have h := g.pre n a e
    rwa [List.getElem?_append_left (Nat.lt_of_lt_of_le (List.getElem?_eq_some_iff.mp e).1 l)] at h, fun a o e n => ⟨(g.keep a o e n).1, fun z => (g.keep a o e n).2 (List.mem_append_left _ z)⟩⟩
end
theorem Gr.len_le {ι ι' : Io} {H H' : Hp} (g : Gr ι H ι' H') : ι.length ≤ ι'.length := by
  cases e : ι.length with
  | zero => exact Nat.zero_le _
  | succ n =>
    have hn : n < ι.length := by omega
    have h2 := g.pre n _ (List.getElem?_eq_getElem hn)
    have := (List.getElem?_eq_some_iff.mp h2).1
    omega
/-- (d, μ) may be given out as (d', μ'): the newest cells are forgotten, or become data; n cells stand before -/
inductive Fz (n : Nat) : D → Sto → D → Sto → Prop
  | refl {d μ} : Fz n d μ d μ
  | drop {d μ μx d' μ'} (l : n ≤ μ.length) (b : d.bd μ.length = true) (bs : bdS μ.length μ = true) (r : Fz n d μ d' μ') : Fz n d (μ ++ μx) d' μ'
  | lst {ds μ d' μ'} (l : n ≤ μ.length) (b : bdL μ.length ds = true) (bs : bdS μ.length μ = true) (r : Fz n (.lst ds) μ d' μ') : Fz n (.cell μ.length) (μ ++ [.lst ds]) d' μ'
  | dct {kd μ d' μ'} (l : n ≤ μ.length) (b : bdK μ.length kd = true) (bs : bdS μ.length μ = true) (r : Fz n (.dct kd) μ d' μ') : Fz n (.cell μ.length) (μ ++ [.dct kd]) d' μ'
  | ins {C fd μ d' μ'} (l : n ≤ μ.length) (b : bdF μ.length fd = true) (bs : bdS μ.length μ = true) (r : Fz n (.ins C fd) μ d' μ') : Fz n (.cell μ.length) (μ ++ [.ins C fd]) d' μ'
  | tup2 {k1 k2 μ d' μ'} (l : n ≤ μ.length) (b1 : bdK μ.length k1 = true) (b2 : bdK μ.length k2 = true) (bs : bdS μ.length μ = true) (r : Fz n (.tup [.dct k1, .dct k2]) μ d' μ') : Fz n (.tup [.cell μ.length, .cell (μ.length + 1)]) (μ ++ [.dct k1, .dct k2]) d' μ'
theorem split_io {K : PySem.W.Frag} {ι : Io} {H : Hp} {μ μx : Sto} (r : Rep K ι (μ ++ μx) H) : ∃ ι0 ext, ι = ι0 ++ ext ∧ ι0.length = μ.length ∧ ext.length = μx.length := by
  have h := r.len
  rw [List.length_append] at h
  exact ⟨ι.take μ.length, ι.drop μ.length, (List.take_append_drop _ _).symm, by rw [List.length_take]; omega, by rw [List.length_drop]; omega⟩
theorem Fz.sound {K : PySem.W.Frag} {n : Nat} {d d' : D} {μ μ' : Sto} (z : Fz n d μ d' μ') : ∀ {ι0 : Io} {H0 : Hp} {ι : Io} {H : Hp} {v : V}, ι0.length = n → Rep K ι μ H → At K ι H v d → Gr ι0 H0 ι H →
    ∃ ι', Rep K ι' μ' H ∧ At K ι' H v d' ∧ Gr ι0 H0 ι' H := by
  induction z with
  | refl => intro ι0 H0 ι H v _ r a g; exact ⟨ι, r, a, g⟩
  | drop l b bs _ ih =>
    intro ι0 H0 ι H v h0 r a g
    obtain ⟨ι1, ext, rfl, l1, _⟩ := split_io r
    exact ih h0 (r.trunc l1 bs) (a.trunc (by rw [l1]; exact b)) (g.trunc (by rw [h0, l1]; exact l))
  | @lst ds μ d' μ' l b bs _ ih =>
    intro ι0 H0 ι H v h0 r a g
    obtain ⟨ι1, ext, rfl, l1, l2⟩ := split_io r
    obtain ⟨p, rfl⟩ : ∃ p, ext = [p] := List.length_eq_one_iff.mp l2
    have hp : (ι1 ++ [p])[μ.length]? = some p := by rw [List.getElem?_append_right (by rw [l1]; exact Nat.le_refl _), l1, Nat.sub_self]; rfl
    cases a with
    | cell hc =>
      rw [hp] at hc; cases hc
      obtain ⟨vs, e1, e2⟩ := r.at_ _ _ (.lst ds) hp (by rw [List.getElem?_append_right (Nat.le_refl _), Nat.sub_self]; rfl)
      have nin : p ∉ ι1 := fun z => (List.nodup_append.mp r.nd).2.2 p z p (by simp) rfl
      exact ih h0 (r.trunc l1 bs) (.lst e1 nin e2.1 fun i v d q1 q2 => (e2.2 i v d q1 q2).trunc (by rw [l1]; exact bdL_get b q2)) (g.trunc (by rw [h0, l1]; exact l))
  | @dct ds μ d' μ' l b bs _ ih =>
    intro ι0 H0 ι H v h0 r a g
    obtain ⟨ι1, ext, rfl, l1, l2⟩ := split_io r
    obtain ⟨p, rfl⟩ : ∃ p, ext = [p] := List.length_eq_one_iff.mp l2
    have hp : (ι1 ++ [p])[μ.length]? = some p := by rw [List.getElem?_append_right (by rw [l1]; exact Nat.le_refl _), l1, Nat.sub_self]; rfl
    cases a with
    | cell hc =>
      rw [hp] at hc; cases hc
      obtain ⟨vs, e1, e2⟩ := r.at_ _ _ (.dct ds) hp (by rw [List.getElem?_append_right (Nat.le_refl _), Nat.sub_self]; rfl)
      have nin : p ∉ ι1 := fun z => (List.nodup_append.mp r.nd).2.2 p z p (by simp) rfl
      exact ih h0 (r.trunc l1 bs) (.dct (.inl e1) nin e2.1 fun i v d q1 q2 => (e2.2 i v d q1 q2).trunc (by rw [l1]; exact bdK_get b q2)) (g.trunc (by rw [h0, l1]; exact l))
  | @ins C ds μ d' μ' l b bs _ ih =>
    intro ι0 H0 ι H v h0 r a g
    obtain ⟨ι1, ext, rfl, l1, l2⟩ := split_io r
    obtain ⟨p, rfl⟩ : ∃ p, ext = [p] := List.length_eq_one_iff.mp l2
    have hp : (ι1 ++ [p])[μ.length]? = some p := by rw [List.getElem?_append_right (by rw [l1]; exact Nat.le_refl _), l1, Nat.sub_self]; rfl
    cases a with
    | cell hc =>
      rw [hp] at hc; cases hc
      obtain ⟨dx, vs, e1, e2⟩ := r.at_ _ _ (.ins C ds) hp (by rw [List.getElem?_append_right (Nat.le_refl _), Nat.sub_self]; rfl)
      have nin : p ∉ ι1 := fun z => (List.nodup_append.mp r.nd).2.2 p z p (by simp) rfl
      exact ih h0 (r.trunc l1 bs) (.ins e1 nin e2.1 fun i v d q1 q2 => (e2.2 i v d q1 q2).trunc (by rw [l1]; exact bdF_get b q2)) (g.trunc (by rw [h0, l1]; exact l))
  | @tup2 k1 k2 μ d' μ' l b1 b2 bs _ ih =>
    intro ι0 H0 ι H v h0 r a g
    obtain ⟨ι1, ext, rfl, l1, l2⟩ := split_io r
    obtain ⟨p, q, rfl⟩ : ∃ p q, ext = [p, q] := match ext, l2 with | [p, q], _ => ⟨p, q, rfl⟩
    have hp : (ι1 ++ [p, q])[μ.length]? = some p := by rw [List.getElem?_append_right (by rw [l1]; exact Nat.le_refl _), l1, Nat.sub_self]; rfl
    have hq : (ι1 ++ [p, q])[μ.length + 1]? = some q := by rw [List.getElem?_append_right (by omega), l1, show μ.length + 1 - μ.length = 1 by omega]; rfl
    obtain ⟨v1, e1, a1⟩ := r.at_ _ _ (.dct k1) hp (by rw [List.getElem?_append_right (Nat.le_refl _), Nat.sub_self]; rfl)
    obtain ⟨v2, e2, a2⟩ := r.at_ _ _ (.dct k2) hq (by rw [List.getElem?_append_right (by omega), show μ.length + 1 - μ.length = 1 by omega]; rfl)
    have np : p ∉ ι1 := fun z => (List.nodup_append.mp r.nd).2.2 p z p (by simp) rfl
    have nq : q ∉ ι1 := fun z => (List.nodup_append.mp r.nd).2.2 q z q (by simp) rfl
    have d1 : At K ι1 H (.ref p) (.dct k1) := .dct (.inl e1) np a1.1 fun i v d q1 q2 => (a1.2 i v d q1 q2).trunc (by rw [l1]; exact bdK_get b1 q2)
    have d2 : At K ι1 H (.ref q) (.dct k2) := .dct (.inl e2) nq a2.1 fun i v d q1 q2 => (a2.2 i v d q1 q2).trunc (by rw [l1]; exact bdK_get b2 q2)
    have parts : ∀ {vs : List V}, (∀ (i : Nat) (v : V) (d : D), vs[i]? = some v → [D.cell μ.length, .cell (μ.length + 1)][i]? = some d → At K (ι1 ++ [p, q]) H v d) → ∀ (i : Nat) (v : V) (d : D), vs[i]? = some v → [D.dct k1, .dct k2][i]? = some d → At K ι1 H v d := by
      intro vs hr i v d q1 q2
      match i, q2 with
      | 0, q2 =>
        cases Option.some.inj q2
        cases hr 0 v _ q1 rfl with
        | cell hc => rw [hp] at hc; cases hc; exact d1
      | 1, q2 =>
        cases Option.some.inj q2
        cases hr 1 v _ q1 rfl with
        | cell hc => rw [hq] at hc; cases hc; exact d2
    have g' := g.trunc (by rw [h0, l1]; exact l)
    cases a with
    | tup h n lv hr => exact ih h0 (r.trunc l1 bs) (.tup h (fun z => n (List.mem_append_left _ z)) lv (parts hr)) g'
    | ktup h lv hr => exact ih h0 (r.trunc l1 bs) (.ktup h lv (parts hr)) g'

/-! ### promises over data -/
abbrev XD := Value → List (Str × D) → Sto → Prop
abbrev FD := List D → Sto → QD → XD → Prop
def MonF (F : FD) : Prop := ∀ ds μ (Q Q' : QD) (E E' : XD), (∀ d m, Q d m → Q' d m) → (∀ c l m, E c l m → E' c l m) → F ds μ Q E → F ds μ Q' E'
def spD (K : PySem.W.Frag) (F : FD) : Sp := fun vs H Q E => ∃ ι μ ds, Rep K ι μ H ∧ Ats K ι H vs ds ∧ F ds μ (QV K ι H Q) (XV K ι H E)
/-- a def under a name -/
structure Cal (P : Program) (w : World) (K : PySem.W.Frag) (mg : Str → Option Value) (base : Heap) (k : Nat) (x : Str) (F : FD) (dds : List D) : Prop where
  mono : MonF F
  ex : ∃ (f : Addr) (fd : FuncData) (ps : List Str) (dvs : List V) (ds : List Value), FnG P w K mg base (L2.CX P w) k f fd ps (spD K F) ∧ mg x = some (.ref f) ∧ PySem.W.keepIn K (.ref f) = true ∧
    L2.Binds K fd ps ds ∧ Vals dvs ds ∧ ∀ ι H, Ats K ι H dvs dds
/-- a class with its __init__ -/
structure Mak (P : Program) (w : World) (K : PySem.W.Frag) (mg : Str → Option Value) (base : Heap) (k : Nat) (x : Str) (C : Addr) (F : FD) (dds : List D) : Prop where
  mono : MonF F
  ex : ∃ (f : Addr) (fd : FuncData) (ps : List Str) (dvs : List V) (ds : List Value), FnG P w K mg base (L2.CX P w) k f fd ps (spD K F) ∧ mg x = some (.ref C) ∧ Mk K C f ∧
    L2.Binds K fd ps ds ∧ Vals dvs ds ∧ ∀ ι H, Ats K ι H dvs dds
/-- a method -/
structure Met (P : Program) (w : World) (K : PySem.W.Frag) (mg : Str → Option Value) (base : Heap) (k : Nat) (C : Addr) (m : Str) (F : FD) (dds : List D) : Prop where
  mono : MonF F
  cls : Cls K C
  ex : ∃ (f : Addr) (fd : FuncData) (ps : List Str) (dvs : List V) (ds : List Value), FnG P w K mg base (L2.CX P w) k f fd ps (spD K F) ∧ Meth K C m f ∧
    L2.Binds K fd ps ds ∧ Vals dvs ds ∧ ∀ ι H, Ats K ι H dvs dds
abbrev CalX (X : Cx) := Cal X.prog X.w X.K X.mg X.base
abbrev MakX (X : Cx) := Mak X.prog X.w X.K X.mg X.base
abbrev MetX (X : Cx) := Met X.prog X.w X.K X.mg X.base

def asI (μ : Sto) : D → Option (Addr × List (Str × D))
  | .ins C fd => some (C, fd)
  | .cell n => match μ[n]? with | some (.ins C fd) => some (C, fd) | _ => none
  | _ => none
theorem asI_at {K : PySem.W.Frag} {ι : Io} {H : Hp} {μ : Sto} {v : V} {d : D} {C : Addr} {fd : List (Str × D)} (r : Rep K ι μ H) (a : At K ι H v d) (h : asI μ d = some (C, fd)) :
    ∃ p dx fv, v = .ref p ∧ H p = some (.ins C dx fv) ∧ Pts K ι H fv fd := by
  cases a with
  | ins h1 n l q => cases Option.some.inj h; exact ⟨_, _, _, rfl, h1, l, q⟩
  | @cell p n hn =>
    simp only [asI] at h
    split at h
    · rename_i e
      cases Option.some.inj h
      obtain ⟨dx, fv, h1, h2⟩ := r.at_ n p _ hn e
      exact ⟨p, dx, fv, rfl, h1, h2⟩
    · cases h
  | _ => cases h
theorem lookup_keys {β γ : Type} : ∀ {l : List (Str × β)} {m : List (Str × γ)} {f : Str}, l.map (·.1) = m.map (·.1) → (l.lookup f).isSome = (m.lookup f).isSome
  | [], [], _, _ => rfl
  | [], _ :: _, _, h => by simp at h
  | _ :: _, [], _, h => by simp at h
  | (k, b) :: l, (k', c) :: m, f, h => by
    simp only [List.map_cons, List.cons.injEq] at h
    obtain ⟨h1, h2⟩ := h
    have h1 : k = k' := h1
    subst h1
    rw [List.lookup_cons, List.lookup_cons]
    cases e : f == k with
    | true => rfl
    | false => exact lookup_keys h2
theorem Pts.none {K : PySem.W.Frag} {ι : Io} {H : Hp} {fv : List (Str × V)} {fd : List (Str × D)} (p : Pts K ι H fv fd) {f : Str} (h : fd.lookup f = none) : fv.lookup f = none := by
  have q := lookup_keys (f := f) p.1
  rw [h] at q
  cases e : fv.lookup f with
  | none => rfl
  | some _ => rw [e] at q; simp at q
theorem Pts.uncons {κ : Type} {K : PySem.W.Frag} {ι : Io} {H : Hp} {k : κ} {d : D} {fv : List (κ × V)} {fd : List (κ × D)} (p : Pts K ι H fv ((k, d) :: fd)) : ∃ v fv', fv = (k, v) :: fv' ∧ At K ι H v d ∧ Pts K ι H fv' fd := by
  cases fv with
  | nil => have := p.1; simp at this
  | cons x fv' =>
    obtain ⟨k', v⟩ := x
    have h := p.1
    simp only [List.map_cons, List.cons.injEq] at h
    obtain ⟨h1, h2⟩ := h
    have h1 : k' = k := h1
    subst h1
    exact ⟨v, fv', rfl, p.2 0 _ _ rfl rfl, h2, fun i p' q e1 e2 => p.2 (i + 1) p' q e1 e2⟩
theorem Pts.nil {κ : Type} {K : PySem.W.Frag} {ι : Io} {H : Hp} : Pts (κ := κ) K ι H [] [] := ⟨rfl, fun i p q h _ => by simp at h⟩
theorem Pts.cons {κ : Type} {K : PySem.W.Frag} {ι : Io} {H : Hp} {k : κ} {v : V} {d : D} {fv : List (κ × V)} {fd : List (κ × D)} (a : At K ι H v d) (p : Pts K ι H fv fd) : Pts K ι H ((k, v) :: fv) ((k, d) :: fd) := by
  refine ⟨by simp [p.1], fun i x y h1 h2 => ?_⟩
  cases i with
  | zero => cases Option.some.inj h1; cases Option.some.inj h2; exact a
  | succ i => exact p.2 i x y h1 h2
theorem Pts.lookup {K : PySem.W.Frag} {ι : Io} {H : Hp} {f : Str} : ∀ {fv : List (Str × V)} {fd : List (Str × D)} {d : D}, Pts K ι H fv fd → fd.lookup f = some d → ∃ v, fv.lookup f = some v ∧ At K ι H v d
  | fv, [], d, _, h => by simp at h
  | fv, (k, e) :: fd, d, p, h => by
    obtain ⟨v, fv', rfl, a, p'⟩ := p.uncons
    rw [List.lookup_cons] at h ⊢
    cases q : f == k with
    | true => rw [q] at h; cases Option.some.inj h; exact ⟨v, rfl, a⟩
    | false => rw [q] at h; exact Pts.lookup p' h

section
variable {X : Cx} {W : WX} {a b c e o : Expr} {es : List Expr} {fa fb fc f fo : FE} {fl : FA} {pos p apos : Pos} {K : PySem.W.Frag} {ι : Io} {H : Hp} {σ : L2.St} {ρ : Rho} {μ : Sto} {x m fn : Str} {F : FD} {dds : List D} {j k : Nat} {C : Addr}

def fCall (F : FD) (dds : List D) (g : FA) : FE := fun ρ μ Q E => g ρ μ (fun ds m => F (ds ++ dds) m Q (fun c l m' => E c l ρ m')) E
theorem mCall (mF : MonF F) (m : MonA fl) : MonE (fCall F dds fl) := fun ρ μ Q Q' E E' h he q =>
  m ρ μ _ _ E E' (fun ds mm z => mF _ mm Q Q' _ _ h (fun c l m' w => he c l m' w) z) he q
theorem rdCall {dvs : List V} (mF : MonF F) (mg : MonA fl) (hd : ∀ ι H, Ats K ι H dvs dds) {Q : VK} (h : rdE K W (fCall F dds fl) σ H Q) :
    gCall (spD K F) dvs (WE W) (rdA K W fl) σ H Q := by
  obtain ⟨ι, ρ, μ, rp, l, q⟩ := h
  refine chainA mg rp l q fun ds μ1 ι1 H1 vs q1 g1 r1 l1 a1 => ?_
  exact ⟨ι1, μ1, ds ++ dds, r1, a1.app (hd ι1 H1), mF _ μ1 _ _ _ _ (fun d m z => QV.gr g1 z) (fun c l m z => EW.gr (ρ := ρ) (ρ' := ρ) g1 z) q1⟩
theorem de_call (c : CalX X k x F dds) (hG : X.A.guards = some []) (hr : Room j X.A) (hk : k ≤ j) (hg : Gl X x) (tk : Takes X W) (ha : DA X W (e :: es) fl)
    (hdb : (x == ("__debug__" : Str)) = false := by decide) (he : starEach (e :: es) X.env = (false, eval e X.env) :: starEach es X.env := by rfl)
    (hpl : (backTo pos (starEach es X.env)).any (·.1) = false := by rfl) : DE X W (.Call (.Name x p) (e :: es) [] pos) (fCall F dds fl) := by
  obtain ⟨f, fd, ps, dvs, ds, Fg, hm, hkp, hb, hv, hd⟩ := c.ex
  exact ⟨mCall c.mono ha.mono, PE.imp (ge_call hG Fg (hr.mono hk) hg hm hkp hb hv (passAt tk) ha.run hdb he hpl) fun σ H Q h => rdCall c.mono ha.mono hd h⟩
/-- a new instance, given out as it stands or as data -/
def gMade (n : Nat) (Q : QD) : QD := fun d μ' => d = .non ∧ ∃ d2 μ2, Fz n (.cell n) μ' d2 μ2 ∧ Q d2 μ2
def fMake (C : Addr) (F : FD) (dds : List D) (g : FA) : FE := fun ρ μ Q E => g ρ μ (fun ds m => F (.cell m.length :: (ds ++ dds)) (m ++ [.ins C []]) (gMade m.length Q)
  (fun c l m' => ∃ m2 mx, m' = m2 ++ mx ∧ m.length ≤ m2.length ∧ bdF m2.length l = true ∧ bdS m2.length m2 = true ∧ E c l ρ m2)) E
theorem gMade_mono {n : Nat} {Q Q' : QD} (h : ∀ d m, Q d m → Q' d m) : ∀ d m, gMade n Q d m → gMade n Q' d m := fun d m ⟨e, d2, μ2, z, q⟩ => ⟨e, d2, μ2, z, h _ _ q⟩
theorem mMake (mF : MonF F) (m : MonA fl) : MonE (fMake C F dds fl) := fun ρ μ Q Q' E E' h he q =>
  m ρ μ _ _ E E' (fun ds mm z => mF _ _ _ _ _ _ (gMade_mono h) (fun c l m' ⟨m2, mx, e, ll, b1, b2, w⟩ => ⟨m2, mx, e, ll, b1, b2, he c l m2 w⟩) z) he q
theorem XV.trunc {W : Value → Option Addr → Hp → Prop} {ι0 ι : Io} {H0 H : Hp} {c : Value} {l : List (Str × D)} {m2 mx : Sto} (g : Gr ι0 H0 ι H) (ll : ι0.length ≤ m2.length) (b1 : bdF m2.length l = true) (b2 : bdS m2.length m2 = true)
    (h : XV K ι0 H0 W c l m2) : XV K ι H W c l (m2 ++ mx) := fun ι' H' dd fv g' r a p => by
  obtain ⟨ι1, ext, rfl, l1, _⟩ := split_io r
  exact h ι1 H' dd fv ((g.trans g').trunc (by rw [l1]; exact ll)) (r.trunc l1 b2) a ⟨p.1, fun i x y e1 e2 => (p.2 i x y e1 e2).trunc (by rw [l1]; exact bdF_get b1 e2)⟩
theorem rdMake {dvs : List V} (mF : MonF F) (mg : MonA fl) (hd : ∀ ι H, Ats K ι H dvs dds) {Q : VK} (h : rdE K W (fMake C F dds fl) σ H Q) :
    gMake C (spD K F) dvs (WE W) (rdA K W fl) σ H Q := by
  obtain ⟨ι, ρ, μ, rp, l, q⟩ := h
  refine chainA mg rp l q fun ds μ1 ι1 H1 vs q1 g1 r1 l1 a1 => ?_
  intro y dx hy hdx ne
  have r2 := r1.new (o := .own y) hdx
  have gd := Gr.new (o := .own y) hdx (r1.free hdx)
  have hy2 : upd H1 dx (.own y) y = none := by rw [upd_ne (Ne.symm ne)]; exact hy
  have g2 := Gr.cellNew (o := .ins C dx []) hy2 (r2.free hy2)
  have r3 := r2.cellNew (o := .ins C dx []) (c := .ins C []) hy2 ⟨dx, [], upd_same, Pts.nil⟩
  have at_ : At K (ι1 ++ [y]) (upd (upd H1 dx (.own y)) y (.ins C dx [])) (.ref y) (.cell μ1.length) := .cell (by rw [List.getElem?_append_right (by rw [r1.len]; exact Nat.le_refl _), r1.len, Nat.sub_self]; rfl)
  have gg := gd.trans g2
  refine ⟨_, _, .cell μ1.length :: (ds ++ dds), r3, Ats.cons at_ ((a1.gr gg).app (hd _ _)), mF _ _ _ _ _ _ (fun d m z => ?_) (fun c l m z => ?_) q1⟩
  · intro ι' H' v g' r' av
    obtain ⟨e, d2, μ2, fz, qq⟩ := z
    subst e
    cases av
    refine ⟨rfl, ?_⟩
    obtain ⟨ι2, s1, s2, s3⟩ := fz.sound (K := K) (ι0 := ι1) (H0 := H1) (ι := ι') (H := H') (v := .ref y) r1.len r' (at_.gr g') (gg.trans g')
    exact qq ι2 H' _ (g1.trans s3) s1 s2
  · obtain ⟨m2, mx, e, ll, b1, b2, w⟩ := z
    subst e
    exact XV.trunc (g1.trans gg) (by have e1 := r1.len; have e2 := g1.len_le; omega) b1 b2 w
theorem de_make (c : MakX X k x C F dds) (hG : X.A.guards = some []) (hr : Room j X.A) (hk : k + 1 ≤ j) (hg : Gl X x) (tk : Takes X W) (ha : DA X W (e :: es) fl)
    (hdb : (x == ("__debug__" : Str)) = false := by decide) (he : starEach (e :: es) X.env = (false, eval e X.env) :: starEach es X.env := by rfl)
    (hpl : (backTo pos (starEach es X.env)).any (·.1) = false := by rfl) : DE X W (.Call (.Name x p) (e :: es) [] pos) (fMake C F dds fl) := by
  obtain ⟨f, fd, ps, dvs, ds, Fg, hm, hM, hb, hv, hd⟩ := c.ex
  exact ⟨mMake c.mono ha.mono, PE.imp (ge_make hG hM Fg (hr.mono hk) hg hm hb hv (passAt tk) ha.run hdb he hpl) fun σ H Q h => rdMake c.mono ha.mono hd h⟩
/-- o.f -/
def fFld (fn : Str) (K : PySem.W.Frag) (fo : FE) : FE := fun ρ μ Q E => fo ρ μ (fun d m => ∃ C fd v, asI m d = some (C, fd) ∧ Cls K C ∧ NoAttr K C fn ∧ fd.lookup fn = some v ∧ Q v m) E
theorem mFld (mo : MonE fo) : MonE (fFld fn K fo) := fun ρ μ Q Q' E E' h he q => mo ρ μ _ _ E E' (fun d m ⟨C, fd, v, e1, e2, e3, e4, z⟩ => ⟨C, fd, v, e1, e2, e3, e4, h _ _ z⟩) he q
theorem de_fld {K : PySem.W.Frag} (ho : DE X W o fo) (hb : attributeBase o fn X.env (eval o X.env) = eval o X.env := by rfl) (hK : X.K = K := by rfl) : DE X W (.Attribute o fn pos) (fFld fn K fo) := by
  subst hK; exact
  ⟨mFld ho.mono, PE.imp (pe_fld ho.run hb) fun σ H Q ⟨ι, ρ, μ, rp, l, q⟩ => chain1 ho.mono rp l q fun d μ1 ι1 H1 v q1 g1 r1 l1 a1 => by
    obtain ⟨C, fd, w, e1, c, n, e4, z⟩ := q1
    obtain ⟨a, dx, fv, rfl, ha, hp⟩ := asI_at r1 a1 e1
    obtain ⟨u, h1, h2⟩ := hp.lookup e4
    exact ⟨a, C, dx, fv, u, rfl, ha, c, n, h1, z ι1 H1 u g1 r1 h2⟩⟩
end
end Dl

namespace Dl
open PySem PySem.Spec L2
open PyProof.Rows hiding St Binds

/-- what is wanted behind a statement -/
structure DK where
  nx : Rho → Sto → Prop
  rt : QD
  ex : ED
  bk : Rho → Sto → Prop := fun _ _ => False
  ct : Rho → Sto → Prop := fun _ _ => False
structure DK.le (A B : DK) : Prop where
  nx : ∀ ρ μ, A.nx ρ μ → B.nx ρ μ
  rt : ∀ d μ, A.rt d μ → B.rt d μ
  ex : ∀ c l ρ μ, A.ex c l ρ μ → B.ex c l ρ μ
  bk : ∀ ρ μ, A.bk ρ μ → B.bk ρ μ
  ct : ∀ ρ μ, A.ct ρ μ → B.ct ρ μ
abbrev FS := DK → Rho → Sto → Prop
def MonS (f : FS) : Prop := ∀ ρ μ (A B : DK), A.le B → f A ρ μ → f B ρ μ
def SV (K : PySem.W.Frag) (ι : Io) (H : Hp) (N : L2.St → Hp → Prop) : Rho → Sto → Prop := fun ρ μ => ∀ ι' H' σ', Gr ι H ι' H' → Rep K ι' μ H' → Loc K ι' H' σ' ρ → N σ' H'
def WV (K : PySem.W.Frag) (ι : Io) (H : Hp) (W : WX) : ED := fun c l ρ μ => ∀ ι' H' dd fv σ', Gr ι H ι' H' → Rep K ι' μ H' → H' dd = some (.xd fv) → Pts K ι' H' fv l → Loc K ι' H' σ' ρ → W c (some dd) σ' H'
def KV (K : PySem.W.Frag) (W : WX) (ι : Io) (H : Hp) (D : Ends) : DK := ⟨SV K ι H D.nx, QV K ι H D.rt, WV K ι H W, SV K ι H D.bk, SV K ι H D.ct⟩
def rdS (K : PySem.W.Frag) (W : WX) (f : FS) : TS := fun D σ H => ∃ ι ρ μ, Rep K ι μ H ∧ Loc K ι H σ ρ ∧ f (KV K W ι H D) ρ μ
structure DS (X : Cx) (W : WX) (s : Stmt) (f : FS) : Prop where
  mono : MonS f
  run : PS X s (rdS X.K W f)
structure DB (X : Cx) (W : WX) (s : List Stmt) (f : FS) : Prop where
  mono : MonS f
  run : PSs X s (rdS X.K W f)
theorem PS.imp {X : Cx} {s : Stmt} {t t' : TS} (h : PS X s t) (k : ∀ D σ H, t' D σ H → t D σ H) : PS X s t' := ⟨fun pins s σ H D I q => h.run pins s σ H D I (k D σ H q)⟩
theorem PSs.imp {X : Cx} {s : List Stmt} {t t' : TS} (h : PSs X s t) (k : ∀ D σ H, t' D σ H → t D σ H) : PSs X s t' := ⟨fun pins s σ H D I q => h.run pins s σ H D I (k D σ H q)⟩
section
variable {K : PySem.W.Frag} {W : WX} {ι ι' : Io} {H H' : Hp} {σ : L2.St} {ρ : Rho} {μ : Sto} {De : Ends}
theorem SV.gr {N : L2.St → Hp → Prop} (g : Gr ι H ι' H') (h : SV K ι H N ρ μ) : SV K ι' H' N ρ μ := fun _ _ σ g' r l => h _ _ σ (g.trans g') r l
theorem WV.gr {c : Value} {l : List (Str × D)} (g : Gr ι H ι' H') (h : WV K ι H W c l ρ μ) : WV K ι' H' W c l ρ μ := fun _ _ dd fv σ g' r a p q => h _ _ dd fv σ (g.trans g') r a p q
theorem KV.gr (g : Gr ι H ι' H') : (KV K W ι H De).le (KV K W ι' H' De) := ⟨fun _ _ h => SV.gr g h, fun _ _ h => QV.gr g h, fun _ _ _ _ h => WV.gr g h, fun _ _ h => SV.gr g h, fun _ _ h => SV.gr g h⟩
theorem WV.ew {c : Value} {l : List (Str × D)} (lo : Loc K ι H σ ρ) (h : WV K ι H W c l ρ μ) : EW K ι H W σ c l ρ μ := fun ι1 H1 dd fv g r a p => h ι1 H1 dd fv σ g r a p (lo.gr g)
/-- an expression of a statement -/
theorem chS {fa : FE} (ha : MonE fa) {R : VK} {P : QD} {A : DK} (hA : A = KV K W ι H De) (r : Rep K ι μ H) (l : Loc K ι H σ ρ) (h : fa ρ μ P A.ex)
    (k : ∀ d μ1 ι1 H1 v, P d μ1 → Gr ι H ι1 H1 → Rep K ι1 μ1 H1 → Loc K ι1 H1 σ ρ → At K ι1 H1 v d → R v H1) : rdE K W fa σ H R := by
  subst hA
  exact chain1 ha r l (ha ρ μ _ _ _ _ (fun _ _ z => z) (fun c l' m z => WV.ew l z) h) k
theorem chST {fa : FT} (ha : MonT fa) {R : Bool → Hp → Prop} {P : Bool → Sto → Prop} {A : DK} (hA : A = KV K W ι H De) (r : Rep K ι μ H) (l : Loc K ι H σ ρ) (h : fa ρ μ P A.ex)
    (k : ∀ d μ1 ι1 H1, P d μ1 → Gr ι H ι1 H1 → Rep K ι1 μ1 H1 → Loc K ι1 H1 σ ρ → R d H1) : rdT K W fa σ H R := by
  subst hA
  exact chainT ha r l (ha ρ μ _ _ _ _ (fun _ _ z => z) (fun c l' m z => WV.ew l z) h) k
end

section
variable {X : Cx} {W : WX} {s : Stmt} {ss sb sc : List Stmt} {e c : Expr} {f : FE} {ft : FT} {fs gs hs : FS} {pos : Pos}
def sNext : FS := fun A ρ μ => A.nx ρ μ
def sSeq (f g : FS) : FS := fun A ρ μ => f { A with nx := fun ρ' μ' => g A ρ' μ' } ρ μ
theorem mNext : MonS sNext := fun ρ μ A B h q => h.nx _ _ q
theorem mSeq (m : MonS fs) (m' : MonS gs) : MonS (sSeq fs gs) := fun ρ μ A B h q => m ρ μ { A with nx := fun ρ' μ' => gs A ρ' μ' } { B with nx := fun ρ' μ' => gs B ρ' μ' } ⟨fun ρ' μ' z => m' ρ' μ' A B h z, h.rt, h.ex, h.bk, h.ct⟩ q
theorem ds_nil : DB X W [] sNext := ⟨mNext, PSs.imp pss_nil fun D σ H ⟨ι, ρ, μ, r, l, q⟩ => q ι H σ (Gr.refl _ _) r l⟩
theorem ds_one (h : DS X W s fs) : DB X W [s] fs := ⟨h.mono, pss_one h.run⟩
theorem ds_cons (h : DS X W s fs) (h' : DB X W ss gs) : DB X W (s :: ss) (sSeq fs gs) :=
  ⟨mSeq h.mono h'.mono, PSs.imp (pss_cons h.run h'.run) fun D σ H ⟨ι, ρ, μ, r, l, q⟩ =>
    ⟨ι, ρ, μ, r, l, h.mono ρ μ { KV X.K W ι H D with nx := fun ρ' μ' => gs (KV X.K W ι H D) ρ' μ' } (KV X.K W ι H { D with nx := rdS X.K W gs D }) ⟨fun ρ' μ' z ι1 H1 σ1 g1 r1 l1 => ⟨ι1, ρ', μ', r1, l1, h'.mono ρ' μ' _ _ (KV.gr g1) z⟩, fun _ _ z => z, fun _ _ _ _ z => z, fun _ _ z => z, fun _ _ z => z⟩ q⟩⟩
def sBreak : FS := fun A ρ μ => A.bk ρ μ
def sCont : FS := fun A ρ μ => A.ct ρ μ
def sNever : FS := fun _ _ _ => False
theorem ds_never : DS X W s sNever := ⟨fun _ _ _ _ _ q => q, PS.imp ps_never fun D σ H ⟨ι, ρ, μ, r, l, q⟩ => q⟩
def sDrop (f : FE) : FS := fun A ρ μ => f ρ μ (fun _ m => A.nx ρ m) A.ex
def sRet (f : FE) : FS := fun A ρ μ => f ρ μ A.rt A.ex
theorem mDrop (m : MonE f) : MonS (sDrop f) := fun ρ μ A B h q => m ρ μ _ _ _ _ (fun _ _ z => h.nx _ _ z) (fun _ _ _ z => h.ex _ _ _ _ z) q
theorem mRet (m : MonE f) : MonS (sRet f) := fun ρ μ A B h q => m ρ μ _ _ _ _ (fun _ _ z => h.rt _ _ z) (fun _ _ _ z => h.ex _ _ _ _ z) q
theorem ds_expr (h : DE X W e f) (hs : swapsWith e none pos.line X.env = pure false := by rfl) : DS X W (.Expr e pos) (sDrop f) :=
  ⟨mDrop h.mono, PS.imp (ps_expr h.run hs) fun D σ H ⟨ι, ρ, μ, r, l, q⟩ => chS h.mono rfl r l q fun d μ1 ι1 H1 v z g1 r1 l1 a1 => z ι1 H1 σ g1 r1 l1⟩
theorem ds_ret (h : DE X W e f) : DS X W (.Return (some e) pos) (sRet f) :=
  ⟨mRet h.mono, PS.imp (ps_ret h.run) fun D σ H ⟨ι, ρ, μ, r, l, q⟩ => chS h.mono rfl r l q fun d μ1 ι1 H1 v z g1 r1 l1 a1 => z ι1 H1 v g1 r1 a1⟩
def sIf (t : FT) (f g : FS) : FS := fun A ρ μ => t ρ μ (fun b m => if b = true then f A ρ m else g A ρ m) A.ex
theorem mIfS (m : MonT ft) (mf : MonS fs) (mg : MonS gs) : MonS (sIf ft fs gs) := fun ρ μ A B h q => m ρ μ _ _ _ _ (fun b mm z => by
  cases b with
  | true => exact mf ρ mm A B h z
  | false => exact mg ρ mm A B h z) (fun _ _ _ z => h.ex _ _ _ _ z) q
theorem ds_if (hc : DT X W c ft) (ha : DB X W sb fs) (hb : DB X W sc gs) : DS X W (.If c sb sc pos) (sIf ft fs gs) :=
  ⟨mIfS hc.mono ha.mono hb.mono, PS.imp (ps_if hc.run ha.run hb.run) fun D σ H ⟨ι, ρ, μ, r, l, q⟩ => chST hc.mono rfl r l q fun b μ1 ι1 H1 z g1 r1 l1 => by
    cases b with
    | true => exact ⟨ι1, ρ, μ1, r1, l1, ha.mono ρ μ1 _ _ (KV.gr g1) z⟩
    | false => exact ⟨ι1, ρ, μ1, r1, l1, hb.mono ρ μ1 _ _ (KV.gr g1) z⟩⟩

/-! ### targets -/
abbrev FG := D → Rho → Sto → (Rho → Sto → Prop) → Prop
def MonTg (g : FG) : Prop := ∀ d ρ μ (N N' : Rho → Sto → Prop), (∀ ρ μ, N ρ μ → N' ρ μ) → g d ρ μ N → g d ρ μ N'
structure DG (X : Cx) (tg : Expr) (g : FG) : Prop where
  mono : MonTg g
  run : ∃ t, PG X tg t ∧ ∀ ι H σ ρ μ v d N, Rep X.K ι μ H → Loc X.K ι H σ ρ → At X.K ι H v d → g d ρ μ (SV X.K ι H N) → t v σ H N
abbrev FGs := List D → Rho → Sto → (Rho → Sto → Prop) → Prop
def MonTgs (g : FGs) : Prop := ∀ ds ρ μ (N N' : Rho → Sto → Prop), (∀ ρ μ, N ρ μ → N' ρ μ) → g ds ρ μ N → g ds ρ μ N'
structure DGs (X : Cx) (tgs : List Expr) (g : FGs) : Prop where
  mono : MonTgs g
  run : ∃ t, PGs X tgs t ∧ ∀ ι H σ ρ μ vs ds N, Rep X.K ι μ H → Loc X.K ι H σ ρ → Ats X.K ι H vs ds → g ds ρ μ (SV X.K ι H N) → t vs σ H N
def tgName (i : Nat) : FG := fun d ρ μ N => N (ρ.set i (some d)) μ
theorem dg_name {i : Nat} {x : Str} (hN : X.N.Nodup) (hi : X.N[i]? = some x) (hx : L2.Loc X.env.scope x)
    (hf : X.fn x = true ∨ X.env.scope.names.lookup x = some .local := by first | exact .inl rfl | exact .inr rfl | assumption) : DG X (.Name x pos) (tgName i) :=
  ⟨fun d ρ μ N N' h q => h _ _ q, _, pg_name hN hi hx hf, fun ι H σ ρ μ v d N r l a q => q ι H _ (Gr.refl _ _) r (l.set a i)⟩
def tgNil : FGs := fun ds ρ μ N => ds = [] ∧ N ρ μ
def tgCons (g : FG) (h : FGs) : FGs := fun ds ρ μ N => ∃ d r, ds = d :: r ∧ g d ρ μ (fun ρ' μ' => h r ρ' μ' N)
theorem dgs_nil : DGs X [] tgNil := ⟨fun ds ρ μ N N' h ⟨e, q⟩ => ⟨e, h _ _ q⟩, _, pgs_nil, fun ι H σ ρ μ vs ds N r l a ⟨e, q⟩ => by
  subst e
  exact ⟨Ats.unnil a, q ι H _ (Gr.refl _ _) r l⟩⟩
theorem dgs_cons {t : Expr} {ts : List Expr} {g : FG} {h : FGs} (h1 : DG X t g) (h2 : DGs X ts h)
    (hs : (assignEach (t :: ts) X.env).map (·.2) = assign t X.env :: (assignEach ts X.env).map (·.2) := by rfl) : DGs X (t :: ts) (tgCons g h) := by
  obtain ⟨t1, p1, k1⟩ := h1.run
  obtain ⟨t2, p2, k2⟩ := h2.run
  refine ⟨fun ds ρ μ N N' hh ⟨d, r, e, q⟩ => ⟨d, r, e, h1.mono _ _ _ _ _ (fun ρ' μ' z => h2.mono _ _ _ _ _ hh z) q⟩, _, pgs_cons p1 p2 hs, fun ι H σ ρ μ vs ds N r l a ⟨d, rr, e, q⟩ => ?_⟩
  subst e
  obtain ⟨v, vs', rfl, a1, a2⟩ := a.uncons
  refine ⟨v, vs', rfl, k1 ι H σ ρ μ v d _ r l a1 (h1.mono _ _ _ _ _ (fun ρ' μ' z => ?_) q)⟩
  intro ι1 H1 σ1 g1 r1 l1
  exact k2 ι1 H1 σ1 ρ' μ' vs' rr N r1 l1 (a2.gr g1) (h2.mono _ _ _ _ _ (fun _ _ z => SV.gr g1 z) z)
/-- (a, b, ..) = a tuple -/
def tgTup (n : Nat) (h : FGs) : FG := fun d ρ μ N => ∃ ds, d = .tup ds ∧ ds.length = n ∧ h ds ρ μ N
theorem dg_tup {ts : List Expr} {k n : Nat} {h : FGs} (hc : X.calm = true) (hh : DGs X ts h)
    (hn : (assignEach ts X.env).length = n := by rfl) (hst : (assignEach ts X.env).findIdx? (·.1) = none := by rfl) : DG X (.Tuple ts k pos) (tgTup n h) := by
  obtain ⟨t, p, kk⟩ := hh.run
  refine ⟨fun d ρ μ N N' m ⟨ds, e, c, q⟩ => ⟨ds, e, c, hh.mono _ _ _ _ _ m q⟩, _, pg_tup hc p hn hst, fun ι H σ ρ μ v d N r l a ⟨ds, e, c, q⟩ => ?_⟩
  subst e
  obtain ⟨b, vs, rfl, h1, h2⟩ := tup_at a
  exact ⟨b, vs, rfl, h1, by rw [h2.1]; exact c, kk ι H σ ρ μ vs ds N r l h2 q⟩
def sAsg (f : FE) (g : FG) : FS := fun A ρ μ => f ρ μ (fun d m => g d ρ m A.nx) A.ex
theorem mAsg {g : FG} (m : MonE f) (mg : MonTg g) : MonS (sAsg f g) := fun ρ μ A B h q => m ρ μ _ _ _ _ (fun d mm z => mg _ _ _ _ _ h.nx z) (fun _ _ _ z => h.ex _ _ _ _ z) q
theorem ds_set {i : Nat} {x : Str} {pos' : Pos} (hN : X.N.Nodup) (hi : X.N[i]? = some x) (hx : L2.Loc X.env.scope x) (h : DE X W e f)
    (hs : swapsWith e (some (.Name x pos')) pos.line X.env = pure false := by rfl)
    (hf : X.fn x = true ∨ X.env.scope.names.lookup x = some .local := by first | exact .inl rfl | exact .inr rfl | assumption) : DS X W (.Assign [.Name x pos'] e pos) (sAsg f (tgName i)) :=
  ⟨mAsg h.mono (fun d ρ μ N N' h q => h _ _ q), PS.imp (ps_set hN hi hx h.run hs hf) fun D σ H ⟨ι, ρ, μ, r, l, q⟩ => chS h.mono rfl r l q fun d μ1 ι1 H1 v z g1 r1 l1 a1 => z ι1 H1 _ g1 r1 (l1.set a1 i)⟩
theorem ds_asg {tg : Expr} {g : FG} (h : DE X W e f) (hg : DG X tg g) (hs : swapsWithSole [tg] e pos.line X.env = pure false := by rfl) (hw : swappedStores [tg] e X.env = pure none := by rfl)
    (h1 : (assignEach [tg] X.env).map (·.2) = [assign tg X.env] := by rfl) : DS X W (.Assign [tg] e pos) (sAsg f g) := by
  obtain ⟨t, p, kk⟩ := hg.run
  refine ⟨mAsg h.mono hg.mono, PS.imp (ps_asg h.run p hs hw h1) fun D σ H ⟨ι, ρ, μ, r, l, q⟩ => chS h.mono rfl r l q fun d μ1 ι1 H1 v z g1 r1 l1 a1 => ?_⟩
  exact kk ι1 H1 σ ρ μ1 v d D.nx r1 l1 a1 (hg.mono _ _ _ _ _ (fun _ _ z => SV.gr g1 z) z)

/-! ### what a loop walks: its items, and what must stay while it walks -/
structure Walks (K : PySem.W.Frag) (J : It) (ι : Io) (H : Hp) (xs : List D) (stay : Sto → Prop) : Prop where
  go : ∀ ι' H' μ' i x, Gr ι H ι' H' → Rep K ι' μ' H' → stay μ' → xs[i]? = some x → J.go i H' ∧ ∀ v H2, J.yld i H' v H2 → Gr ι' H' ι' H2 ∧ Rep K ι' μ' H2 ∧ At K ι' H2 v x
  stop : ∀ ι' H' μ' i, Gr ι H ι' H' → Rep K ι' μ' H' → stay μ' → xs.length = i → J.stop i H'
abbrev FI := Rho → Sto → (List D → (Sto → Prop) → Sto → Prop) → ED → Prop
def MonI (f : FI) : Prop := ∀ ρ μ (Q Q' : List D → (Sto → Prop) → Sto → Prop) (E E' : ED), (∀ xs st m, Q xs st m → Q' xs st m) → (∀ c l m, E c l ρ m → E' c l ρ m) → f ρ μ Q E → f ρ μ Q' E'
def IV (K : PySem.W.Frag) (ι : Io) (H : Hp) (R : It → Hp → Prop) : List D → (Sto → Prop) → Sto → Prop := fun xs st μ => ∀ ι' H' J, Gr ι H ι' H' → Rep K ι' μ H' → Walks K J ι' H' xs st → R J H'
def rdI (K : PySem.W.Frag) (W : WX) (f : FI) : TI := fun σ H R => ∃ ι ρ μ, Rep K ι μ H ∧ Loc K ι H σ ρ ∧ f ρ μ (IV K ι H R) (EW K ι H W σ)
structure DI (X : Cx) (W : WX) (tg iter : Expr) (f : FI) : Prop where
  mono : MonI f
  run : PI X tg iter (rdI X.K W f)
theorem PI.imp {X : Cx} {tg it : Expr} {w w' : TI} (h : PI X tg it w) (k : ∀ σ H R, w' σ H R → w σ H R) : PI X tg it w' := ⟨fun pins s σ H R I q => h.run pins s σ H R I (k σ H R q)⟩
/-- a list or a tuple -/
def iSeq (f : FE) : FI := fun ρ μ Q E => f ρ μ (fun d m => ∃ xs, asS m d = some xs ∧ Q xs (fun m' => asS m' d = some xs) m) E
theorem mSeqI (m : MonE f) : MonI (iSeq f) := fun ρ μ Q Q' E E' h he q => m ρ μ _ _ E E' (fun d mm ⟨xs, e, z⟩ => ⟨xs, e, h _ _ _ z⟩) he q
theorem walks_list {K : PySem.W.Frag} {a : Addr} {ι : Io} {H : Hp} {d : D} {xs : List D} (at_ : At K ι H (.ref a) d) (nt : ∀ ds, d ≠ .tup ds) : Walks K (Itl K a) ι H xs (fun m' => asS m' d = some xs) := by
  have key : ∀ ι' H' μ', Gr ι H ι' H' → Rep K ι' μ' H' → asS μ' d = some xs → ∃ vs, H' a = some (.lst vs) ∧ Ats K ι' H' vs xs := fun ι' H' μ' g r st => by
    have st' : asL μ' d = some xs := by
      cases d with
      | tup ds => exact absurd rfl (nt ds)
      | _ => exact st
    obtain ⟨p, vs, e, h1, h2⟩ := asL_at r (at_.gr g) st'
    cases e
    exact ⟨vs, h1, h2⟩
  refine ⟨fun ι' H' μ' i x g r st hx => ?_, fun ι' H' μ' i g r st hx0 => have hx := Nat.le_of_eq hx0; ?_⟩
  · obtain ⟨vs, h1, h2⟩ := key ι' H' μ' g r st
    obtain ⟨v, e, av⟩ := h2.get hx
    refine ⟨⟨vs, v, SqL.of h1, e⟩, fun u H2 hy => ?_⟩
    obtain ⟨rfl, hu⟩ := hy
    have e2 := hu vs (SqL.of h1)
    rw [e] at e2; cases e2
    exact ⟨Gr.refl _ _, r, av⟩
  · obtain ⟨vs, h1, h2⟩ := key ι' H' μ' g r st
    exact ⟨vs, SqL.of h1, by rw [h2.1]; exact hx⟩
theorem walks_tup {K : PySem.W.Frag} {a : Addr} {ι : Io} {H : Hp} {xs : List D} (at_ : At K ι H (.ref a) (.tup xs)) {st : Sto → Prop} : Walks K (Itt K a) ι H xs st := by
  have key : ∀ ι' H', Gr ι H ι' H' → ∃ vs, SqT K H' a vs ∧ Ats K ι' H' vs xs := fun ι' H' g => by
    obtain ⟨p, vs, e, h1, h2⟩ := tup_at (at_.gr g)
    cases e
    exact ⟨vs, h1, h2⟩
  refine ⟨fun ι' H' μ' i x g r st hx => ?_, fun ι' H' μ' i g r st hx0 => have hx := Nat.le_of_eq hx0; ?_⟩
  · obtain ⟨vs, h1, h2⟩ := key ι' H' g
    obtain ⟨v, e, av⟩ := h2.get hx
    refine ⟨⟨vs, v, h1, e⟩, fun u H2 hy => ?_⟩
    obtain ⟨rfl, hu⟩ := hy
    have e2 := hu vs h1
    rw [e] at e2; cases e2
    exact ⟨Gr.refl _ _, r, av⟩
  · obtain ⟨vs, h1, h2⟩ := key ι' H' g
    exact ⟨vs, h1, by rw [h2.1]; exact hx⟩
def PI.or2 (X : Cx) (tg iter : Expr) (t : TE) : TI := fun σ H R => t σ H fun v H1 => (∃ a, v = .ref a ∧ (∃ xs, SqL X.K H1 a xs) ∧ R (Itl X.K a) H1) ∨ (∃ a, v = .ref a ∧ (∃ xs, SqT X.K H1 a xs) ∧ R (Itt X.K a) H1)
theorem pi_seq {tg l : Expr} {tl : TE} (hl : PE X l tl) : PI X tg l (PI.or2 X tg l tl) := by
  refine ⟨fun pins s σ H R I h => ?_⟩
  have fresh : ∀ {s1 : Shared} {H1 : Hp}, Inv X pins σ H1 s1 → ∀ b ∈ [s1.heap.objs.size], FpOk X pins H1 b := fun I1 b hb => by
    cases List.mem_singleton.mp hb
    exact I1.fpOk (Nat.le_refl _) (I1.hok.fresh (Nat.le_refl _))
  refine thn (hl.run pins s σ H _ I h) fun v s1 ⟨x, H1, I1, r1, q1⟩ => ?_
  rcases q1 with ⟨a, rfl, ⟨xs, hq⟩, q⟩ | ⟨a, rfl, ⟨xs, hq⟩, q⟩
  · cases r1
    obtain ⟨its, rv, p, hz⟩ := I1.list hq
    refine wpAny_pyIter_list p.isList ⟨s1.heap.objs.size, [s1.heap.objs.size], _, _, H1, rfl, I1.kept (t' := s1.toks) fun b o e => Heap.get?_push_of_some _ e, turn_list a _, ⟨_, Heap.get?_push_size _ rfl, rfl, rfl⟩, ?_, q⟩
    exact fresh I1
  · cases r1
    obtain ⟨its, rv, p, hz⟩ := I1.tuple hq
    refine wpAny_pyIter_tuple (show s1.heap.IsTuple a its.toArray from p) ⟨s1.heap.objs.size, [s1.heap.objs.size], _, _, H1, rfl, I1.kept (t' := s1.toks) fun b o e => Heap.get?_push_of_some _ e, turn_tuple a _, ⟨_, Heap.get?_push_size _ rfl, rfl, rfl⟩, ?_, q⟩
    exact fresh I1
theorem di_seq {tg : Expr} (h : DE X W e f) : DI X W tg e (iSeq f) :=
  ⟨mSeqI h.mono, PI.imp (pi_seq (tg := tg) h.run) fun σ H R ⟨ι, ρ, μ, r, l, q⟩ => chain1 h.mono r l q fun d μ1 ι1 H1 v z g1 r1 l1 a1 => by
    obtain ⟨xs, e1, z⟩ := z
    cases d with
    | tup ds =>
      cases Option.some.inj e1
      obtain ⟨p, vs, rfl, h1, h2⟩ := tup_at a1
      exact .inr ⟨p, rfl, ⟨vs, h1⟩, z ι1 H1 _ g1 r1 (walks_tup a1)⟩
    | _ =>
      obtain ⟨p, vs, rfl, h1, h2⟩ := asL_at r1 a1 e1
      exact .inl ⟨p, rfl, ⟨vs, SqL.of h1⟩, z ι1 H1 _ g1 r1 (walks_list a1 fun ds hh => by cases hh)⟩⟩

/-- for .. -/
def sFor (fi : FI) (g : FG) (fb : FS) : FS := fun A ρ μ => fi ρ μ (fun xs st m => ∃ I : Nat → Rho → Sto → Prop, I 0 ρ m ∧ (∀ i ρ' μ', I i ρ' μ' → st μ') ∧
  (∀ i x ρ' μ', xs[i]? = some x → I i ρ' μ' → g x ρ' μ' (fun ρ2 μ2 => fb { A with nx := I (i + 1), ct := I (i + 1), bk := A.nx } ρ2 μ2)) ∧ ∀ ρ' μ', I xs.length ρ' μ' → A.nx ρ' μ') A.ex
theorem mFor {fi : FI} {g : FG} {fb : FS} (mi : MonI fi) (mg : MonTg g) (mb : MonS fb) : MonS (sFor fi g fb) := fun ρ μ A B h q => mi ρ μ _ _ _ _
  (fun xs st m ⟨I, h0, hs, ht, hd⟩ => ⟨I, h0, hs, fun i x ρ' μ' hx hi => mg _ _ _ _ _ (fun ρ2 μ2 z => mb ρ2 μ2 { A with nx := I (i + 1), ct := I (i + 1), bk := A.nx } { B with nx := I (i + 1), ct := I (i + 1), bk := B.nx } ⟨fun _ _ z => z, h.rt, h.ex, h.nx, fun _ _ z => z⟩ z) (ht i x ρ' μ' hx hi), fun ρ' μ' z => h.nx _ _ (hd ρ' μ' z)⟩)
  (fun _ _ _ z => h.ex _ _ _ _ z) q
theorem ds_for {tg iter : Expr} {fi : FI} {g : FG} {fb : FS} (hp : PassesOwn (model X.prog X.w) X.A X.env X.xe) (hc : X.calm = true) (hi : DI X W tg iter fi) (hg : DG X tg g) (hb : DB X W sb fb)
    (hs : ∀ x, foldedSetIterable iter X.env x = pure x := by intro _; rfl) : DS X W (.For tg iter sb [] pos) (sFor fi g fb) := by
  obtain ⟨t, p, kk⟩ := hg.run
  refine ⟨mFor hi.mono hg.mono hb.mono, PS.imp (ps_for hp hc hi.run p hb.run hs) fun D σ H ⟨ι, ρ, μ, r, l, q⟩ => ?_⟩
  refine ⟨ι, ρ, μ, r, l, hi.mono ρ μ _ _ _ _ (fun xs st m z => ?_) (fun c l' m z => WV.ew l z) q⟩
  intro ι1 H1 J g1 r1 wk
  obtain ⟨I, h0, hst, ht, hd⟩ := z
  refine ⟨fun i n σ' H' => n = xs.length - i ∧ i ≤ xs.length ∧ ∃ ι' ρ' μ', Gr ι1 H1 ι' H' ∧ Rep X.K ι' μ' H' ∧ Loc X.K ι' H' σ' ρ' ∧ I i ρ' μ', ⟨xs.length, by simp, Nat.zero_le _, ι1, ρ, m, Gr.refl _ _, r1, l.gr g1, h0⟩, ?_⟩
  rintro i n σ' H' ⟨rfl, hle, ι', ρ', μ', g', r', l', hI⟩
  by_cases hlt : i < xs.length
  · have hx : xs[i]? = some xs[i] := List.getElem?_eq_getElem hlt
    obtain ⟨w1, w2⟩ := wk.go ι' H' μ' i _ g' r' (hst i ρ' μ' hI) hx
    refine .inr ⟨w1, fun σ2 H2 => ∃ ι2 ρ2 μ2, Gr ι1 H1 ι2 H2 ∧ Rep X.K ι2 μ2 H2 ∧ Loc X.K ι2 H2 σ2 ρ2 ∧ I (i + 1) ρ2 μ2, fun σ2 H2 z => ⟨xs.length - (i + 1), by omega, rfl, hlt, z⟩, fun v H2 hy => ?_⟩
    obtain ⟨gy, ry, ay⟩ := w2 v H2 hy
    refine kk ι' H2 σ' ρ' μ' v _ _ ry (l'.gr gy) ay (hg.mono _ _ _ _ _ (fun ρ2 μ2 z => ?_) (ht i _ ρ' μ' hx hI))
    intro ι3 H3 σ3 g3 r3 l3
    have gg : Gr ι1 H1 ι3 H3 := (g'.trans gy).trans g3
    refine ⟨ι3, ρ2, μ2, r3, l3, hb.mono ρ2 μ2 _ _ ⟨fun ρ4 μ4 z ι4 H4 σ4 g4 r4 l4 => ⟨ι4, ρ4, μ4, gg.trans g4, r4, l4, z⟩, fun _ _ z => QV.gr (g1.trans gg) z, fun _ _ _ _ z => WV.gr (g1.trans gg) z,
      fun _ _ z => SV.gr (g1.trans gg) z, fun ρ4 μ4 z ι4 H4 σ4 g4 r4 l4 => ⟨ι4, ρ4, μ4, gg.trans g4, r4, l4, z⟩⟩ z⟩
  · have e : i = xs.length := by omega
    subst e
    exact .inl ⟨wk.stop ι' H' μ' _ g' r' (hst _ ρ' μ' hI) rfl, hd ρ' μ' hI ι' H' σ' (g1.trans g') r' l'⟩
end
end Dl

namespace Dl
open PySem PySem.Spec L2
open PyProof.Rows hiding St Binds

/-! ### attributes stored -/
def putD {κ : Type} [DecidableEq κ] (f : κ) (y : D) : List (κ × D) → List (κ × D)
  | [] => [(f, y)]
  | (g, z) :: r => if g = f then (g, y) :: r else (g, z) :: putD f y r
theorem Pts.put {K : PySem.W.Frag} {ι : Io} {H : Hp} {f : Str} {v : V} {d : D} (a : At K ι H v d) : ∀ {fv : List (Str × V)} {fd : List (Str × D)}, Pts K ι H fv fd → Pts K ι H (putF f v fv) (putD f d fd)
  | fv, [], p => by
    have e : fv = [] := by have := p.1; simpa using this
    subst e
    exact Pts.cons a Pts.nil
  | fv, (g, z) :: fd, p => by
    obtain ⟨w, fv', rfl, a1, p'⟩ := p.uncons
    unfold putF putD
    by_cases h : g = f
    · rw [if_pos h, if_pos h]; exact Pts.cons a p'
    · rw [if_neg h, if_neg h]; exact Pts.cons a1 (Pts.put a p')
/-! ### dicts by keys -/
def kD : D → Option Key
  | .int i => some (.inl i)
  | .str s => some (.inr s)
  | _ => none
def kOf : Key → D
  | .inl i => .int i
  | .inr s => .str s
def valD (kd : List (Key × D)) (k : Key) : Option D := (kd.find? fun q => decide (q.1 = k)).map (·.2)
def dropD (kd : List (Key × D)) (k : Key) : List (Key × D) := kd.filter fun q => decide (q.1 ≠ k)
/-- the key's place keeps, a new one comes last -/
def putKD (kd : List (Key × D)) (k : Key) (d : D) : List (Key × D) := if (kd.any fun q => decide (q.1 = k)) then kd.map (fun q => if q.1 = k then (q.1, d) else q) else kd ++ [(k, d)]
def OAt (K : PySem.W.Frag) (ι : Io) (H : Hp) : Option V → Option D → Prop
  | some v, some d => At K ι H v d
  | none, none => True
  | _, _ => False
section
variable {K : PySem.W.Frag} {ι : Io} {H : Hp} {kv : List (Key × V)} {kd : List (Key × D)} {k : Key}
theorem kD_at {v : V} {d : D} (a : At K ι H v d) (h : kD d = some k) : v = kV k := by
  cases a with
  | int i => cases Option.some.inj h; rfl
  | str i => cases Option.some.inj h; rfl
  | _ => cases h
theorem kOf_at : At K ι H (kV k) (kOf k) := by cases k <;> first | exact .int _ | exact .str _
theorem Pts.val : ∀ {kv : List (Key × V)} {kd : List (Key × D)}, Pts K ι H kv kd → OAt K ι H (valV kv k) (valD kd k)
  | kv, [], p => by
    have e : kv = [] := by have := p.1; simpa using this
    subst e
    exact True.intro
  | kv, (g, z) :: kd, p => by
    obtain ⟨w, kv', rfl, a1, p'⟩ := p.uncons
    unfold valV valD
    rw [List.find?_cons, List.find?_cons]
    by_cases h : g = k
    · simp only [h, decide_true]; exact a1
    · simp only [h, decide_false]; exact Pts.val p'
theorem Pts.drop : ∀ {kv : List (Key × V)} {kd : List (Key × D)}, Pts K ι H kv kd → Pts K ι H (dropK kv k) (dropD kd k)
  | kv, [], p => by
    have e : kv = [] := by have := p.1; simpa using this
    subst e
    exact Pts.nil
  | kv, (g, z) :: kd, p => by
    obtain ⟨w, kv', rfl, a1, p'⟩ := p.uncons
    unfold dropK dropD
    rw [List.filter_cons, List.filter_cons]
    by_cases h : g = k
    · simp only [h, ne_eq, not_true, decide_false, Bool.false_eq_true, if_false]; exact Pts.drop p'
    · simp only [h, ne_eq, not_false_eq_true, decide_true, if_true]; exact Pts.cons a1 (Pts.drop p')
theorem Pts.app {κ : Type} {kv kv' : List (κ × V)} {kd kd' : List (κ × D)} (p : Pts K ι H kv kd) (q : Pts K ι H kv' kd') : Pts K ι H (kv ++ kv') (kd ++ kd') := by
  have hl : kv.length = kd.length := by have := congrArg List.length p.1; simpa using this
  refine ⟨by simp [p.1, q.1], fun i x y h1 h2 => ?_⟩
  by_cases hi : i < kv.length
  · rw [List.getElem?_append_left hi] at h1
    rw [List.getElem?_append_left (by rw [← hl]; exact hi)] at h2
    exact p.2 i x y h1 h2
  · rw [List.getElem?_append_right (by omega)] at h1
    rw [List.getElem?_append_right (by rw [← hl]; omega), ← hl] at h2
    exact q.2 _ x y h1 h2
theorem Pts.any {kv : List (Key × V)} {kd : List (Key × D)} (p : Pts K ι H kv kd) : (kv.any fun q => decide (q.1 = k)) = (kd.any fun q => decide (q.1 = k)) := by
  have e1 : (kv.any fun q => decide (q.1 = k)) = ((kv.map (·.1)).any fun g => decide (g = k)) := by rw [List.any_map]; rfl
  have e2 : (kd.any fun q => decide (q.1 = k)) = ((kd.map (·.1)).any fun g => decide (g = k)) := by rw [List.any_map]; rfl
  rw [e1, e2, p.1]
theorem Pts.putK {v : V} {d : D} (a : At K ι H v d) (p : Pts K ι H kv kd) : Pts K ι H (L2.putK kv k v) (putKD kd k d) := by
  have e : L2.putK kv k v = if (kv.any fun q => decide (q.1 = k)) then kv.map (fun q => if q.1 = k then (q.1, v) else q) else kv ++ [(k, v)] := by
    unfold L2.putK; first | rfl | (split <;> simp_all)
  rw [e]
  unfold putKD
  rw [p.any]
  split
  · refine ⟨?_, fun i x y h1 h2 => ?_⟩
    · have q1 : (kv.map fun q => if q.1 = k then (q.1, v) else q).map (·.1) = kv.map (·.1) := by
        rw [List.map_map]; exact List.map_congr_left fun q _ => by simp only [Function.comp]; split <;> rfl
      have q2 : (kd.map fun q => if q.1 = k then (q.1, d) else q).map (·.1) = kd.map (·.1) := by
        rw [List.map_map]; exact List.map_congr_left fun q _ => by simp only [Function.comp]; split <;> rfl
      rw [q1, q2, p.1]
    · rw [List.getElem?_map, Option.map_eq_some_iff] at h1 h2
      obtain ⟨x', hx, rfl⟩ := h1
      obtain ⟨y', hy, rfl⟩ := h2
      have same : x'.1 = y'.1 := by
        have z := congrArg (fun l => l[i]?) p.1
        simp only [List.getElem?_map, hx, hy, Option.map_some] at z
        exact Option.some.inj z
      rw [same]
      split
      · exact a
      · exact p.2 i x' y' hx hy
  · exact p.app (Pts.cons a Pts.nil)
theorem Pts.length {κ : Type} {kv : List (κ × V)} {kd : List (κ × D)} (p : Pts K ι H kv kd) : kv.length = kd.length := by have := congrArg List.length p.1; simpa using this
end

section
variable {X : Cx} {W : WX} {a b c e o : Expr} {es : List Expr} {fa fb fc f fo fv : FE} {ft : FT} {fl : FA} {pos p apos cpos pos' : Pos} {σ : L2.St} {x : Str}
theorem PE.or {t t' : TE} (h : PE X e t) (h' : PE X e t') : PE X e (fun σ H Q => t σ H Q ∨ t' σ H Q) := ⟨fun pins s σ H Q I q => q.elim (h.run pins s σ H Q I) (h'.run pins s σ H Q I)⟩
theorem DE.or (h : DE X W e f) (h' : DE X W e fo) : DE X W e (fun ρ μ Q E => f ρ μ Q E ∨ fo ρ μ Q E) :=
  ⟨fun ρ μ Q Q' E E' hq he z => z.imp (h.mono _ _ _ _ _ _ hq he) (h'.mono _ _ _ _ _ _ hq he), PE.imp (PE.or h.run h'.run) fun σ H Q ⟨ι, ρ, μ, r, l, q⟩ => q.imp (fun q => ⟨ι, ρ, μ, r, l, q⟩) (fun q => ⟨ι, ρ, μ, r, l, q⟩)⟩
/-- o.f = e -/
def sStF (fn : Str) (K : PySem.W.Frag) (fv fo : FE) : FS := fun A ρ μ => fv ρ μ (fun y m1 => fo ρ m1 (fun d m2 => ∃ n C fd, d = .cell n ∧ m2[n]? = some (.ins C fd) ∧ Cls K C ∧ NoAttr K C fn ∧ fd.length < 1000 ∧
  A.nx ρ (m2.set n (.ins C (putD fn y fd)))) A.ex) A.ex
theorem ds_fld {fn : Str} (ho : DE X W o fo) (hv : DE X W e fv) (hs : swapsWith e (some (.Attribute o fn pos')) pos.line X.env = pure false := by rfl) {K : PySem.W.Frag} (hK : X.K = K := by rfl) : DS X W (.Assign [.Attribute o fn pos'] e pos) (sStF fn K fv fo) := by
  subst hK
  refine ⟨fun ρ μ A B h q => hv.mono ρ μ _ _ _ _ (fun y m z => ho.mono ρ m _ _ _ _ (fun d m2 ⟨n, C, fd, e1, e2, e3, e4, e5, z⟩ => ⟨n, C, fd, e1, e2, e3, e4, e5, h.nx _ _ z⟩) (fun _ _ _ z => h.ex _ _ _ _ z) z) (fun _ _ _ z => h.ex _ _ _ _ z) q,
    PS.imp (ps_fld ho.run hv.run hs) fun D σ H ⟨ι, ρ, μ, r, l, q⟩ => chS hv.mono rfl r l q fun y μ1 ι1 H1 v z g1 r1 l1 a1 => ?_⟩
  refine chS (De := D) (A := KV X.K W ι1 H1 D) ho.mono rfl r1 l1 (ho.mono ρ μ1 _ _ _ _ (fun _ _ z => z) (fun _ _ _ z => WV.gr g1 z) z) fun d μ2 ι2 H2 u z g2 r2 l2 a2 => ?_
  obtain ⟨n, C, fd, rfl, e2, e3, e4, e5, z⟩ := z
  cases a2 with
  | @cell a _ hn =>
    obtain ⟨dx, fv', h1, h2⟩ := r2.at_ n a _ hn e2
    refine ⟨a, C, dx, fv', rfl, h1, e3, e4, by rw [h2.length]; exact e5, ?_⟩
    have gc := Gr.chg (H := H2) (o := .ins C dx (putF fn v fv')) (List.mem_of_getElem? hn)
    exact z ι2 _ σ ((g1.trans g2).trans gc) (r2.chg hn ⟨dx, _, upd_same, Pts.put ((a1.gr g2).gr gc) (h2.gr gc)⟩) (l2.gr gc)

/-! ### subscripts -/
def ixD : G2 := fun x y μ Q => match x with
  | .str z => ∃ i c, y = .int i ∧ z.length ≤ sizeLine ∧ atI z.cps.toList i = some c ∧ Q (.str ⟨#[c]⟩) μ
  | x => ∃ ds i d, asS μ x = some ds ∧ y = .int i ∧ atI ds i = some d ∧ Q d μ
theorem ixD_mono : MonG ixD := fun x y μ Q Q' h q => by
  cases x with
  | str z => obtain ⟨i, c, e1, e2, e3, q⟩ := q; exact ⟨i, c, e1, e2, e3, h _ _ q⟩
  | _ => obtain ⟨i, c, e1, e2, e3, e4, q⟩ := q; exact ⟨i, c, e1, e2, e3, e4, h _ _ q⟩
theorem Ats.atI {K : PySem.W.Frag} {ι : Io} {H : Hp} {vs : List V} {ds : List D} {i : Int} {d : D} (r : Ats K ι H vs ds) (h : L2.atI ds i = some d) : ∃ v, L2.atI vs i = some v ∧ At K ι H v d := by
  unfold L2.atI at h ⊢
  rw [r.1]
  cases e : ixN ds.length i with
  | none => rw [e] at h; cases h
  | some j => rw [e] at h; exact r.get h
theorem de_ix (ha : DE X W a fa) (hb : DE X W b fb) (hs : PlainIx b := by exact fun _ _ => rfl) : DE X W (.Subscript a b pos) (fOp ixD fa fb) :=
  ⟨mOp ixD_mono ha.mono hb.mono, PE.imp (pe_ix ix_seq ha.run hb.run hs) fun σ H Q h => rdOp ixD_mono ha.mono hb.mono (fun ι H μ x y dx dy Q r a b q => by
    have seq : ∀ {ds i d}, asS μ dx = some ds → dy = .int i → atI ds i = some d → QV X.K ι H Q d μ → rIx X.K x y H Q := fun {ds i d} e1 e2 e3 qq => by
      subst e2
      cases b
      obtain ⟨p, vs, rfl, h1, h2⟩ := asS_at r a e1
      obtain ⟨v, e4, av⟩ := h2.atI e3
      have fin := qq ι H v (Gr.refl _ _) r av
      rcases h1 with h1 | h1
      · exact .inl ⟨p, vs, i, v, rfl, rfl, h1, e4, fin⟩
      · exact .inr (.inl ⟨p, vs, i, v, rfl, rfl, h1, e4, fin⟩)
    cases dx with
    | str z =>
      obtain ⟨i, c, rfl, e2, e3, q⟩ := q
      cases a; cases b
      exact .inr (.inr ⟨z, i, c, rfl, rfl, e2, e3, q ι H _ (Gr.refl _ _) r (.str _)⟩)
    | _ => obtain ⟨ds, i, d, e1, e2, e3, q⟩ := q; exact seq e1 e2 e3 q) h⟩
/-- d[k] -/
def dgD : G2 := fun x y μ Q => ∃ kd k d, asD μ x = some kd ∧ kD y = some k ∧ valD kd k = some d ∧ Q d μ
theorem dgD_mono : MonG dgD := fun x y μ Q Q' h ⟨kd, k, d, e1, e2, e3, q⟩ => ⟨kd, k, d, e1, e2, e3, h _ _ q⟩
theorem dget_of {K : PySem.W.Frag} {ι : Io} {H : Hp} {μ : Sto} {vx vy : V} {dx dy : D} {kd : List (Key × D)} {k : Key} (r : Rep K ι μ H) (a : At K ι H vx dx) (b : At K ι H vy dy) (e1 : asD μ dx = some kd) (e2 : kD dy = some k) :
    ∃ p kv, vx = .ref p ∧ Pts K ι H kv kd ∧ Rd H p (.dK kv) ∧ DGet H p vy (valV kv k) ∧ OAt K ι H (valV kv k) (valD kd k) := by
  obtain ⟨p, kv, rfl, h1, h2⟩ := asD_at r a e1
  exact ⟨p, kv, rfl, h2, h1, .inl ⟨kv, k, h1, kD_at b e2, rfl⟩, h2.val⟩
theorem de_dget (hu : X.A.units + 1 < cLine) (ha : DE X W a fa) (hb : DE X W b fb) (hs : NoSl b := by rfl) : DE X W (.Subscript a b pos) (fOp dgD fa fb) :=
  ⟨mOp dgD_mono ha.mono hb.mono, PE.imp (pe_dget hu ha.run hb.run hs) fun σ H Q h => rdOp (r := fun x y H2 Q => ∃ a v, x = .ref a ∧ DGet H2 a y (some v) ∧ Q v H2) dgD_mono ha.mono hb.mono (fun ι H μ x y dx dy Q r a b ⟨kd, k, d, e1, e2, e3, q⟩ => by
    obtain ⟨p, kv, rfl, _, _, g, oa⟩ := dget_of r a b e1 e2
    rw [e3] at oa
    cases ev : valV kv k with
    | none => rw [ev] at oa; exact oa.elim
    | some v => rw [ev] at oa g; exact ⟨p, v, rfl, g, q ι H v (Gr.refl _ _) r oa⟩) h⟩
theorem OAt.getD {K : PySem.W.Frag} {ι : Io} {H : Hp} {v : Option V} {d : Option D} {v0 : V} {d0 : D} (h : OAt K ι H v d) (a : At K ι H v0 d0) : At K ι H (v.getD v0) (d.getD d0) := by
  cases v <;> cases d <;> first | exact a | exact h | exact h.elim
/-- d[k] = v, d a cell -/
def sDPutD (fv fo fa : FE) : FS := fun A ρ μ => fv ρ μ (fun v m1 => fo ρ m1 (fun x m2 => fa ρ m2 (fun y m3 => ∃ n kd k, x = .cell n ∧ m3[n]? = some (.dct kd) ∧ kD y = some k ∧ kd.length < sizeLine ∧
  A.nx ρ (m3.set n (.dct (putKD kd k v)))) A.ex) A.ex) A.ex
theorem ds_dput (hu : X.A.units + 1 < cLine) (ho : DE X W o fo) (ha : DE X W a fa) (hv : DE X W e fv) (hs : swapsWith e (some (.Subscript o a pos')) pos.line X.env = pure false := by rfl) :
    DS X W (.Assign [.Subscript o a pos'] e pos) (sDPutD fv fo fa) := by
  refine ⟨fun ρ μ A B h q => hv.mono ρ μ _ _ _ _ (fun v m1 z => ho.mono ρ m1 _ _ _ _ (fun x m2 z => ha.mono ρ m2 _ _ _ _ (fun y m3 ⟨n, kd, k, e1, e2, e3, e4, z⟩ => ⟨n, kd, k, e1, e2, e3, e4, h.nx _ _ z⟩) (fun _ _ _ z => h.ex _ _ _ _ z) z) (fun _ _ _ z => h.ex _ _ _ _ z) z) (fun _ _ _ z => h.ex _ _ _ _ z) q,
    PS.imp (ps_dput hu ho.run ha.run hv.run hs) fun D σ H ⟨ι, ρ, μ, r, l, q⟩ => chS hv.mono rfl r l q fun y μ1 ι1 H1 v z g1 r1 l1 a1 => ?_⟩
  refine chS (De := D) (A := KV X.K W ι1 H1 D) ho.mono rfl r1 l1 (ho.mono ρ μ1 _ _ _ _ (fun _ _ z => z) (fun _ _ _ z => WV.gr g1 z) z) fun x μ2 ι2 H2 u z g2 r2 l2 a2 => ?_
  refine chS (De := D) (A := KV X.K W ι2 H2 D) ha.mono rfl r2 l2 (ha.mono ρ μ2 _ _ _ _ (fun _ _ z => z) (fun _ _ _ z => WV.gr (g1.trans g2) z) z) fun w μ3 ι3 H3 t z g3 r3 l3 a3 => ?_
  obtain ⟨n, kd, k, rfl, e2, e3, e4, z⟩ := z
  have a2' := a2.gr g3
  cases a2' with
  | @cell a _ hn =>
    obtain ⟨kv, h1, h2⟩ := r3.at_ n a _ hn e2
    refine ⟨a, _, (by cases a2; rename_i h; exact congrArg V.ref (Option.some.inj ((g3.pre _ _ h).symm.trans hn))), .inl ⟨kv, k, h1, kD_at a3 e3, by rw [h2.length]; exact e4, rfl⟩, ?_⟩
    have gc := Gr.chg (H := H3) (o := .dK (L2.putK kv k v)) (List.mem_of_getElem? hn)
    exact z ι3 _ σ (((g1.trans g2).trans g3).trans gc) (r3.chg hn ⟨_, upd_same, Pts.putK (((a1.gr g2).gr g3).gr gc) (h2.gr gc)⟩) (l3.gr gc)

/-! ### x in a list or a tuple of flat things -/
def flatD : D → Bool
  | .non => true
  | .bl _ => true
  | .int _ => true
  | .str _ => true
  | _ => false
def eqDD : D → D → Bool
  | .non, .non => true
  | .bl a, .bl b => a == b
  | .bl a, .int b => (if a then 1 else 0) == b
  | .int a, .bl b => a == (if b then 1 else 0)
  | .int a, .int b => a == b
  | .str a, .str b => a == b
  | _, _ => false
def inDD (x : D) (ds : List D) : Bool := ds.any fun y => eqDD y x
theorem flat_at {K : PySem.W.Frag} {ι : Io} {H : Hp} {v : V} {d : D} (a : At K ι H v d) (h : flatD d = true) : flatV v = true := by cases a <;> first | rfl | cases h
theorem eq_at {K : PySem.W.Frag} {ι : Io} {H : Hp} {v u : V} {d c : D} (a : At K ι H v d) (b : At K ι H u c) (h : flatD d = true) (h' : flatD c = true) : eqV v u = eqDD d c := by
  cases a <;> first | cases h | skip
  all_goals (cases b <;> first | rfl | cases h')
theorem Ats.flat {K : PySem.W.Frag} {ι : Io} {H : Hp} : ∀ {vs : List V} {ds : List D}, Ats K ι H vs ds → ds.all flatD = true → vs.all flatV = true ∧ ∀ {u c}, At K ι H u c → flatD c = true → inV u vs = inDD c ds
  | vs, [], r, _ => by cases Ats.unnil r; exact ⟨rfl, fun _ _ => rfl⟩
  | vs, d :: ds, r, h => by
    obtain ⟨v, vs', rfl, a1, r'⟩ := r.uncons
    rw [List.all_cons, Bool.and_eq_true] at h
    obtain ⟨i1, i2⟩ := Ats.flat r' h.2
    refine ⟨by rw [List.all_cons, flat_at a1 h.1, i1]; rfl, fun {u c} au hc => ?_⟩
    unfold inV inDD
    rw [List.any_cons, List.any_cons, eq_at a1 au h.1 hc]
    exact congrArg _ (i2 au hc)
def inD (neg : Bool) : G2 := fun x y μ Q => ∃ ds, asS μ y = some ds ∧ flatD x = true ∧ ds.all flatD = true ∧ Q (.bl (if neg then !inDD x ds else inDD x ds)) μ
theorem inD_mono {neg : Bool} : MonG (inD neg) := fun x y μ Q Q' h ⟨ds, e1, e2, e3, q⟩ => ⟨ds, e1, e2, e3, h _ _ q⟩
theorem inD_run {neg : Bool} : ∀ ι H μ x y dx dy Q, Rep X.K ι μ H → At X.K ι H x dx → At X.K ι H y dy → inD neg dx dy μ (QV X.K ι H Q) → rIn X.K neg x y H Q := fun ι H μ x y dx dy Q r a b ⟨ds, e1, e2, e3, q⟩ => by
  obtain ⟨p, vs, rfl, h1, h2⟩ := asS_at r b e1
  obtain ⟨i1, i2⟩ := h2.flat e3
  exact ⟨p, vs, rfl, h1, flat_at a e2, i1, by rw [i2 a e2]; exact q ι H _ (Gr.refl _ _) r (.bl _)⟩
theorem opd_in : OpD X (compareOp .In) (inD false) := ⟨inD_mono, _, op_in_seq, inD_run⟩
theorem opd_notin : OpD X (compareOp .NotIn) (inD true) := ⟨inD_mono, _, op_notIn_seq, inD_run⟩
/-- a < b < c -/
def fChain (g g' : G2) (fa fb fc : FE) : FE := fun ρ μ Q E => fa ρ μ (fun x m1 => fb ρ m1 (fun y m2 => g x y m2 (fun z m3 => ∃ k, z = .bl k ∧ if k = true then fc ρ m3 (fun w m4 => g' y w m4 Q) E else Q (.bl false) m3)) E) E
theorem mChain {g g' : G2} (mg : MonG g) (mg' : MonG g') (ma : MonE fa) (mb : MonE fb) (mc : MonE fc) : MonE (fChain g g' fa fb fc) := fun ρ μ Q Q' E E' h he q =>
  ma ρ μ _ _ E E' (fun x m1 z => mb ρ m1 _ _ E E' (fun y m2 z => mg x y m2 _ _ (fun d m3 ⟨k, e, z⟩ => ⟨k, e, by
    cases k with
    | true => exact mc ρ m3 _ _ E E' (fun w m4 z => mg' y w m4 _ _ h z) he z
    | false => exact h _ _ z⟩) z) he z) he q
theorem de_chain {op op' : CmpOp} {g g' : G2} (o1 : OpD X (compareOp op) g) (o2 : OpD X (compareOp op') g') (ha : DE X W a fa) (hb : DE X W b fb) (hc : DE X W c fc) (hm : lastMarks [op, op'] [b, c] = false := by rfl) : DE X W (.Compare a [op, op'] [b, c] pos) (fChain g g' fa fb fc) := by
  obtain ⟨r1, p1, k1⟩ := o1.run
  obtain ⟨r2, p2, k2⟩ := o2.run
  refine ⟨mChain o1.mono o2.mono ha.mono hb.mono hc.mono, PE.imp (pe_chain p1 p2 ha.run hb.run hc.run hm) fun σ H Q ⟨ι, ρ, μ, r, l, q⟩ => chain1 ha.mono r l q fun x μ1 ι1 H1 v z g1 r1 l1 a1 => ?_⟩
  refine chain1 hb.mono r1 l1 (hb.mono ρ μ1 _ _ _ _ (fun _ _ z => z) (fun _ _ _ z => EW.gr g1 z) z) fun y μ2 ι2 H2 u z g2 r2 l2 a2 => ?_
  refine k1 ι2 H2 μ2 v u x y _ r2 (a1.gr g2) a2 (o1.mono _ _ _ _ _ (fun d m3 z => ?_) z)
  intro ι3 H3 t g3 r3 a3
  obtain ⟨k, rfl, z⟩ := z
  cases a3
  refine ⟨k, rfl, ?_⟩
  have gg := (g1.trans g2).trans g3
  cases k with
  | true =>
    refine chain1 hc.mono r3 (l2.gr g3) (hc.mono ρ m3 _ _ _ _ (fun _ _ z => z) (fun _ _ _ z => EW.gr gg z) z) fun w μ4 ι4 H4 s z g4 r4 l4 a4 => ?_
    exact k2 ι4 H4 μ4 u s y w Q r4 ((a2.gr g3).gr g4) a4 (o2.mono _ _ _ _ _ (fun d m z => QV.gr (gg.trans g4) z) z)
  | false => exact z ι3 H3 _ gg r3 (.bl _)

/-! ### calls of builtins by values -/
abbrev GC := List D → Sto → QD → Prop
def MonC (g : GC) : Prop := ∀ xs μ (Q Q' : QD), (∀ d m, Q d m → Q' d m) → g xs μ Q → g xs μ Q'
structure CaD (X : Cx) (f : Value) (g : GC) : Prop where
  mono : MonC g
  run : ∃ r, CallR X f r ∧ ∀ ι H μ vs ds Q, Rep X.K ι μ H → Ats X.K ι H vs ds → g ds μ (QV X.K ι H Q) → r vs H Q
def fCB (g : GC) (fl : FA) : FE := fun ρ μ Q E => fl ρ μ (fun ds m => g ds m Q) E
theorem mCB {g : GC} (mg : MonC g) (m : MonA fl) : MonE (fCB g fl) := fun ρ μ Q Q' E E' h he q => m ρ μ _ _ E E' (fun ds mm z => mg ds mm Q Q' h z) he q
theorem rdCB {g : GC} {r : List V → Hp → VK → Prop} (mg : MonC g) (m : MonA fl) (k : ∀ ι H μ vs ds Q, Rep X.K ι μ H → Ats X.K ι H vs ds → g ds μ (QV X.K ι H Q) → r vs H Q) {H : Hp} {Q : VK} (h : rdE X.K W (fCB g fl) σ H Q) : tCB r (rdA X.K W fl) σ H Q := by
  obtain ⟨ι, ρ, μ, rp, l, q⟩ := h
  exact chainA m rp l q fun ds μ1 ι1 H1 vs z g1 r1 l1 a1 => k ι1 H1 μ1 vs ds Q r1 a1 (mg _ _ _ _ (fun d m z => QV.gr g1 z) z)
theorem de_callB {id : String} {g : GC} (c : CaD X (.builtin id) g) (hg : Gl X x) (hm : X.mg x = none) (hv : bootBuiltins x = some (.builtin id)) (ha : DA X W (e :: es) fl) (hn : x ≠ "__name__" := by decide) (hdb : (x == ("__debug__" : Str)) = false := by decide)
    (he : starEach (e :: es) X.env = (false, eval e X.env) :: starEach es X.env := by rfl) (hpl : (backTo pos (starEach es X.env)).any (·.1) = false := by rfl) : DE X W (.Call (.Name x p) (e :: es) [] pos) (fCB g fl) := by
  obtain ⟨r, cr, k⟩ := c.run
  exact ⟨mCB c.mono ha.mono, PE.imp (pe_callB cr hg hm hv ha.run hn hdb he hpl) fun σ H Q h => rdCB c.mono ha.mono k h⟩
theorem de_callTy {T : String} {g : GC} (c : CaD X (.type T) g) (hg : Gl X x) (hm : X.mg x = none) (hv : bootBuiltins x = some (.type T)) (ha : DA X W (e :: es) fl) (hn : x ≠ "__name__" := by decide) (hdb : (x == ("__debug__" : Str)) = false := by decide)
    (he : starEach (e :: es) X.env = (false, eval e X.env) :: starEach es X.env := by rfl) (hpl : (backTo pos (starEach es X.env)).any (·.1) = false := by rfl) : DE X W (.Call (.Name x p) (e :: es) [] pos) (fCB g fl) := by
  obtain ⟨r, cr, k⟩ := c.run
  exact ⟨mCB c.mono ha.mono, PE.imp (pe_callTy cr hg hm hv ha.run hn hdb he hpl) fun σ H Q h => rdCB c.mono ha.mono k h⟩
theorem CaD.or {f : Value} {g g' : GC} (h : CaD X f g) (h' : CaD X f g') : CaD X f (fun xs μ Q => g xs μ Q ∨ g' xs μ Q) := by
  obtain ⟨r, o, k⟩ := h.run
  obtain ⟨r', o', k'⟩ := h'.run
  refine ⟨fun xs μ Q Q' m q => q.imp (h.mono xs μ Q Q' m) (h'.mono xs μ Q Q' m), fun xs H Q => r xs H Q ∨ r' xs H Q, fun pins s σ H xs us Q I rx q => ?_, fun ι H μ vs ds Q r a q => q.imp (k ι H μ vs ds Q r a) (k' ι H μ vs ds Q r a)⟩
  exact q.elim (o pins s σ H xs us Q I rx) (o' pins s σ H xs us Q I rx)
theorem Ats.one {K : PySem.W.Frag} {ι : Io} {H : Hp} {vs : List V} {d : D} (r : Ats K ι H vs [d]) : ∃ v, vs = [v] ∧ At K ι H v d := by
  obtain ⟨v, vs', rfl, a, r'⟩ := r.uncons
  cases Ats.unnil r'
  exact ⟨v, rfl, a⟩
theorem cad_len : CaD X (.builtin "len") (fun xs μ Q => (∃ s, xs = [.str s] ∧ s.length ≤ sizeLine ∧ Q (.int s.length) μ) ∨ (∃ d ds, xs = [d] ∧ asS μ d = some ds ∧ Q (.int ds.length) μ)) :=
  ⟨fun xs μ Q Q' h q => q.imp (fun ⟨s, e, e2, q⟩ => ⟨s, e, e2, h _ _ q⟩) (fun ⟨d, ds, e, e2, q⟩ => ⟨d, ds, e, e2, h _ _ q⟩), _, call_len, fun ι H μ vs ds Q r a q => by
    rcases q with ⟨s, rfl, e2, q⟩ | ⟨d, xs, rfl, e2, q⟩
    · obtain ⟨v, rfl, a1⟩ := a.one
      cases a1
      exact ⟨_, s.length, rfl, show s.length ≤ sizeLine ∧ s.length = s.length from ⟨e2, rfl⟩, q ι H _ (Gr.refl _ _) r (.int _)⟩
    · obtain ⟨v, rfl, a1⟩ := a.one
      obtain ⟨p, vs, rfl, h1, h2⟩ := asS_at r a1 e2
      refine ⟨_, xs.length, rfl, ?_, q ι H _ (Gr.refl _ _) r (.int _)⟩
      rcases h1 with h1 | h1
      · exact .inl ⟨vs, h1, h2.1.symm⟩
      · exact .inr ⟨vs, h1, h2.1.symm⟩⟩
theorem Pts.keys {K : PySem.W.Frag} {ι : Io} {H : Hp} {kv : List (Key × V)} {kd : List (Key × D)} (p : Pts K ι H kv kd) : Ats K ι H (kv.map fun q => kV q.1) (kd.map fun q => kOf q.1) := by
  refine ⟨by simp [p.length], fun i v d h1 h2 => ?_⟩
  rw [List.getElem?_map, Option.map_eq_some_iff] at h1 h2
  obtain ⟨x, hx, rfl⟩ := h1
  obtain ⟨y, hy, rfl⟩ := h2
  have z := congrArg (fun l => l[i]?) p.1
  simp only [List.getElem?_map, hx, hy, Option.map_some] at z
  rw [Option.some.inj z]
  exact kOf_at
end
end Dl

namespace Dl
open PySem PySem.Spec L2
open PyProof.Rows hiding St Binds

def NE : ED := fun _ _ _ _ => False
section
variable {K : PySem.W.Frag} {ι : Io} {H : Hp} {vs : List V} {ds : List D}
theorem NE.ew {W : WX} {σ : L2.St} {c : Value} {l : List (Str × D)} {ρ : Rho} {m : Sto} (h : NE c l ρ m) : EW K ι H W σ c l ρ m := h.elim
theorem Ats.set {v : V} {d : D} (r : Ats K ι H vs ds) (a : At K ι H v d) (j : Nat) : Ats K ι H (vs.set j v) (ds.set j d) := by
  refine ⟨by simp [r.1], fun i x y h1 h2 => ?_⟩
  by_cases hj : j = i
  · subst hj
    have l1 : j < vs.length := by have := (List.getElem?_eq_some_iff.mp h1).1; simpa using this
    rw [List.getElem?_set_self l1] at h1
    rw [List.getElem?_set_self (by rw [← r.1]; exact l1)] at h2
    cases h1; cases h2; exact a
  · rw [List.getElem?_set_ne hj] at h1 h2
    exact r.2 i x y h1 h2
theorem Ats.erase (r : Ats K ι H vs ds) (j : Nat) : Ats K ι H (vs.eraseIdx j) (ds.eraseIdx j) := by
  refine ⟨by simp [List.length_eraseIdx, r.1], fun i x y h1 h2 => ?_⟩
  rw [List.getElem?_eraseIdx] at h1 h2
  split at h1
  · rename_i hh
    rw [if_pos hh] at h2
    exact r.2 i x y h1 h2
  · rename_i hh
    rw [if_neg hh] at h2
    exact r.2 _ x y h1 h2
theorem Ats.drop (r : Ats K ι H vs ds) (n : Nat) : Ats K ι H (vs.drop n) (ds.drop n) := by
  refine ⟨by simp [r.1], fun i x y h1 h2 => ?_⟩
  rw [List.getElem?_drop] at h1 h2
  exact r.2 _ x y h1 h2
theorem Ats.take (r : Ats K ι H vs ds) (n : Nat) : Ats K ι H (vs.take n) (ds.take n) := by
  refine ⟨by simp [r.1], fun i x y h1 h2 => ?_⟩
  rw [List.getElem?_take] at h1 h2
  split at h1
  · rename_i hh
    rw [if_pos hh] at h2
    exact r.2 i x y h1 h2
  · cases h1
theorem Ats.last (r : Ats K ι H vs ds) : Ats K ι H vs.dropLast ds.dropLast := by
  rw [List.dropLast_eq_take, List.dropLast_eq_take, r.1]
  exact r.take _
end

section
variable {X : Cx} {W : WX} {a b c e o i : Expr} {es : List Expr} {fa fb fc f fo fi fv : FE} {ft : FT} {fl : FA} {pos p apos cpos pos' : Pos} {σ : L2.St} {x : Str}

/-! ### o[i] = v, o a cell with a list -/
def tgIxL (fo fi : FE) : FG := fun v ρ μ N => fo ρ μ (fun x m1 => fi ρ m1 (fun y m2 => ∃ n ds k j, x = .cell n ∧ m2[n]? = some (.lst ds) ∧ y = .int k ∧ ixN ds.length k = some j ∧ N ρ (m2.set n (.lst (ds.set j v)))) NE) NE
theorem mIxL (mo : MonE fo) (mi : MonE fi) : MonTg (tgIxL fo fi) := fun v ρ μ N N' h q => mo ρ μ _ _ _ _ (fun x m1 z => mi ρ m1 _ _ _ _ (fun y m2 ⟨n, ds, k, j, e1, e2, e3, e4, z⟩ => ⟨n, ds, k, j, e1, e2, e3, e4, h _ _ z⟩) (fun _ _ _ z => z) z) (fun _ _ _ z => z) q
theorem dg_ixL (ho : DE X W o fo) (hi : DE X W i fi)
    (ha : ∀ v, assign (.Subscript o i pos) X.env v = (do
      let ov ← holding [v] (eval o X.env)
      let iv ← holding [v, ov] (eval i X.env)
      standAt pos
      holding [v, ov, iv] (setItem ov iv v)
      release [v, ov, iv] []) := by intro _; rfl) : DG X (.Subscript o i pos) (tgIxL fo fi) := by
  refine ⟨mIxL ho.mono hi.mono, _, pg_sub ho.run hi.run set_list ha, fun ι H σ ρ μ v d N r l a q => ?_⟩
  refine chain1 ho.mono r l (ho.mono ρ μ _ _ _ _ (fun _ _ z => z) (fun _ _ _ z => NE.ew z) q) fun x μ1 ι1 H1 u q1 g1 r1 l1 a1 => ?_
  refine chain1 hi.mono r1 l1 (hi.mono ρ μ1 _ _ _ _ (fun _ _ z => z) (fun _ _ _ z => NE.ew z) q1) fun y μ2 ι2 H2 w q2 g2 r2 l2 a2 => ?_
  obtain ⟨n, ds, k, j, rfl, e2, rfl, e4, z⟩ := q2
  have a1' := a1.gr g2
  cases a2
  cases a1 with
  | @cell p _ hn0 =>
    have hn := g2.pre _ _ hn0
    obtain ⟨vs, h1, h2⟩ := r2.at_ n p _ hn e2
    have gc := Gr.chg (H := H2) (o := .lst (vs.set j v)) (List.mem_of_getElem? hn)
    exact ⟨p, vs, k, j, rfl, rfl, h1, by rw [h2.1]; exact e4, z ι2 _ σ ((g1.trans g2).trans gc) (r2.chg hn ⟨_, upd_same, ((h2.gr gc).set (((a.gr g1).gr g2).gr gc) j)⟩) (l2.gr gc)⟩

/-! ### methods of lists -/
abbrev GM := D → List D → Sto → QD → Prop
def MonM (g : GM) : Prop := ∀ x ds μ (Q Q' : QD), (∀ d m, Q d m → Q' d m) → g x ds μ Q → g x ds μ Q'
structure MtD (X : Cx) (id : String) (g : GM) : Prop where
  mono : MonM g
  run : ∃ r, MtR X id r ∧ ∀ ι H μ x vs dx ds Q, Rep X.K ι μ H → At X.K ι H x dx → Ats X.K ι H vs ds → g dx ds μ (QV X.K ι H Q) → r x vs H Q
def fBL (g : GM) (fo : FE) (fl : FA) : FE := fun ρ μ Q E => fo ρ μ (fun x m1 => (∃ ds, asL m1 x = some ds) ∧ fl ρ m1 (fun ds m2 => g x ds m2 Q) E) E
theorem mBL {g : GM} (mg : MonM g) (mo : MonE fo) (ml : MonA fl) : MonE (fBL g fo fl) := fun ρ μ Q Q' E E' h he q =>
  mo ρ μ _ _ E E' (fun x m1 ⟨e, z⟩ => ⟨e, ml ρ m1 _ _ E E' (fun ds m2 z => mg x ds m2 _ _ h z) he z⟩) he q
theorem de_bmL {g : GM} {id : String} {name : Str} (pa : PlainAttrs "list") (slot : Slot "list" name id) (hty : typeOf (.builtin id) = pure (.type "method_descriptor")) (hm : MtD X id g) (ho : DE X W o fo) (ha : DA X W (e :: es) fl)
    (hbase : attributeBase o name X.env (eval o X.env) = eval o X.env := by rfl)
    (hfew : ((backTo cpos (starEach (e :: es) X.env)).all (fun x => !x.1) && (backToKw cpos (keywordEach [] X.env)).all (fun x => x.1.isSome)
      && decide ((e :: es).length + ([] : List Keyword).length + (if ([] : List Keyword).isEmpty then 0 else 1) < 30)) = true := by rfl)
    (hline : (apos.endLine == cpos.line) = true := by rfl) (hs : starEach (e :: es) X.env = (false, eval e X.env) :: starEach es X.env := by rfl) (hplain : (backTo cpos (starEach es X.env)).any (·.1) = false := by rfl) :
    DE X W (.Call (.Attribute o name apos) (e :: es) [] cpos) (fBL g fo fl) := by
  obtain ⟨r, hr, k⟩ := hm.run
  refine ⟨mBL hm.mono ho.mono ha.mono, PE.imp (pe_bm pa slot hty hr ho.run ha.run hbase hfew hline hs hplain) fun σ H Q ⟨ι, ρ, μ, rp, l, q⟩ => chain1 ho.mono rp l q fun x μ1 ι1 H1 v q1 g1 r1 l1 a1 => ?_⟩
  obtain ⟨⟨ds0, e0⟩, z⟩ := q1
  obtain ⟨p, vs0, rfl, h1, h2⟩ := asL_at r1 a1 e0
  refine ⟨.inl ⟨rfl, vs0, SqL.of h1⟩, ?_⟩
  refine chainA ha.mono r1 l1 (ha.mono ρ μ1 _ _ _ _ (fun _ _ z => z) (fun _ _ _ z => EW.gr g1 z) z) fun ds μ2 ι2 H2 vs q2 g2 r2 l2 a2 => ?_
  exact k ι2 H2 μ2 _ vs x ds Q r2 (a1.gr g2) a2 (hm.mono _ _ _ _ _ (fun d m z => QV.gr (g1.trans g2) z) q2)
def gApp : GM := fun x ds μ Q => ∃ n xs y, x = .cell n ∧ ds = [y] ∧ μ[n]? = some (.lst xs) ∧ xs.length < sizeLine ∧ Q .non (μ.set n (.lst (xs ++ [y])))
theorem cell_at {K : PySem.W.Frag} {ι : Io} {H : Hp} {v : V} {n : Nat} (a : At K ι H v (.cell n)) : ∃ p, v = .ref p ∧ ι[n]? = some p := by cases a with | cell h => exact ⟨_, rfl, h⟩
theorem mtd_append : MtD X "list.append" gApp := by
  refine ⟨fun x ds μ Q Q' h ⟨n, xs, y, e1, e2, e3, e4, q⟩ => ⟨n, xs, y, e1, e2, e3, e4, h _ _ q⟩, rAppend, mt_append, fun ι H μ x vs dx ds Q r a as ⟨n, xs, y, e1, e2, e3, e4, q⟩ => ?_⟩
  subst e1; subst e2
  obtain ⟨u, rfl, au⟩ := as.one
  obtain ⟨p, rfl, hn⟩ := cell_at a
  obtain ⟨ws, h1, h2⟩ := r.at_ n p _ hn e3
  have gc := Gr.chg (H := H) (o := .lst (ws ++ [u])) (List.mem_of_getElem? hn)
  exact ⟨p, ws, u, rfl, rfl, h1, by rw [h2.1]; exact e4, q ι _ _ gc (r.chg hn ⟨_, upd_same, (h2.gr gc).app (Ats.cons (au.gr gc) Ats.nil)⟩) .non⟩
def gPopAt : GM := fun x ds μ Q => ∃ n xs i k y, x = .cell n ∧ ds = [.int i] ∧ μ[n]? = some (.lst xs) ∧ -(2 ^ 63) ≤ i ∧ i < 2 ^ 63 ∧ seqIndex? i xs.length = some k ∧ xs[k]? = some y ∧ Q y (μ.set n (.lst (xs.eraseIdx k)))
theorem mtd_popAt : MtD X "list.pop" gPopAt := by
  refine ⟨fun x ds μ Q Q' h ⟨n, xs, i, k, y, e1, e2, e3, e4, e5, e6, e7, q⟩ => ⟨n, xs, i, k, y, e1, e2, e3, e4, e5, e6, e7, h _ _ q⟩, rPopAt, mt_popAt, fun ι H μ x vs dx ds Q r a as ⟨n, xs, i, k, y, e1, e2, e3, e4, e5, e6, e7, q⟩ => ?_⟩
  subst e1; subst e2
  obtain ⟨u, rfl, au⟩ := as.one
  cases au
  obtain ⟨p, rfl, hn⟩ := cell_at a
  obtain ⟨ws, h1, h2⟩ := r.at_ n p _ hn e3
  obtain ⟨w, hw, aw⟩ := h2.get e7
  have gc := Gr.chg (H := H) (o := .lst (ws.eraseIdx k)) (List.mem_of_getElem? hn)
  exact ⟨p, ws, i, k, w, rfl, rfl, h1, e4, e5, by rw [h2.1]; exact e6, hw, q ι _ _ gc (r.chg hn ⟨_, upd_same, (h2.gr gc).erase k⟩) (aw.gr gc)⟩

/-! ### slices -/
abbrev FO := Rho → Sto → (Option Int → Sto → Prop) → ED → Prop
theorem PO.imp {X : Cx} {e : Option Expr} {t t' : TO} (h : PO X e t) (k : ∀ σ H Q, t' σ H Q → t σ H Q) : PO X e t' := ⟨fun pins s σ H Q I q => h.run pins s σ H Q I (k σ H Q q)⟩
def oNo : FO := fun _ μ Q _ => Q none μ
def oYes (f : FE) : FO := fun ρ μ Q E => f ρ μ (fun d m => ∃ i, d = .int i ∧ Q (some i) m) E
def cutD (ds : List D) (lo hi : Option Int) : List D := (ds.drop (HT.sIx ds.length 0 lo)).take (HT.sIx ds.length ds.length hi - HT.sIx ds.length 0 lo)
def fSlL (fo : FE) (flo fhi : FO) : FE := fun ρ μ Q E => fo ρ μ (fun x m1 => flo ρ m1 (fun lo m2 => fhi ρ m2 (fun hi m3 => ∃ ds, asL m3 x = some ds ∧ gNewL (cutD ds lo hi) m3 Q) E) E) E
/-! ### s.join(xs) -/
theorem strs_at {K : PySem.W.Frag} {ι : Io} {H : Hp} : ∀ {vs : List V} {ys : List Str}, Ats K ι H vs (ys.map D.str) → vs = ys.map V.str
  | vs, [], r => Ats.unnil r
  | vs, y :: ys, r => by
    obtain ⟨v, vs', rfl, a, r'⟩ := Ats.uncons (ds := ys.map D.str) (d := .str y) r
    cases a
    rw [strs_at r']
    rfl
def fJoin (fo fe : FE) : FE := fun ρ μ Q E => fo ρ μ (fun x m1 => ∃ a, x = .str a ∧ fe ρ m1 (fun d m2 => ∃ ys : List Str, asS m2 d = some (ys.map D.str) ∧ (ys.map (·.length)).sum + ys.length * a.length ≤ 16777216 ∧ Q (.str (Txt.join a ys)) m2) E) E
theorem de_join (ho : DE X W o fo) (he : DE X W e f) (hs : starEach [e] X.env = [(false, eval e X.env)] := by rfl) (hbase : attributeBase o "join" X.env (eval o X.env) = eval o X.env := by rfl) (hline : (apos.endLine == pos.line) = true := by rfl) :
    DE X W (.Call (.Attribute o "join" apos) [e] [] pos) (fJoin fo f) := by
  refine ⟨fun ρ μ Q Q' E E' h hE q => ho.mono ρ μ _ _ E E' (fun x m1 ⟨a, e1, z⟩ => ⟨a, e1, he.mono ρ m1 _ _ E E' (fun d m2 ⟨ys, e2, e3, z⟩ => ⟨ys, e2, e3, h _ _ z⟩) hE z⟩) hE q,
    PE.imp (pe_join ho.run he.run hs hbase hline) fun σ H Q ⟨ι, ρ, μ, r, l, q⟩ => chain1 ho.mono r l q fun x μ1 ι1 H1 v q1 g1 r1 l1 a1 => ?_⟩
  obtain ⟨a, rfl, z⟩ := q1
  cases a1
  refine ⟨⟨a, rfl⟩, chain1 he.mono r1 l1 (he.mono ρ μ1 _ _ _ _ (fun _ _ z => z) (fun _ _ _ z => EW.gr g1 z) z) fun d μ2 ι2 H2 u q2 g2 r2 l2 a2 => ?_⟩
  obtain ⟨ys, e2, e3, z⟩ := q2
  obtain ⟨p, vs, rfl, h1, h2⟩ := asS_at r2 a2 e2
  cases strs_at h2
  exact ⟨a, p, ys, rfl, rfl, h1, e3, z ι2 H2 _ (g1.trans g2) r2 (.str _)⟩

/-! ### range -/
theorem walks_rng {K : PySem.W.Frag} {ι : Io} {H : Hp} {lo : Int} {n : Nat} {st : Sto → Prop} : Walks K (Itr lo n) ι H ((List.range n).map fun (i : Nat) => D.int (lo + (i : Int))) st := by
  refine ⟨fun ι' H' μ' i x g r s hx => ?_, fun ι' H' μ' i g r s hx0 => have hx := Nat.le_of_eq hx0; (show n ≤ i by simpa using hx)⟩
  rw [List.getElem?_map, Option.map_eq_some_iff] at hx
  obtain ⟨j, hj, rfl⟩ := hx
  have hi : i < n := by have := (List.getElem?_eq_some_iff.mp hj).1; simpa using this
  have e : j = i := by rw [List.getElem?_range hi] at hj; exact (Option.some.inj hj).symm
  subst e
  refine ⟨hi, fun v H2 hy => ?_⟩
  obtain ⟨rfl, rfl⟩ := hy
  exact ⟨Gr.refl _ _, r, .int _⟩
def iRg1 (fl : FA) : FI := fun ρ μ Q E => fl ρ μ (fun ds m => ∃ j : Int, ds = [.int j] ∧ -(2 ^ 62) ≤ j ∧ j < 2 ^ 62 ∧ Q ((List.range j.toNat).map fun (i : Nat) => D.int (0 + (i : Int))) (fun _ => True) m) E
theorem ints_at1 {K : PySem.W.Frag} {ι : Io} {H : Hp} {vs : List V} {j : Int} (a : Ats K ι H vs [.int j]) : vs = [.int j] := by
  obtain ⟨v, rfl, a1⟩ := a.one
  cases a1
  rfl
theorem di_rng1 {tg : Expr} (hg : Gl X "range") (hm : X.mg "range" = none) (ha : DA X W [a] fl) (hs : starEach [a] X.env = [(false, eval a X.env)] := by rfl) : DI X W tg (.Call (.Name "range" p) [a] [] pos) (iRg1 fl) :=
  ⟨fun ρ μ Q Q' E E' h he q => ha.mono ρ μ _ _ E E' (fun ds m ⟨j, e1, e2, e3, z⟩ => ⟨j, e1, e2, e3, h _ _ _ z⟩) he q,
   PI.imp (pi_range1 hg hm ha.run hs) fun σ H R ⟨ι, ρ, μ, r, l, q⟩ => chainA ha.mono r l q fun ds μ1 ι1 H1 vs q1 g1 r1 l1 a1 => by
    obtain ⟨j, rfl, e2, e3, z⟩ := q1
    cases ints_at1 a1
    exact ⟨j, rfl, e2, e3, z ι1 H1 _ g1 r1 walks_rng⟩⟩
end
end Dl

namespace Dl
open PySem PySem.Spec L2
open PyProof.Rows hiding St Binds

def NW : WX := fun _ _ _ _ => False
def wipeD (ρ : Rho) : List Nat → Rho
  | [] => ρ
  | v :: vs => (wipeD ρ vs).set v none
section
variable {K : PySem.W.Frag} {ι : Io} {H : Hp} {σ σ' : L2.St} {ρ : Rho}
theorem Loc.unset (h : Loc K ι H σ ρ) (i : Nat) : Loc K ι H (σ.set i none) (ρ.set i none) := by
  refine ⟨by simp [h.1], fun j e q => ?_⟩
  by_cases hj : i = j
  · subst hj
    have hl : i < ρ.length := by
      have := (List.getElem?_eq_some_iff.mp q).1
      simpa using this
    rw [List.getElem?_set_self hl] at q
    cases q
  · rw [List.getElem?_set_ne hj] at q
    obtain ⟨w, e1, a1⟩ := h.2 j e q
    exact ⟨w, by rw [List.getElem?_set_ne hj]; exact e1, a1⟩
theorem Loc.wipe (h : Loc K ι H σ ρ) : ∀ vs : List Nat, Loc K ι H (wipe σ vs) (wipeD ρ vs)
  | [] => h
  | v :: vs => (h.wipe vs).unset v
def Out (js : List Nat) (σ σ' : L2.St) : Prop := σ'.length = σ.length ∧ ∀ i, i ∉ js → σ'[i]? = σ[i]?
theorem Out.refl {js : List Nat} : Out js σ σ := ⟨rfl, fun _ _ => rfl⟩
theorem Out.trans {js : List Nat} {σ1 σ2 σ3 : L2.St} (a : Out js σ1 σ2) (b : Out js σ2 σ3) : Out js σ1 σ3 := ⟨b.1.trans a.1, fun i h => (b.2 i h).trans (a.2 i h)⟩
theorem Out.set {js : List Nat} {j : Nat} {v : Option V} (h : j ∈ js) : Out js σ (σ.set j v) :=
  ⟨by simp, fun i hi => List.getElem?_set_ne (show j ≠ i from fun e => hi (e ▸ h))⟩
theorem wipe_in : ∀ {vs : List Nat} {i : Nat}, i ∈ vs → i < σ.length → (L2.wipe σ vs)[i]? = some none
  | v :: vs, i, h, hl => by
    unfold L2.wipe
    by_cases e : v = i
    · subst e; exact List.getElem?_set_self (by rw [wipe_length]; exact hl)
    · rw [List.getElem?_set_ne e]
      exact wipe_in (by rcases List.mem_cons.mp h with z | z; exact absurd z.symm e; exact z) hl
theorem wipe_out : ∀ {vs : List Nat} {i : Nat}, i ∉ vs → (L2.wipe σ vs)[i]? = σ[i]?
  | [], _, _ => rfl
  | v :: vs, i, h => by
    unfold L2.wipe
    rw [List.getElem?_set_ne (show v ≠ i from fun e => h (e ▸ List.mem_cons_self))]
    exact wipe_out fun z => h (List.mem_cons_of_mem _ z)
theorem Out.wipe {vs : List Nat} (o : Out vs (L2.wipe σ vs) σ') : L2.wipe σ' vs = L2.wipe σ vs := by
  have hl : σ'.length = σ.length := by rw [o.1, wipe_length]
  refine List.ext_getElem? fun i => ?_
  by_cases h : i ∈ vs
  · by_cases hi : i < σ.length
    · rw [wipe_in h hi, wipe_in h (by rw [hl]; exact hi)]
    · rw [List.getElem?_eq_none (by rw [wipe_length, hl]; omega), List.getElem?_eq_none (by rw [wipe_length]; omega)]
  · rw [wipe_out h, o.2 i h]
end

/-- a target whose slots are among js -/
def SV1 (K : PySem.W.Frag) (ι : Io) (H : Hp) (js : List Nat) (σ : L2.St) (N : L2.St → Hp → Prop) : Rho → Sto → Prop := fun ρ μ => ∀ ι' H' σ', Gr ι H ι' H' → Rep K ι' μ H' → Loc K ι' H' σ' ρ → Out js σ σ' → N σ' H'
def rdG (K : PySem.W.Frag) (js : List Nat) (g : FG) : TG := fun v σ H N => ∃ ι ρ μ d, Rep K ι μ H ∧ Loc K ι H σ ρ ∧ At K ι H v d ∧ g d ρ μ (SV1 K ι H js σ N)
def rdGs (K : PySem.W.Frag) (js : List Nat) (g : FGs) : TGs := fun vs σ H N => ∃ ι ρ μ ds, Rep K ι μ H ∧ Loc K ι H σ ρ ∧ Ats K ι H vs ds ∧ g ds ρ μ (SV1 K ι H js σ N)
structure DGw (X : Cx) (tg : Expr) (js : List Nat) (g : FG) : Prop where
  mono : MonTg g
  run : PG X tg (rdG X.K js g)
structure DGsw (X : Cx) (tgs : List Expr) (js : List Nat) (g : FGs) : Prop where
  mono : MonTgs g
  run : PGs X tgs (rdGs X.K js g)
theorem PG.imp {X : Cx} {tg : Expr} {t t' : TG} (h : PG X tg t) (k : ∀ v σ H N, t' v σ H N → t v σ H N) : PG X tg t' := ⟨fun pins s σ H v u Q I r q => h.run pins s σ H v u Q I r (k v σ H Q q)⟩
theorem PGs.imp {X : Cx} {tg : List Expr} {t t' : TGs} (h : PGs X tg t) (k : ∀ v σ H N, t' v σ H N → t v σ H N) : PGs X tg t' := ⟨fun pins s σ H v u Q I r q => h.run pins s σ H v u Q I r (k v σ H Q q)⟩
section
variable {X : Cx} {js : List Nat} {pos : Pos}
theorem dgw_name {i : Nat} {x : Str} (hN : X.N.Nodup) (hi : X.N[i]? = some x) (hx : L2.Loc X.env.scope x) (hj : i ∈ js)
    (hf : X.fn x = true ∨ X.env.scope.names.lookup x = some .local := by first | exact .inl rfl | exact .inr rfl | assumption) : DGw X (.Name x pos) js (tgName i) :=
  ⟨fun d ρ μ N N' h q => h _ _ q, PG.imp (pg_name hN hi hx hf) fun v σ H N ⟨ι, ρ, μ, d, r, l, a, q⟩ => q ι H _ (Gr.refl _ _) r (l.set a i) (Out.set hj)⟩
theorem dgsw_nil : DGsw X [] js tgNil := ⟨fun ds ρ μ N N' h ⟨e, q⟩ => ⟨e, h _ _ q⟩, PGs.imp pgs_nil fun vs σ H N ⟨ι, ρ, μ, ds, r, l, a, e, q⟩ => by
  subst e
  exact ⟨Ats.unnil a, q ι H _ (Gr.refl _ _) r l Out.refl⟩⟩
theorem dgsw_cons {t : Expr} {ts : List Expr} {g : FG} {h : FGs} (h1 : DGw X t js g) (h2 : DGsw X ts js h)
    (hs : (assignEach (t :: ts) X.env).map (·.2) = assign t X.env :: (assignEach ts X.env).map (·.2) := by rfl) : DGsw X (t :: ts) js (tgCons g h) := by
  refine ⟨fun ds ρ μ N N' hh ⟨d, r, e, q⟩ => ⟨d, r, e, h1.mono _ _ _ _ _ (fun ρ' μ' z => h2.mono _ _ _ _ _ hh z) q⟩, PGs.imp (pgs_cons h1.run h2.run hs) fun vs σ H N ⟨ι, ρ, μ, ds, r, l, a, d, rr, e, q⟩ => ?_⟩
  subst e
  obtain ⟨v, vs', rfl, a1, a2⟩ := a.uncons
  refine ⟨v, vs', rfl, ι, ρ, μ, d, r, l, a1, h1.mono _ _ _ _ _ (fun ρ' μ' z => ?_) q⟩
  intro ι1 H1 σ1 g1 r1 l1 o1
  exact ⟨ι1, ρ', μ', rr, r1, l1, a2.gr g1, h2.mono _ _ _ _ _ (fun ρ2 μ2 z => fun ι2 H2 σ2 g2 r2 l2 o2 => z ι2 H2 σ2 (g1.trans g2) r2 l2 (o1.trans o2)) z⟩
theorem dgw_tup {ts : List Expr} {k n : Nat} {h : FGs} (hc : X.calm = true) (hh : DGsw X ts js h)
    (hn : (assignEach ts X.env).length = n := by rfl) (hst : (assignEach ts X.env).findIdx? (·.1) = none := by rfl) : DGw X (.Tuple ts k pos) js (tgTup n h) := by
  refine ⟨fun d ρ μ N N' m ⟨ds, e, c, q⟩ => ⟨ds, e, c, hh.mono _ _ _ _ _ m q⟩, PG.imp (pg_tup hc hh.run hn hst) fun v σ H N ⟨ι, ρ, μ, d, r, l, a, ds, e, c, q⟩ => ?_⟩
  subst e
  obtain ⟨b, vs, rfl, h1, h2⟩ := tup_at a
  exact ⟨b, vs, rfl, h1, by rw [h2.1]; exact c, ι, ρ, μ, ds, r, l, h2, q⟩
/-- a clause's tests -/
structure DTs (X : Cx) (ifs : List Expr) (f : FT) : Prop where
  mono : MonT f
  run : PTs X ifs (rdT X.K NW f)
def tTrue : FT := fun _ μ Q _ => Q true μ
theorem dts_nil : DTs X [] tTrue := ⟨fun ρ μ Q Q' E E' h _ q => h _ _ q, ⟨fun pins s σ H Q I ⟨ι, ρ, μ, r, l, q⟩ => pts_nil.run pins s σ H Q I (q ι H (Gr.refl _ _) r)⟩⟩
theorem dts_one {c : Expr} {f : FT} (h : DT X NW c f) : DTs X [c] f := ⟨h.mono, pts_one h.run⟩
end

/-! ### [elt for tg in iter if ..] -/
def fLc (fi : FI) (g : FG) (ft : FT) (fe : FE) (vs : List Nat) : FE := fun ρ μ Q E => fi ρ μ (fun xs st m => ∃ I : Nat → Sto → Prop, I 0 (m ++ [.lst []]) ∧ (∀ i μ', I i μ' → st μ') ∧
  (∀ i x μ', xs[i]? = some x → I i μ' → g x (wipeD ρ vs) μ' (fun ρ2 μ2 => ft ρ2 μ2 (fun b m3 =>
    if b = true then fe ρ2 m3 (fun y m4 => ∃ acc, m4[m.length]? = some (.lst acc) ∧ acc.length < sizeLine ∧ I (i + 1) (m4.set m.length (.lst (acc ++ [y])))) NE else I (i + 1) m3) NE)) ∧
  ∀ μ', I xs.length μ' → ∃ d2 μ2, Fz m.length (.cell m.length) μ' d2 μ2 ∧ Q d2 μ2) E
section
variable {X : Cx} {W : WX} {elt tg iter : Expr} {ifs : List Expr} {scope : Scope} {own : List (Str × Nat)} {pos spos py : Pos} {fi : FI} {g : FG} {ft : FT} {fe : FE} {σ : L2.St} {H : Hp} {Q : VK} {vs : List Nat}
theorem mLc (mi : MonI fi) : MonE (fLc fi g ft fe vs) := fun ρ μ Q Q' E E' h he q => mi ρ μ _ _ E E' (fun xs st m ⟨I, h0, h1, h2, h3⟩ => ⟨I, h0, h1, h2, fun μ' z => let ⟨d2, μ2, e, q⟩ := h3 μ' z; ⟨d2, μ2, e, h _ _ q⟩⟩) he q
theorem rdLc {K : PySem.W.Frag} (mi : MonI fi) (mg : MonTg g) (mt : MonT ft) (me : MonE fe) (h : rdE K W (fLc fi g ft fe vs) σ H Q) :
    tLc (rdI K W fi) (rdG K vs g) (rdT K NW ft) (rdE K NW fe) vs σ H Q := by
  obtain ⟨ι, ρ, μ, r, l, q⟩ := h
  refine ⟨ι, ρ, μ, r, l, mi ρ μ _ _ _ _ (fun xs st m z => ?_) (fun _ _ _ z => z) q⟩
  intro ι1 H1 J g1 r1 wk D hD
  obtain ⟨I, h0, hst, ht, hd⟩ := z
  have gN := Gr.cellNew (o := .lst []) hD (r1.free hD)
  have rN := r1.cellNew (o := .lst []) (c := .lst []) hD ⟨[], upd_same, Ats.nil⟩
  have lN := (l.gr g1).gr gN
  have dN : (ι1 ++ [D])[m.length]? = some D := by rw [List.getElem?_append_right (by rw [r1.len]; exact Nat.le_refl _), r1.len, Nat.sub_self]; rfl
  refine ⟨fun i n H' => n = xs.length - i ∧ i ≤ xs.length ∧ ∃ ι' μ', Gr (ι1 ++ [D]) (upd H1 D (.lst [])) ι' H' ∧ Rep K ι' μ' H' ∧ I i μ', ⟨xs.length, by simp, Nat.zero_le _, _, _, Gr.refl _ _, rN, h0⟩, ?_⟩
  rintro i n H' ⟨rfl, hle, ι', μ', g', r', hI⟩
  by_cases hlt : i < xs.length
  · have hx : xs[i]? = some xs[i] := List.getElem?_eq_getElem hlt
    obtain ⟨w1, w2⟩ := wk.go ι' H' μ' i _ (gN.trans g') r' (hst i μ' hI) hx
    refine .inr ⟨w1, fun H2 => ∃ ι2 μ2, Gr (ι1 ++ [D]) (upd H1 D (.lst [])) ι2 H2 ∧ Rep K ι2 μ2 H2 ∧ I (i + 1) μ2, fun H2 z => ⟨xs.length - (i + 1), by omega, rfl, hlt, z⟩, fun v H2 hy => ?_⟩
    obtain ⟨gy, ry, ay⟩ := w2 v H2 hy
    refine ⟨ι', wipeD ρ vs, μ', _, ry, ((lN.gr g').gr gy).wipe vs, ay, mg _ _ _ _ _ (fun ρ2 μ2 z => ?_) (ht i _ μ' hx hI)⟩
    intro ι3 H3 σ3 g3 r3 l3 o3
    refine ⟨o3.wipe, ?_⟩
    refine chainT mt r3 l3 (mt ρ2 μ2 _ _ _ _ (fun _ _ z => z) (fun _ _ _ z => NE.ew z) z) fun b μ4 ι4 H4 z g4 r4 l4 => ?_
    have gg := ((g'.trans gy).trans g3).trans g4
    cases b with
    | false => exact ⟨ι4, μ4, gg, r4, z⟩
    | true =>
      refine chain1 me r4 l4 (me ρ2 μ4 _ _ _ _ (fun _ _ z => z) (fun _ _ _ z => NE.ew z) z) fun y μ5 ι5 H5 u z g5 r5 l5 a5 => ?_
      obtain ⟨acc, e1, e2, z⟩ := z
      have d5 := (gg.trans g5).pre _ _ dN
      obtain ⟨ws, h1, h2⟩ := r5.at_ _ D _ d5 e1
      have gc := Gr.chg (H := H5) (o := .lst (ws ++ [u])) (List.mem_of_getElem? d5)
      exact ⟨ws, h1, by rw [h2.1]; exact e2, ι5, _, (gg.trans g5).trans gc, r5.chg (c := .lst (acc ++ [y])) d5 ⟨_, upd_same, (h2.gr gc).app (Ats.cons (a5.gr gc) Ats.nil)⟩, z⟩
  · have e : i = xs.length := by omega
    subst e
    obtain ⟨d2, μ2, fz, q⟩ := hd μ' hI
    obtain ⟨ι2, s1, s2, s3⟩ := fz.sound (ι0 := ι1) (H0 := H1) r1.len r' (.cell (g'.pre _ _ dN)) (gN.trans g')
    exact .inl ⟨wk.stop ι' H' μ' _ (gN.trans g') r' (hst _ μ' hI) rfl, q ι2 H' _ (g1.trans s3) s1 s2⟩
theorem de_lc (hc : X.calm = true) (hN : X.N.Nodup) (hi : DI X W tg iter fi) (ok : BlkOk X.N X.env.scope scope own)
    (hg : ∀ (s : Shared) (H : Hp) (C : Addr) (cl : List (Str × Addr)) (fp : List Addr), DGw (X.blk s H scope (compEnvC scope cl C X.env) fp) tg (own.map (·.2)) g)
    (ht : ∀ (s : Shared) (H : Hp) (C : Addr) (cl : List (Str × Addr)) (fp : List Addr), DTs (X.blk s H scope (compEnvC scope cl C X.env) fp) ifs ft)
    (he : ∀ (s : Shared) (H : Hp) (C : Addr) (cl : List (Str × Addr)) (fp : List Addr), DE (X.blk s H scope (compEnvC scope cl C X.env) fp) NW elt fe)
    (hs : ∀ x, foldedSetIterable iter X.env x = pure x := by intro _; rfl) : DE X W (.ListComp elt [⟨tg, iter, ifs, 0⟩] scope pos) (fLc fi g ft fe (own.map (·.2))) :=
  ⟨mLc hi.mono, PE.imp (pe_lc hc hN hi.run ok (fun s H C cl fp => (hg s H C cl fp).run) (fun s H C cl fp => (ht s H C cl fp).run) (fun s H C cl fp => (he s H C cl fp).run) hs)
    fun σ H Q h => rdLc hi.mono (hg X.s_0 X.H_0 0 [] []).mono (ht X.s_0 X.H_0 0 [] []).mono (he X.s_0 X.H_0 0 [] []).mono h⟩
end
end Dl

namespace Dl
open PySem PySem.Spec L2
open PyProof.Rows hiding St Binds

/-! ### a def's body -/
def startD (n : Nat) (ds : List D) : Rho := ds.map some ++ List.replicate (n - ds.length) none
theorem Loc.start {K : PySem.W.Frag} {ι : Io} {H : Hp} {N : List Str} {vs : List V} {ds : List D} (a : Ats K ι H vs ds) : Loc K ι H (L2.start N vs) (startD N.length ds) := by
  unfold L2.start startD
  refine ⟨by simp [a.1], fun i d h => ?_⟩
  by_cases hi : i < ds.length
  · rw [List.getElem?_append_left (by simpa using hi), List.getElem?_map, Option.map_eq_some_iff] at h
    obtain ⟨d', e, e2⟩ := h
    cases e2
    obtain ⟨v, hv, av⟩ := a.get e
    refine ⟨v, ?_, av⟩
    rw [List.getElem?_append_left (by rw [List.length_map, a.1]; exact hi), List.getElem?_map, hv]
    rfl
  · rw [List.getElem?_append_right (by simpa using hi)] at h
    have := List.mem_of_getElem? h
    rw [List.mem_replicate] at this
    cases this.2
/-- the wishes of a body's end, by those of the call -/
def endK (n : Nat) (Q : QD) (E : XD) : DK where
  nx := fun _ m => ∃ d2 μ2, Fz n .non m d2 μ2 ∧ Q d2 μ2
  rt := fun d m => ∃ d2 μ2, Fz n d m d2 μ2 ∧ Q d2 μ2
  ex := fun c l _ m => ∃ m2 mx, m = m2 ++ mx ∧ n ≤ m2.length ∧ bdF m2.length l = true ∧ bdS m2.length m2 = true ∧ E c l m2
section
variable {P : Program} {w : World} {K : PySem.W.Frag} {mg : Str → Option Value} {base : Heap} {x qual : Str} {st : Stmt} {f : Addr} {fd : FuncData} {N ps : List Str} {k : Nat} {F : FD} {fs : FS}
theorem fn_body (Fu : FunA K x qual st f fd) (S : FnScope N ps (defScope st)) (len : ∀ ds μ Q E, F ds μ Q E → ds.length = ps.length)
    (body : ∀ (cdv : Value) (A : Around) (outer : List Env) (s : Shared) (H : Hp) (E : XK), (A.deeper (envOfC qual (defScope st) s.heap.objs.size f cdv)).guards = some [] → Room k (A.deeper (envOfC qual (defScope st) s.heap.objs.size f cdv)) →
      DB (cxOf (L2.CX P w) P w K mg base N qual (defScope st) f cdv A outer s H E) (fun c d _ H' => E c d H') (defBody st) fs)
    (sem : ∀ ds μ Q E, F ds μ Q E → fs (endK μ.length Q E) (startD N.length ds) μ) : FnG P w K mg base (L2.CX P w) (k + 1) f fd ps (spD K F) := by
  refine gfunX Fu S (fun vs H Q E h => ?_) (fun cdv A outer s H vs Q E hG hr h => ?_)
  · obtain ⟨ι, μ, ds, r, a, q⟩ := h
    rw [a.1]; exact len _ _ _ _ q
  · obtain ⟨ι, μ, ds, r, a, q⟩ := h
    have B := body cdv A outer s H E hG hr
    refine ⟨_, B.run, ι, _, μ, r, Loc.start a, B.mono _ _ (endK μ.length (QV K ι H Q) (XV K ι H E)) _ ⟨fun ρ m z => ?_, fun d m z => ?_, fun c l ρ m z => ?_, fun ρ m z => (show False from z).elim, fun ρ m z => (show False from z).elim⟩ (sem _ _ _ _ q)⟩
    · intro ι' H' σ' g r' l'
      obtain ⟨d2, μ2, fz, q2⟩ := z
      obtain ⟨ι2, s1, s2, s3⟩ := fz.sound (ι0 := ι) (H0 := H) r.len r' .non g
      exact q2 ι2 H' .non s3 s1 s2
    · intro ι' H' v g r' a'
      obtain ⟨d2, μ2, fz, q2⟩ := z
      obtain ⟨ι2, s1, s2, s3⟩ := fz.sound (ι0 := ι) (H0 := H) r.len r' a' g
      exact q2 ι2 H' v s3 s1 s2
    · intro ι' H' dd fv σ' g r' hd p l'
      obtain ⟨m2, mx, rfl, ll, b1, b2, q2⟩ := z
      obtain ⟨ι1, ext, rfl, l1, _⟩ := split_io r'
      exact q2 ι1 H' dd fv (g.trunc (by rw [l1, r.len]; exact ll)) (r'.trunc l1 b2) hd ⟨p.1, fun i x y e1 e2 => (p.2 i x y e1 e2).trunc (by rw [l1]; exact bdF_get b1 e2)⟩
theorem cal_fun (Fu : Fun K x qual st f fd) (S : FnScope N ps (defScope st)) (hm : mg x = some (.ref f)) (hk : PySem.W.keepIn K (.ref f) = true) (hb : L2.Binds K fd ps []) (mono : MonF F) (len : ∀ ds μ Q E, F ds μ Q E → ds.length = ps.length)
    (body : ∀ (cdv : Value) (A : Around) (outer : List Env) (s : Shared) (H : Hp) (E : XK), (A.deeper (envOfC qual (defScope st) s.heap.objs.size f cdv)).guards = some [] → Room k (A.deeper (envOfC qual (defScope st) s.heap.objs.size f cdv)) →
      DB (cxOf (L2.CX P w) P w K mg base N qual (defScope st) f cdv A outer s H E) (fun c d _ H' => E c d H') (defBody st) fs)
    (sem : ∀ ds μ Q E, F ds μ Q E → fs (endK μ.length Q E) (startD N.length ds) μ) : Cal P w K mg base (k + 1) x F [] :=
  ⟨mono, f, fd, ps, [], [], fn_body (anyFun Fu) S len body sem, hm, hk, hb, .nil, fun _ _ => Ats.nil⟩
end

/-! ### repr -/
def okR (p : PyData) : Prop := p.showable = true ∧ p.hasDict = false ∧ p.shown.length ≤ sizeLine ∧ p.depth < 60
def gRepr : GC := fun xs μ Q => ∃ d p, xs = [d] ∧ pyS μ d = some p ∧ okR p ∧ Q (.str p.shown) μ
theorem cr_repr {X : Cx} (hG : X.A.guards = some []) (hu : X.A.units + 64 < cLine) : CallR X (.builtin "repr") (fun xs H Q => ∃ v p, xs = [v] ∧ Dp X.K H v p ∧ okR p ∧ Q (.str p.shown) H) := by
  intro pins s σ H xs us Q I rv h
  obtain ⟨v, p, rfl, hd, ⟨o1, o2, o3, o4⟩, q⟩ := h
  obtain ⟨u, rfl, ru⟩ := rv.one
  obtain ⟨as, rd⟩ := Dp.reads I p v u hd ru
  have fin : ∀ h' t tk, (∀ b o, s.heap.get? b = some o → h'.get? b = some o) → EP X pins σ Q (.str p.shown t) { s with heap := h', toks := tk } := fun h' t tk kp =>
    ⟨.str p.shown, H, I.kept (t' := tk) kp, ⟨t, rfl⟩, q⟩
  have tok : EP X pins σ Q (.str p.shown s.toks) { s with toks := s.toks + 1 } := fin s.heap s.toks (s.toks + 1) fun _ _ e => e
  cases hd with
  | non => cases ru; simp only [PyData.shown] at tok; exact PySem.P.repr_of_none tok
  | bl b => cases ru; simp only [PyData.shown] at tok; exact PySem.P.repr_of_bool tok
  | int i =>
    obtain ⟨t, rfl⟩ := ru
    simp only [PyData.shown] at tok
    exact PySem.P.repr_of_int (by simpa [PyData.showable] using o1) tok
  | str z =>
    obtain ⟨t, rfl⟩ := ru
    simp only [PyData.shown] at tok o3
    exact PySem.P.repr_of_str tok o3
  | lst h1 h2 => cases ru; exact repr_of_reads' rd o1 (PyData.noDict_hsm o2) hG (by omega) (fun _ _ e => e) fin o3
  | tup h1 h2 => cases ru; exact repr_of_reads' rd o1 (PyData.noDict_hsm o2) hG (by omega) (fun _ _ e => e) fin o3
/-! ### lists and tuples of lists that may still grow -/
def pyAllS (μ : Sto) : List D → Option (List PyData)
  | [] => some []
  | d :: ds => match pyS μ d, pyAllS μ ds with | some p, some ps => some (p :: ps) | _, _ => none
def pyT (μ : Sto) : D → Option PyData
  | .lst ds => (pyAllS μ ds).map .list
  | .tup ds => (pyAllS μ ds).map .tuple
  | d => pyS μ d
theorem pyAllS_cons {μ : Sto} {d : D} {ds : List D} {ps : List PyData} (h : pyAllS μ (d :: ds) = some ps) : ∃ p qs, pyS μ d = some p ∧ pyAllS μ ds = some qs ∧ ps = p :: qs := by
  unfold pyAllS at h
  split at h
  · rename_i e1 e2
    exact ⟨_, _, e1, e2, (Option.some.inj h).symm⟩
  · cases h
section
variable {K : PySem.W.Frag} {ι : Io} {H : Hp} {μ : Sto}
theorem dpAllS_of (r : Rep K ι μ H) : ∀ {ds : List D} {vs : List V} {ps : List PyData}, Ats K ι H vs ds → pyAllS μ ds = some ps → DpAll K H vs ps
  | [], vs, ps, a, h => by
    unfold pyAllS at h
    cases Option.some.inj h
    cases Ats.unnil a
    exact .nil
  | d :: ds, vs, ps, a, h => by
    obtain ⟨p, qs, e1, e2, rfl⟩ := pyAllS_cons h
    obtain ⟨v, vs', rfl, a1, a2⟩ := a.uncons
    exact .cons (dpS_of r a1 e1) (dpAllS_of r a2 e2)
theorem dpT_of {d : D} {v : V} {p : PyData} (r : Rep K ι μ H) (a : At K ι H v d) (h : pyT μ d = some p) : Dp K H v p := by
  cases d with
  | lst ds =>
    obtain ⟨ps, e, rfl⟩ := Option.map_eq_some_iff.mp h
    cases a with
    | lst h1 n l q => exact .lst (SqL.of h1) (dpAllS_of r ⟨l, q⟩ e)
  | tup ds =>
    obtain ⟨ps, e, rfl⟩ := Option.map_eq_some_iff.mp h
    cases a with
    | tup h1 n l q => exact .tup (.inl h1) (dpAllS_of r ⟨l, q⟩ e)
    | ktup h1 l q => exact .tup (h1 H) (dpAllS_of r ⟨l, q⟩ e)
  | _ => exact dpS_of r a h
end
def gReprT : GC := fun xs μ Q => ∃ d p, xs = [d] ∧ pyT μ d = some p ∧ okR p ∧ Q (.str p.shown) μ
theorem cad_reprT {X : Cx} (hG : X.A.guards = some []) (hu : X.A.units + 64 < cLine) : CaD X (.builtin "repr") gReprT := by
  refine ⟨fun xs μ Q Q' h ⟨d, p, e, e2, o, q⟩ => ⟨d, p, e, e2, o, h _ _ q⟩, _, cr_repr hG hu, fun ι H μ vs ds Q r a ⟨d, p, e, e2, o, q⟩ => ?_⟩
  subst e
  obtain ⟨v, rfl, a1⟩ := a.one
  exact ⟨v, p, rfl, dpT_of r a1 e2, o, q ι H _ (Gr.refl _ _) r (.str _)⟩
end Dl

namespace Dl
open PySem PySem.Spec L2
open PyProof.Rows hiding St Binds

theorem takesNW {X : Cx} : Takes X NW := fun u s' ⟨_, _, _, _, _, _, _, _, _, _, _, _, _, _, _, _, z⟩ => False.elim z
section
variable {X : Cx} {W : WX} {a b e : Expr} {f fa fb : FE} {fl : FA} {pos p : Pos}
/-- list(x) of the script: a new cell -/
def gListZ : GC := fun xs μ Q => ∃ ds, xs = [.fzl ds] ∧ ds.length ≤ sizeLine ∧ Q (.cell μ.length) (μ ++ [.lst ds])
theorem cad_listZ : CaD X (.type "list") gListZ :=
  ⟨fun xs μ Q Q' h ⟨ds, e, e2, q⟩ => ⟨ds, e, e2, h _ _ q⟩, _, call_list_of, fun ι H μ vs ds Q r a ⟨xs, e, e2, q⟩ => by
    subst e
    obtain ⟨v, rfl, a1⟩ := a.one
    cases a1 with
    | @fzl p ws _ h l rr => exact ⟨p, ws, rfl, .inl (h.elim (fun ⟨o, e, _⟩ => .inl (.inr ⟨o, e⟩)) fun k => k H), fun q' hq => newL_ok r ⟨l, rr⟩ ⟨e2, .inr q⟩ q' hq⟩⟩
/-- int(x) -/
def gInt : GC := fun xs μ Q => (∃ i, xs = [.int i] ∧ Q (.int i) μ) ∨ ∃ k, xs = [.bl k] ∧ Q (.int (if k then 1 else 0)) μ
theorem cad_int : CaD X (.type "int") gInt :=
  ⟨fun xs μ Q Q' h q => q.imp (fun ⟨i, e, q⟩ => ⟨i, e, h _ _ q⟩) (fun ⟨i, e, q⟩ => ⟨i, e, h _ _ q⟩), _, call_int1, fun ι H μ vs ds Q r a q => by
    rcases q with ⟨i, rfl, q⟩ | ⟨k, rfl, q⟩
    · obtain ⟨v, rfl, a1⟩ := a.one; cases a1; exact .inl ⟨i, rfl, q ι H _ (Gr.refl _ _) r (.int _)⟩
    · obtain ⟨v, rfl, a1⟩ := a.one; cases a1; exact .inr ⟨k, rfl, q ι H _ (Gr.refl _ _) r (.int _)⟩⟩
/-- tuple(x) of a list or a tuple -/
def gTupOf : GC := fun xs μ Q => ∃ d ds, xs = [d] ∧ asS μ d = some ds ∧ Q (.tup ds) μ
theorem cad_tuple : CaD X (.type "tuple") gTupOf :=
  ⟨fun xs μ Q Q' h ⟨d, ds, e, e2, q⟩ => ⟨d, ds, e, e2, h _ _ q⟩, _, call_tuple_of, fun ι H μ vs ds Q r a ⟨d, xs, e, e2, q⟩ => by
    subst e
    obtain ⟨v, rfl, a1⟩ := a.one
    cases d with
    | tup ds =>
      cases Option.some.inj e2
      obtain ⟨p, ws, rfl, h1, h2⟩ := tup_at a1
      exact ⟨p, ws, rfl, .inr ⟨h1, q ι H _ (Gr.refl _ _) r a1⟩⟩
    | _ =>
      obtain ⟨p, ws, rfl, h1, h2⟩ := asL_at r a1 e2
      exact ⟨p, ws, rfl, .inl ⟨SqL.of h1, fun l hl => q ι _ _ (Gr.new hl (r.free hl)) (r.new hl) (.newT hl (r.free hl) h2)⟩⟩⟩
/-- all(x), any(x) of a list of bools -/
def gAll : GC := fun xs μ Q => ∃ (d : D) (bs : List Bool), xs = [d] ∧ asL μ d = some (bs.map D.bl) ∧ Q (.bl (bs.all id)) μ
theorem bls_at {K : PySem.W.Frag} {ι : Io} {H : Hp} : ∀ {vs : List V} {ys : List Bool}, Ats K ι H vs (ys.map D.bl) → vs = ys.map V.bl
  | vs, [], r => Ats.unnil r
  | vs, y :: ys, r => by
    obtain ⟨v, vs', rfl, a, r'⟩ := Ats.uncons (ds := ys.map D.bl) (d := .bl y) r
    cases a
    rw [bls_at r']
    rfl
theorem cad_all (hc : X.calm = true) : CaD X (.builtin "all") gAll :=
  ⟨fun xs μ Q Q' h ⟨d, ds, e, e2, q⟩ => ⟨d, ds, e, e2, h _ _ q⟩, _, cr_all hc, fun ι H μ vs ds Q r a ⟨d, bs, e, e2, q⟩ => by
    subst e
    obtain ⟨v, rfl, a1⟩ := a.one
    obtain ⟨p, ws, rfl, h1, h2⟩ := asL_at r a1 e2
    cases bls_at h2
    exact ⟨p, bs, rfl, SqL.of h1, q ι H _ (Gr.refl _ _) r (.bl _)⟩⟩
/-- -a -/
def fNeg (f : FE) : FE := fun ρ μ Q E => f ρ μ (fun d m => ∃ i, d = .int i ∧ Q (.int (-i)) m) E
/-- for c in s -/
def iStrD (f : FE) : FI := fun ρ μ Q E => f ρ μ (fun d m => ∃ x : Str, d = .str x ∧ Q (x.cps.toList.map fun c => D.str ⟨#[c]⟩) (fun _ => True) m) E
theorem walks_str {K : PySem.W.Frag} {ι : Io} {H : Hp} {x : Str} {st : Sto → Prop} : Walks K (Its x) ι H (x.cps.toList.map fun c => D.str ⟨#[c]⟩) st := by
  refine ⟨fun ι' H' μ' i y g r s hx => ?_, fun ι' H' μ' i g r s hx0 => have hx := Nat.le_of_eq hx0; (show x.cps.size ≤ i by simpa using hx)⟩
  rw [List.getElem?_map, Option.map_eq_some_iff] at hx
  obtain ⟨c, hc, rfl⟩ := hx
  have hc' : x.cps[i]? = some c := by simpa using hc
  refine ⟨(Array.getElem?_eq_some_iff.mp hc').1, fun v H2 hy => ?_⟩
  obtain ⟨rfl, c', e, rfl⟩ := hy
  rw [hc'] at e; cases e
  exact ⟨Gr.refl _ _, r, .str _⟩
theorem di_str {tg : Expr} (h : DE X W e f) : DI X W tg e (iStrD f) :=
  ⟨fun ρ μ Q Q' E E' hq he q => h.mono ρ μ _ _ E E' (fun d m ⟨x, e, z⟩ => ⟨x, e, hq _ _ _ z⟩) he q, PI.imp (pi_str h.run) fun σ H R ⟨ι, ρ, μ, r, l, q⟩ => chain1 h.mono r l q fun d μ1 ι1 H1 v q1 g1 r1 l1 a1 => by
    obtain ⟨x, rfl, z⟩ := q1
    cases a1
    exact ⟨x, rfl, z ι1 H1 _ g1 r1 walks_str⟩⟩
/-- x, y = a, b -/
def sPar (i j : Nat) (fl : FA) : FS := fun A ρ μ => fl ρ μ (fun ds m => ∃ x y, ds = [x, y] ∧ A.nx ((ρ.set i (some x)).set j (some y)) m) A.ex
theorem ds_par {i j : Nat} {x y : Str} {px py pt : Pos} {kt k2 pt2} (hc : X.calm = true) (hN : X.N.Nodup) (hi : X.N[i]? = some x) (hj : X.N[j]? = some y) (hij : i ≠ j)
    (hx : X.env.scope.names.lookup x = some .local) (hy : X.env.scope.names.lookup y = some .local) (ha : DA X W [a, b] fl)
    (hw : swappedStores [.Tuple [.Name x px, .Name y py] kt pt] (.Tuple [a, b] k2 pt2) X.env = pure (some [x, y]) := by rfl)
    (hs : swapsWithSole [.Tuple [.Name x px, .Name y py] kt pt] (.Tuple [a, b] k2 pt2) pos.line X.env = pure false := by rfl) :
    DS X W (.Assign [.Tuple [.Name x px, .Name y py] kt pt] (.Tuple [a, b] k2 pt2) pos) (sPar i j fl) :=
  ⟨fun ρ μ A B h q => ha.mono ρ μ _ _ _ _ (fun ds m ⟨x, y, e, z⟩ => ⟨x, y, e, h.nx _ _ z⟩) (fun _ _ _ z => h.ex _ _ _ _ z) q,
   PS.imp (ps_par hc hN hi hj hij hx hy ha.run hw hs) fun D σ H ⟨ι, ρ, μ, r, l, q⟩ => chainA ha.mono r l (ha.mono ρ μ _ _ _ _ (fun _ _ z => z) (fun _ _ _ z => WV.ew l z) q) fun ds μ1 ι1 H1 vs q1 g1 r1 l1 a1 => by
    obtain ⟨x, y, rfl, z⟩ := q1
    obtain ⟨v, vs', rfl, av, a2⟩ := a1.uncons
    obtain ⟨u, rfl, au⟩ := a2.one
    exact ⟨v, u, rfl, z ι1 H1 _ g1 r1 ((l1.set av i).set au j)⟩⟩
/-- y = [.. for ..] -/
theorem ds_setLc {i : Nat} {y : Str} {py spos : Pos} {elt tg iter : Expr} {ifs : List Expr} {scope : Scope} {own : List (Str × Nat)} {fi : FI} {g : FG} {ft : FT} {fe : FE} (hc : X.calm = true) (hN : X.N.Nodup) (hy : X.N[i]? = some y) (hyl : X.env.scope.names.lookup y = some .local)
    (hsw : swapsWith (.ListComp elt [⟨tg, iter, ifs, 0⟩] scope pos) (some (.Name y py)) spos.line X.env = pure true) (hi : DI X W tg iter fi) (ok : BlkOk X.N X.env.scope scope own)
    (hg : ∀ (s : Shared) (H : Hp) (C : Addr) (cl : List (Str × Addr)) (fp : List Addr), DGw (X.blk s H scope (compEnvC scope cl C X.env) fp) tg (own.map (·.2)) g)
    (ht : ∀ (s : Shared) (H : Hp) (C : Addr) (cl : List (Str × Addr)) (fp : List Addr), DTs (X.blk s H scope (compEnvC scope cl C X.env) fp) ifs ft)
    (he : ∀ (s : Shared) (H : Hp) (C : Addr) (cl : List (Str × Addr)) (fp : List Addr), DE (X.blk s H scope (compEnvC scope cl C X.env) fp) NW elt fe)
    (hs : ∀ x, foldedSetIterable iter X.env x = pure x := by intro _; rfl) : DS X W (.Assign [.Name y py] (.ListComp elt [⟨tg, iter, ifs, 0⟩] scope pos) spos) (sAsg (fLc fi g ft fe (own.map (·.2))) (tgName i)) := by
  refine ⟨mAsg (mLc hi.mono) (fun d ρ μ N N' h q => h _ _ q), PS.imp (ps_setLc (g := rdG X.K (own.map (·.2)) g) (tt := rdT X.K NW ft) (te := rdE X.K NW fe) hc hN hy hyl hsw hi.run ok (fun s H C cl fp => (hg s H C cl fp).run) (fun s H C cl fp => (ht s H C cl fp).run) (fun s H C cl fp => (he s H C cl fp).run) hs) fun D σ H ⟨ι, ρ, μ, r, l, q⟩ => ?_⟩
  refine rdLc hi.mono (hg X.s_0 X.H_0 0 [] []).mono (ht X.s_0 X.H_0 0 [] []).mono (he X.s_0 X.H_0 0 [] []).mono ⟨ι, ρ, μ, r, l, mLc hi.mono ρ μ _ _ _ _ (fun d m z => ?_) (fun _ _ _ z => WV.ew l z) q⟩
  intro ι1 H1 v g1 r1 a1
  exact z ι1 H1 _ g1 r1 ((l.gr g1).set a1 i)
end
/-- the builtins' names are not the module's -/
structure NoB (mg : Str → Option Value) : Prop where
  len : mg "len" = none
  list : mg "list" = none
  tuple : mg "tuple" = none
  int : mg "int" = none
  repr : mg "repr" = none
  range : mg "range" = none
  all : mg "all" = none
  zip : mg "zip" = none
  enumerate : mg "enumerate" = none
  isinstance : mg "isinstance" = none
  str : mg "str" = none
  bool : mg "bool" = none
  dict : mg "dict" = none
  any : mg "any" = none
  min : mg "min" = none
  sorted : mg "sorted" = none
  set : mg "set" = none
  max : mg "max" = none
  sum : mg "sum" = none
end Dl

namespace Dl
open PySem PySem.Spec L2
open PyProof.Rows hiding St Binds

/-! ### where a new list is to be data, or a cell -/
theorem DE.weak {X : Cx} {W : WX} {e : Expr} {f f' : FE} (h : DE X W e f) (m : MonE f') (k : ∀ ρ μ Q E, f' ρ μ Q E → f ρ μ Q E) : DE X W e f' :=
  ⟨m, PE.imp h.run fun σ H Q ⟨ι, ρ, μ, r, l, q⟩ => ⟨ι, ρ, μ, r, l, k _ _ _ _ q⟩⟩
def gD (ds : List D) (μ : Sto) (Q : QD) : Prop := ds.length ≤ sizeLine ∧ Q (.lst ds) μ
def gC (ds : List D) (μ : Sto) (Q : QD) : Prop := ds.length ≤ sizeLine ∧ Q (.cell μ.length) (μ ++ [.lst ds])
theorem gD_mono {ds : List D} {Q Q' : QD} (h : ∀ d m, Q d m → Q' d m) {m : Sto} (q : gD ds m Q) : gD ds m Q' := ⟨q.1, h _ _ q.2⟩
theorem gC_mono {ds : List D} {Q Q' : QD} (h : ∀ d m, Q d m → Q' d m) {m : Sto} (q : gC ds m Q) : gC ds m Q' := ⟨q.1, h _ _ q.2⟩
theorem gD_new {ds : List D} {Q : QD} {m : Sto} (q : gD ds m Q) : gNewL ds m Q := ⟨q.1, .inl q.2⟩
theorem gC_new {ds : List D} {Q : QD} {m : Sto} (q : gC ds m Q) : gNewL ds m Q := ⟨q.1, .inr q.2⟩
section
variable {X : Cx} {W : WX} {a b e o : Expr} {es : List Expr} {f fa fb fo : FE} {fl : FA} {pos p p2 : Pos}
def fLstD (g : FA) : FE := fun ρ μ Q E => g ρ μ (fun ds m => gD ds m Q) E
def fLstC (g : FA) : FE := fun ρ μ Q E => g ρ μ (fun ds m => gC ds m Q) E
theorem de_lstD (h : DA X W es fl) : DE X W (.List es pos) (fLstD fl) :=
  (de_lst h).weak (fun ρ μ Q Q' E E' hq he q => h.mono ρ μ _ _ E E' (fun _ _ z => gD_mono hq z) he q) fun ρ μ Q E q => h.mono ρ μ _ _ E E (fun _ _ z => gD_new z) (fun _ _ _ z => z) q
theorem de_lstC (h : DA X W es fl) : DE X W (.List es pos) (fLstC fl) :=
  (de_lst h).weak (fun ρ μ Q Q' E E' hq he q => h.mono ρ μ _ _ E E' (fun _ _ z => gC_mono hq z) he q) fun ρ μ Q E q => h.mono ρ μ _ _ E E (fun _ _ z => gC_new z) (fun _ _ _ z => z) q
def gListD : GC := fun xs μ Q => ∃ d ds, xs = [d] ∧ asS μ d = some ds ∧ gD ds μ Q
def gListC : GC := fun xs μ Q => ∃ d ds, xs = [d] ∧ asS μ d = some ds ∧ gC ds μ Q
theorem CaD.weak {v : Value} {g g' : GC} (h : CaD X v g) (m : MonC g') (k : ∀ xs μ Q, g' xs μ Q → g xs μ Q) : CaD X v g' := by
  obtain ⟨r, c, q⟩ := h.run
  exact ⟨m, r, c, fun ι H μ vs ds Q rp a z => q ι H μ vs ds Q rp a (k _ _ _ z)⟩
/-- lists joined -/
def catD : G2 := fun x y μ Q => ∃ xs ys, asL μ x = some xs ∧ asL μ y = some ys ∧ gD (xs ++ ys) μ Q
theorem opd_catD : OpD X (binaryOp .Add) catD := opd_catL.imp (fun x y μ Q Q' h ⟨xs, ys, e1, e2, q⟩ => ⟨xs, ys, e1, e2, gD_mono h q⟩) fun x y μ Q ⟨xs, ys, e1, e2, q⟩ => ⟨xs, ys, e1, e2, gD_new q⟩
def strAdd : G2 := fun x y μ Q => ∃ s t : Str, x = .str s ∧ y = .str t ∧ addD (.str s) (.str t) μ Q
theorem strAdd_ok : OpD X (binaryOp .Add) strAdd := opd_add.imp (fun x y μ Q Q' h ⟨s, t, e1, e2, q⟩ => ⟨s, t, e1, e2, opd_add (X := X) |>.mono _ _ _ _ _ h q⟩) fun x y μ Q ⟨s, t, e1, e2, q⟩ => by subst e1; subst e2; exact q
/-- ints -/
def addI : G2 := fun x y μ Q => ∃ i j, x = .int i ∧ y = .int j ∧ Q (.int (i + j)) μ
theorem opd_addI : OpD X (binaryOp .Add) addI := opd_ii0 (gd := fun i j => .int (i + j)) op_add fun _ _ _ _ _ => .int _
def mulI : G2 := fun x y μ Q => ∃ i j, x = .int i ∧ y = .int j ∧ CMulW i j ∧ Q (.int (i * j)) μ
theorem opd_mulI : OpD X (binaryOp .Mult) mulI := opd_ii (gd := fun i j => .int (i * j)) op_mulW fun _ _ _ _ _ => .int _
def eqI : G2 := fun x y μ Q => ∃ i j, x = .int i ∧ y = .int j ∧ Q (.bl (decide (i = j))) μ
def eqS : G2 := fun x y μ Q => ∃ i j : Str, x = .str i ∧ y = .str j ∧ Q (.bl (decide (i = j))) μ
def neI : G2 := fun x y μ Q => ∃ i j, x = .int i ∧ y = .int j ∧ Q (.bl (!decide (i = j))) μ
def neS : G2 := fun x y μ Q => ∃ i j : Str, x = .str i ∧ y = .str j ∧ Q (.bl (!decide (i = j))) μ
theorem opd_eqI : OpD X (compareOp .Eq) eqI := opd_eqs.imp (fun x y μ Q Q' h ⟨i, j, e1, e2, q⟩ => ⟨i, j, e1, e2, h _ _ q⟩) fun x y μ Q z => .inl z
theorem opd_eqS : OpD X (compareOp .Eq) eqS := opd_eqs.imp (fun x y μ Q Q' h ⟨i, j, e1, e2, q⟩ => ⟨i, j, e1, e2, h _ _ q⟩) fun x y μ Q z => .inr (.inl z)
def neP : G2 := fun x y μ Q => ∃ p q, pyS μ x = some p ∧ pyS μ y = some q ∧ SeqAt.shaped p = true ∧ SeqAt.shaped q = true ∧ Q (.bl (!PyData.eqv p q)) μ
theorem opd_neP' (hu : X.A.units + 64 < cLine) : OpD X (compareOp .NotEq) neP := opd_neP hu
def eqP : G2 := fun x y μ Q => ∃ p q, pyS μ x = some p ∧ pyS μ y = some q ∧ SeqAt.shaped p = true ∧ SeqAt.shaped q = true ∧ Q (.bl (PyData.eqv p q)) μ
theorem opd_eqP' (hu : X.A.units + 64 < cLine) : OpD X (compareOp .Eq) eqP := opd_eqP hu
def ixL : G2 := fun x y μ Q => ∃ ds i d, asS μ x = some ds ∧ y = .int i ∧ atI ds i = some d ∧ Q d μ
theorem de_ixL (ha : DE X W a fa) (hb : DE X W b fb) (hs : PlainIx b := by exact fun _ _ => rfl) : DE X W (.Subscript a b pos) (fOp ixL fa fb) :=
  (de_ix ha hb hs).weak (mOp (fun x y μ Q Q' h ⟨ds, i, d, e1, e2, e3, q⟩ => ⟨ds, i, d, e1, e2, e3, h _ _ q⟩) ha.mono hb.mono) fun ρ μ Q E q => ha.mono ρ μ _ _ E E (fun x m z => hb.mono ρ m _ _ E E (fun y m2 ⟨ds, i, d, e1, e2, e3, q⟩ => by
    cases x with
    | str s => cases e1
    | _ => exact ⟨ds, i, d, e1, e2, e3, q⟩) (fun _ _ _ z => z) z) (fun _ _ _ z => z) q
def ixT : G2 := fun x y μ Q => ∃ (z : Str) (i : Int) (c : Nat), x = .str z ∧ y = .int i ∧ z.length ≤ sizeLine ∧ atI z.cps.toList i = some c ∧ Q (.str ⟨#[c]⟩) μ
theorem de_ixT (ha : DE X W a fa) (hb : DE X W b fb) (hs : PlainIx b := by exact fun _ _ => rfl) : DE X W (.Subscript a b pos) (fOp ixT fa fb) :=
  (de_ix ha hb hs).weak (mOp (fun x y μ Q Q' h ⟨z, i, c, e0, e1, e2, e3, q⟩ => ⟨z, i, c, e0, e1, e2, e3, h _ _ q⟩) ha.mono hb.mono) fun ρ μ Q E q => ha.mono ρ μ _ _ E E (fun x m z => hb.mono ρ m _ _ E E (fun y m2 ⟨z, i, c, e0, e1, e2, e3, q⟩ => by
    subst e0
    exact ⟨i, c, e1, e2, e3, q⟩) (fun _ _ _ z => z) z) (fun _ _ _ z => z) q
/-- a slice of a list, as data -/
def fSlD (fo : FE) (flo fhi : FO) : FE := fun ρ μ Q E => fo ρ μ (fun x m1 => flo ρ m1 (fun lo m2 => fhi ρ m2 (fun hi m3 => ∃ ds, asL m3 x = some ds ∧ gD (cutD ds lo hi) m3 Q) E) E) E
end
end Dl

namespace Dl
open PySem PySem.Spec L2
open PyProof.Rows hiding St Binds

/-! ### the readings, as rows of a rewriting -/
section
variable {ρ : Rho} {μ : Sto} {Q : QD} {E : ED} {f fa fb fo : FE} {ft fu : FT} {fl : FA} {A : DK} {fs gs : FS} {g : FG} {g2 : G2} {gc : GC} {gm : GM} {N : Rho → Sto → Prop} {QT : Bool → Sto → Prop} {QA : List D → Sto → Prop}
@[simp] theorem z_var {i : Nat} : fVar i ρ μ Q E ↔ ∃ d, ρ[i]? = some (some d) ∧ Q d μ := Iff.rfl
@[simp] theorem z_c {d : D} : fC d ρ μ Q E ↔ Q d μ := Iff.rfl
@[simp] theorem z_op : fOp g2 fa fb ρ μ Q E ↔ fa ρ μ (fun x m => fb ρ m (fun y m2 => g2 x y m2 Q) E) E := Iff.rfl
@[simp] theorem z_b : fB f ρ μ QT E ↔ f ρ μ (fun d m => ∃ b, d = .bl b ∧ QT b m) E := Iff.rfl
@[simp] theorem z_not : fNot ft ρ μ QT E ↔ ft ρ μ (fun b m => QT (!b) m) E := Iff.rfl
@[simp] theorem z_and : fAnd ft fu ρ μ QT E ↔ ft ρ μ (fun b m => if b = true then fu ρ m QT E else QT false m) E := Iff.rfl
@[simp] theorem z_or : fOr ft fu ρ μ QT E ↔ ft ρ μ (fun b m => if b = true then QT true m else fu ρ m QT E) E := Iff.rfl
@[simp] theorem z_if : fIf ft fa fb ρ μ Q E ↔ ft ρ μ (fun b m => if b = true then fa ρ m Q E else fb ρ m Q E) E := Iff.rfl
@[simp] theorem z_nil : fNil ρ μ QA E ↔ QA [] μ := Iff.rfl
@[simp] theorem z_cons : fCons f fl ρ μ QA E ↔ f ρ μ (fun d m => fl ρ m (fun ds m2 => QA (d :: ds) m2) E) E := Iff.rfl
@[simp] theorem z_lstD : fLstD fl ρ μ Q E ↔ fl ρ μ (fun ds m => gD ds m Q) E := Iff.rfl
@[simp] theorem z_lstC : fLstC fl ρ μ Q E ↔ fl ρ μ (fun ds m => gC ds m Q) E := Iff.rfl
@[simp] theorem z_tup : fTup fl ρ μ Q E ↔ fl ρ μ (fun ds m => ds.length ≤ sizeLine ∧ Q (.tup ds) m) E := Iff.rfl
@[simp] theorem z_gD {ds : List D} : gD ds μ Q ↔ ds.length ≤ sizeLine ∧ Q (.lst ds) μ := Iff.rfl
@[simp] theorem z_gC {ds : List D} : gC ds μ Q ↔ ds.length ≤ sizeLine ∧ Q (.cell μ.length) (μ ++ [.lst ds]) := Iff.rfl
@[simp] theorem z_cb : fCB gc fl ρ μ Q E ↔ fl ρ μ (fun ds m => gc ds m Q) E := Iff.rfl
@[simp] theorem z_bl : fBL gm fo fl ρ μ Q E ↔ fo ρ μ (fun x m1 => (∃ ds, asL m1 x = some ds) ∧ fl ρ m1 (fun ds m2 => gm x ds m2 Q) E) E := Iff.rfl
@[simp] theorem z_call {F : FD} {dds : List D} : fCall F dds fl ρ μ Q E ↔ fl ρ μ (fun ds m => F (ds ++ dds) m Q (fun c l m' => E c l ρ m')) E := Iff.rfl
@[simp] theorem z_slL {lo hi : FO} : fSlL fo lo hi ρ μ Q E ↔ fo ρ μ (fun x m1 => lo ρ m1 (fun l m2 => hi ρ m2 (fun h m3 => ∃ ds, asL m3 x = some ds ∧ gNewL (cutD ds l h) m3 Q) E) E) E := Iff.rfl
@[simp] theorem z_slD {lo hi : FO} : fSlD fo lo hi ρ μ Q E ↔ fo ρ μ (fun x m1 => lo ρ m1 (fun l m2 => hi ρ m2 (fun h m3 => ∃ ds, asL m3 x = some ds ∧ gD (cutD ds l h) m3 Q) E) E) E := Iff.rfl
@[simp] theorem z_oNo {QO : Option Int → Sto → Prop} : oNo ρ μ QO E ↔ QO none μ := Iff.rfl
@[simp] theorem z_oYes {QO : Option Int → Sto → Prop} : oYes f ρ μ QO E ↔ f ρ μ (fun d m => ∃ i, d = .int i ∧ QO (some i) m) E := Iff.rfl
@[simp] theorem z_neP {x y : D} : neP x y μ Q ↔ ∃ p q, pyS μ x = some p ∧ pyS μ y = some q ∧ SeqAt.shaped p = true ∧ SeqAt.shaped q = true ∧ Q (.bl (!PyData.eqv p q)) μ := Iff.rfl
@[simp] theorem z_strAdd {x y : D} : strAdd x y μ Q ↔ ∃ s t : Str, x = .str s ∧ y = .str t ∧ addD (.str s) (.str t) μ Q := Iff.rfl
@[simp] theorem z_join {fe : FE} : fJoin fo fe ρ μ Q E ↔ fo ρ μ (fun x m1 => ∃ a, x = .str a ∧ fe ρ m1 (fun d m2 => ∃ ys : List Str, asS m2 d = some (ys.map D.str) ∧ (ys.map (·.length)).sum + ys.length * a.length ≤ 16777216 ∧ Q (.str (Txt.join a ys)) m2) E) E := Iff.rfl
@[simp] theorem z_neg : fNeg f ρ μ Q E ↔ f ρ μ (fun d m => ∃ i, d = .int i ∧ Q (.int (-i)) m) E := Iff.rfl
-- statements
@[simp] theorem z_seq : sSeq fs gs A ρ μ ↔ fs { A with nx := fun ρ' μ' => gs A ρ' μ' } ρ μ := Iff.rfl
@[simp] theorem z_next : sNext A ρ μ ↔ A.nx ρ μ := Iff.rfl
@[simp] theorem z_break : sBreak A ρ μ ↔ A.bk ρ μ := Iff.rfl
@[simp] theorem z_cont : sCont A ρ μ ↔ A.ct ρ μ := Iff.rfl
@[simp] theorem z_drop : sDrop f A ρ μ ↔ f ρ μ (fun _ m => A.nx ρ m) A.ex := Iff.rfl
@[simp] theorem z_ret : sRet f A ρ μ ↔ f ρ μ A.rt A.ex := Iff.rfl
@[simp] theorem z_ifS : sIf ft fs gs A ρ μ ↔ ft ρ μ (fun b m => if b = true then fs A ρ m else gs A ρ m) A.ex := Iff.rfl
@[simp] theorem z_asg : sAsg f g A ρ μ ↔ f ρ μ (fun d m => g d ρ m A.nx) A.ex := Iff.rfl
@[simp] theorem z_par {i j : Nat} : sPar i j fl A ρ μ ↔ fl ρ μ (fun ds m => ∃ x y, ds = [x, y] ∧ A.nx ((ρ.set i (some x)).set j (some y)) m) A.ex := Iff.rfl
@[simp] theorem z_tgn {i : Nat} {d : D} : tgName i d ρ μ N ↔ N (ρ.set i (some d)) μ := Iff.rfl
@[simp] theorem z_tgT {n : Nat} {h : FGs} {d : D} : tgTup n h d ρ μ N ↔ ∃ ds, d = .tup ds ∧ ds.length = n ∧ h ds ρ μ N := Iff.rfl
@[simp] theorem z_tgC {h : FGs} {ds : List D} : tgCons g h ds ρ μ N ↔ ∃ d r, ds = d :: r ∧ g d ρ μ (fun ρ' μ' => h r ρ' μ' N) := Iff.rfl
@[simp] theorem z_tgN {ds : List D} : tgNil ds ρ μ N ↔ ds = [] ∧ N ρ μ := Iff.rfl
@[simp] theorem z_tgL {fi : FE} {d : D} : tgIxL fo fi d ρ μ N ↔ fo ρ μ (fun x m1 => fi ρ m1 (fun y m2 => ∃ n ds k j, x = .cell n ∧ m2[n]? = some (.lst ds) ∧ y = .int k ∧ ixN ds.length k = some j ∧ N ρ (m2.set n (.lst (ds.set j d)))) NE) NE := Iff.rfl
-- operators
@[simp] theorem z_addI {x y : D} : addI x y μ Q ↔ ∃ i j, x = .int i ∧ y = .int j ∧ Q (.int (i + j)) μ := Iff.rfl
@[simp] theorem z_subI {x y : D} : subD x y μ Q ↔ ∃ i j, x = .int i ∧ y = .int j ∧ Q (.int (i - j)) μ := Iff.rfl
@[simp] theorem z_mulI {x y : D} : mulI x y μ Q ↔ ∃ i j, x = .int i ∧ y = .int j ∧ CMulW i j ∧ Q (.int (i * j)) μ := Iff.rfl
@[simp] theorem z_modI {x y : D} : modD x y μ Q ↔ ∃ i j, x = .int i ∧ y = .int j ∧ 0 < j ∧ Q (.int (i % j)) μ := Iff.rfl
@[simp] theorem z_fdiv {x y : D} : fdivD x y μ Q ↔ ∃ i j, x = .int i ∧ y = .int j ∧ CDivW i j ∧ Q (.int (i / j)) μ := Iff.rfl
@[simp] theorem z_pow {x y : D} : powD x y μ Q ↔ ∃ i j, x = .int i ∧ y = .int j ∧ CPow i j ∧ Q (.int (i ^ j.toNat)) μ := Iff.rfl
@[simp] theorem z_catD {x y : D} : catD x y μ Q ↔ ∃ xs ys, asL μ x = some xs ∧ asL μ y = some ys ∧ gD (xs ++ ys) μ Q := Iff.rfl
@[simp] theorem z_eqI {x y : D} : eqI x y μ Q ↔ ∃ i j, x = .int i ∧ y = .int j ∧ Q (.bl (decide (i = j))) μ := Iff.rfl
@[simp] theorem z_eqS {x y : D} : eqS x y μ Q ↔ ∃ i j : Str, x = .str i ∧ y = .str j ∧ Q (.bl (decide (i = j))) μ := Iff.rfl
@[simp] theorem z_neI {x y : D} : neI x y μ Q ↔ ∃ i j, x = .int i ∧ y = .int j ∧ Q (.bl (!decide (i = j))) μ := Iff.rfl
@[simp] theorem z_neS {x y : D} : neS x y μ Q ↔ ∃ i j : Str, x = .str i ∧ y = .str j ∧ Q (.bl (!decide (i = j))) μ := Iff.rfl
@[simp] theorem z_ixL {x y : D} : ixL x y μ Q ↔ ∃ ds i d, asS μ x = some ds ∧ y = .int i ∧ atI ds i = some d ∧ Q d μ := Iff.rfl
@[simp] theorem z_ixT {x y : D} : ixT x y μ Q ↔ ∃ (z : Str) (i : Int) (c : Nat), x = .str z ∧ y = .int i ∧ z.length ≤ sizeLine ∧ atI z.cps.toList i = some c ∧ Q (.str ⟨#[c]⟩) μ := Iff.rfl
@[simp] theorem z_in {b : Bool} {x y : D} : inD b x y μ Q ↔ ∃ ds, asS μ y = some ds ∧ flatD x = true ∧ ds.all flatD = true ∧ Q (.bl (if b then !inDD x ds else inDD x ds)) μ := Iff.rfl
@[simp] theorem z_lt {i j : Int} : ltD (.int i) (.int j) μ Q ↔ Q (.bl (decide (i < j))) μ := Iff.rfl
@[simp] theorem z_le {i j : Int} : leD (.int i) (.int j) μ Q ↔ Q (.bl (decide (i ≤ j))) μ := Iff.rfl
@[simp] theorem z_gt {x y : D} : gtD x y μ Q ↔ ∃ i j, x = .int i ∧ y = .int j ∧ Q (.bl (decide (j < i))) μ := Iff.rfl
@[simp] theorem z_ge {x y : D} : geD x y μ Q ↔ ∃ i j, x = .int i ∧ y = .int j ∧ Q (.bl (decide (j ≤ i))) μ := Iff.rfl
-- builtins
@[simp] theorem z_int {xs : List D} : gInt xs μ Q ↔ (∃ i, xs = [.int i] ∧ Q (.int i) μ) ∨ ∃ k, xs = [.bl k] ∧ Q (.int (if k then 1 else 0)) μ := Iff.rfl
@[simp] theorem z_listD {xs : List D} : gListD xs μ Q ↔ ∃ d ds, xs = [d] ∧ asS μ d = some ds ∧ gD ds μ Q := Iff.rfl
@[simp] theorem z_listC {xs : List D} : gListC xs μ Q ↔ ∃ d ds, xs = [d] ∧ asS μ d = some ds ∧ gC ds μ Q := Iff.rfl
@[simp] theorem z_tupO {xs : List D} : gTupOf xs μ Q ↔ ∃ d ds, xs = [d] ∧ asS μ d = some ds ∧ Q (.tup ds) μ := Iff.rfl
@[simp] theorem z_popAt {x : D} {ds : List D} : gPopAt x ds μ Q ↔ ∃ n xs i k y, x = .cell n ∧ ds = [.int i] ∧ μ[n]? = some (.lst xs) ∧ -(2 ^ 63) ≤ i ∧ i < 2 ^ 63 ∧ seqIndex? i xs.length = some k ∧ xs[k]? = some y ∧ Q y (μ.set n (.lst (xs.eraseIdx k))) := Iff.rfl
@[simp] theorem z_app {x : D} {ds : List D} : gApp x ds μ Q ↔ ∃ n xs y, x = .cell n ∧ ds = [y] ∧ μ[n]? = some (.lst xs) ∧ xs.length < sizeLine ∧ Q .non (μ.set n (.lst (xs ++ [y]))) := Iff.rfl
@[simp] theorem z_repr {xs : List D} : gRepr xs μ Q ↔ ∃ d p, xs = [d] ∧ pyS μ d = some p ∧ okR p ∧ Q (.str p.shown) μ := Iff.rfl
@[simp] theorem z_asS_t {ds : List D} : asS μ (.tup ds) = some ds := rfl
@[simp] theorem z_asS_l {ds : List D} : asS μ (.lst ds) = some ds := rfl
@[simp] theorem z_asL_l {ds : List D} : asL μ (.lst ds) = some ds := rfl
@[simp] theorem z_asL_c {n : Nat} {ds : List D} : asL μ (.cell n) = some ds ↔ μ[n]? = some (.lst ds) := by
  unfold asL
  dsimp only
  split
  · rename_i e; rw [e]; simp
  · rename_i h; constructor
    · intro z; cases z
    · intro z; exact absurd z (h ds)
@[simp] theorem z_asS_c {n : Nat} {ds : List D} : asS μ (.cell n) = some ds ↔ μ[n]? = some (.lst ds) := z_asL_c
end
theorem atI_nn {α : Type} (xs : List α) {i : Int} (h : 0 ≤ i) : atI xs i = xs[i.toNat]? := by
  unfold atI ixN
  rw [if_pos h]
  split
  · rfl
  · rw [List.getElem?_eq_none (by omega)]; rfl
@[simp] theorem atI_0 {α : Type} (xs : List α) : atI xs 0 = xs[0]? := atI_nn xs (by decide)
@[simp] theorem atI_1 {α : Type} (xs : List α) : atI xs 1 = xs[1]? := atI_nn xs (by decide)
@[simp] theorem atI_2 {α : Type} (xs : List α) : atI xs 2 = xs[2]? := atI_nn xs (by decide)
@[simp] theorem atI_3 {α : Type} (xs : List α) : atI xs 3 = xs[3]? := atI_nn xs (by decide)
end Dl

namespace Dl
open PySem PySem.Spec L2
open PyProof.Rows hiding St Binds

theorem seq_cut {fs gs : FS} {A : DK} {ρ : Rho} {μ : Sto} (P : Rho → Sto → Prop) (h2 : ∀ ρ' μ', P ρ' μ' → gs A ρ' μ') (h1 : ∀ N : Rho → Sto → Prop, (∀ ρ' μ', P ρ' μ' → N ρ' μ') → fs { A with nx := N } ρ μ) : sSeq fs gs A ρ μ := h1 _ h2
theorem ite_b {p : Prop} [Decidable p] {a b : Prop} (h1 : p → a) (h2 : ¬ p → b) : if decide p = true then a else b := by
  by_cases h : p
  · rw [if_pos (decide_eq_true h)]; exact h1 h
  · rw [if_neg (by simp [h])]; exact h2 h
theorem ite_c {c : Bool} {a b : Prop} (h1 : c = true → a) (h2 : c = false → b) : if c = true then a else b := by
  cases c
  · rw [if_neg (by simp)]; exact h2 rfl
  · rw [if_pos rfl]; exact h1 rfl
theorem pyAll_ints : ∀ ns : List Int, pyAll (ns.map D.int) = some (ns.map PyData.int)
  | [] => rfl
  | n :: ns => by simp only [List.map_cons, pyAll, D.py, pyAll_ints ns]
theorem lay_ints : ∀ ns : List Int, PyData.canLayAll0 (ns.map PyData.int) = true
  | [] => by simp [PyData.canLayAll0]
  | n :: ns => by simp [PyData.canLayAll0, PyData.canLay0, lay_ints ns]
theorem depth_ints : ∀ ns : List Int, PyData.depthAll (ns.map PyData.int) ≤ 1
  | [] => by simp [PyData.depthAll]
  | n :: ns => by
    have := depth_ints ns
    simp only [List.map_cons, PyData.depthAll, PyData.depth]
    omega
theorem shaped_ints (ns : List Int) : SeqAt.shaped (.list (ns.map PyData.int)) = true := by
  have := depth_ints ns
  have h2 := lay_ints ns
  unfold SeqAt.shaped
  rw [show (PyData.list (ns.map PyData.int)).canLay0 = true by simp only [PyData.canLay0]; exact h2, Bool.true_and, decide_eq_true_eq]
  show PyData.depthAll _ + 1 ≤ 64
  omega
end Dl

namespace Dl
open PySem PySem.Spec L2
open PyProof.Rows hiding St Binds

mutual
theorem bd_mono {n m : Nat} (h : n ≤ m) : ∀ {d : D}, d.bd n = true → d.bd m = true
  | .non, _ => rfl
  | .bl _, _ => rfl
  | .int _, _ => rfl
  | .str _, _ => rfl
  | .lst ds, b => by unfold D.bd at b ⊢; exact bdL_mono h b
  | .tup ds, b => by unfold D.bd at b ⊢; exact bdL_mono h b
  | .dct ds, b => by unfold D.bd at b ⊢; exact bdK_mono h b
  | .ins _ ds, b => by unfold D.bd at b ⊢; exact bdF_mono h b
  | .cell k, b => by unfold D.bd at b ⊢; exact decide_eq_true (Nat.lt_of_lt_of_le (of_decide_eq_true b) h)
  | .ref _, _ => rfl
  | .ty _, _ => rfl
  | .fzl ds, b => by unfold D.bd at b ⊢; exact bdL_mono h b
theorem bdL_mono {n m : Nat} (h : n ≤ m) : ∀ {ds : List D}, bdL n ds = true → bdL m ds = true
  | [], _ => rfl
  | d :: ds, b => by unfold bdL at b ⊢; rw [Bool.and_eq_true] at b ⊢; exact ⟨bd_mono h b.1, bdL_mono h b.2⟩
theorem bdK_mono {n m : Nat} (h : n ≤ m) : ∀ {ds : List (Key × D)}, bdK n ds = true → bdK m ds = true
  | [], _ => rfl
  | (_, d) :: ds, b => by unfold bdK at b ⊢; rw [Bool.and_eq_true] at b ⊢; exact ⟨bd_mono h b.1, bdK_mono h b.2⟩
theorem bdF_mono {n m : Nat} (h : n ≤ m) : ∀ {ds : List (Str × D)}, bdF n ds = true → bdF m ds = true
  | [], _ => rfl
  | (_, d) :: ds, b => by unfold bdF at b ⊢; rw [Bool.and_eq_true] at b ⊢; exact ⟨bd_mono h b.1, bdF_mono h b.2⟩
end
theorem ctbd_mono {n m : Nat} (h : n ≤ m) {c : CT} (b : c.bd n = true) : c.bd m = true := by
  cases c with
  | lst ds => exact bdL_mono h b
  | dct ds => exact bdK_mono h b
  | lck ob kv ds => exact bdK_mono h b
  | ins C ds => exact bdF_mono h b
theorem bdS_mono {n m : Nat} (h : n ≤ m) {μ : Sto} (b : bdS n μ = true) : bdS m μ = true := by
  unfold bdS at b ⊢
  rw [List.all_eq_true] at b ⊢
  exact fun c hc => ctbd_mono h (b c hc)
theorem bdS_app {n : Nat} {μ ν : Sto} : bdS n (μ ++ ν) = (bdS n μ && bdS n ν) := List.all_append
theorem bdL_all {n : Nat} {ds : List D} : bdL n ds = true ↔ ∀ d ∈ ds, d.bd n = true := by
  induction ds with
  | nil => exact ⟨fun _ _ h => absurd h (by simp), fun _ => rfl⟩
  | cons d ds ih =>
    unfold bdL
    rw [Bool.and_eq_true, ih]
    exact ⟨fun ⟨a, b⟩ x h => (List.mem_cons.mp h).elim (fun e => e ▸ a) (b x), fun h => ⟨h d List.mem_cons_self, fun x hx => h x (List.mem_cons_of_mem _ hx)⟩⟩
theorem bdL_strs {n : Nat} (ss : List Str) : bdL n (ss.map D.str) = true := bdL_all.mpr fun d h => by
  obtain ⟨s, _, rfl⟩ := List.mem_map.mp h
  rfl
theorem bdL_ints {n : Nat} (ss : List Int) : bdL n (ss.map D.int) = true := bdL_all.mpr fun d h => by
  obtain ⟨s, _, rfl⟩ := List.mem_map.mp h
  rfl

/-- the stream of the draws -/
structure Dr where
  ns : List Int
  a : Int
  t : Int
  c : Int
structure Dr.ok (S : Dr) : Prop where
  a0 : 0 ≤ S.a
  t0 : 0 ≤ S.t
  c0 : 0 ≤ S.c
  c1 : S.c < 2147483647
abbrev Dr.sto (S : Dr) (rest : Sto) : Sto := .lst (S.ns.map .int) :: .lst [.cell 0, .int S.a, .int S.t, .int S.c] :: rest
/-- the cells behind the stream hold no reference to newer ones -/
def okRest (rest : Sto) : Prop := bdS (rest.length + 2) rest = true
theorem okRest.add {rest : Sto} {c : CT} (h : okRest rest) (b : c.bd (rest.length + 2) = true) : okRest (rest ++ [c]) := by
  unfold okRest at h ⊢
  rw [bdS_app, Bool.and_eq_true, List.length_append]
  refine ⟨bdS_mono (by omega) h, ?_⟩
  unfold bdS
  rw [List.all_cons, List.all_nil, Bool.and_true]
  exact ctbd_mono (by omega) b
theorem okRest.sto {S : Dr} {rest : Sto} (h : okRest rest) : bdS (S.sto rest).length (S.sto rest) = true := by
  unfold bdS
  show (CT.bd _ _ && (CT.bd _ _ && List.all rest _)) = true
  rw [Bool.and_eq_true, Bool.and_eq_true]
  refine ⟨bdL_ints _, ?_, h⟩
  show bdL _ _ = true
  simp [bdL, D.bd]
section
variable {S : Dr} {rest : Sto} {a b c : CT} {n : Nat}
theorem sto_len : (S.sto rest).length = rest.length + 2 := rfl
theorem get_a (h : n = rest.length + 2) : (S.sto (rest ++ [a]))[n]? = some a := by subst h; simp
theorem set_a (h : n = rest.length + 2) : (S.sto (rest ++ [a])).set n c = S.sto (rest ++ [c]) := by
  subst h
  show CT.lst _ :: CT.lst _ :: (rest ++ [a]).set rest.length c = _
  rw [List.set_append_right _ _ (by omega)]
  simp
theorem asL_of {n : Nat} {μ : Sto} {ds : List D} (h : μ[n]? = some (.lst ds)) : asL μ (.cell n) = some ds := z_asL_c.mpr h
end
/-! ### comprehensions in the sight of what they make -/
section
variable {g : FG} {ft : FT} {fe : FE} {ρ : Rho} {vs : List Nat} {Q : QD}
/-- the store stays: each item gives one, or none -/
theorem lc_pure {xs : List D} {st : Sto → Prop} {m : Sto} (p : D → Option D) (hst : ∀ c, st (m ++ [.lst c]))
    (turn : ∀ x, x ∈ xs → ∀ (acc : List D) (NX : D → Sto → Prop) (N0 : Sto → Prop), (∀ y, p x = some y → NX y (m ++ [.lst acc])) → (p x = none → N0 (m ++ [.lst acc])) →
      g x (wipeD ρ vs) (m ++ [.lst acc]) (fun ρ2 μ2 => ft ρ2 μ2 (fun b m3 => if b = true then fe ρ2 m3 NX NE else N0 m3) NE))
    (hl : xs.length ≤ sizeLine) (bd : bdL m.length (xs.filterMap p) = true) (bm : bdS m.length m = true) (q : Q (.lst (xs.filterMap p)) m) :
    ∃ I : Nat → Sto → Prop, I 0 (m ++ [.lst []]) ∧ (∀ i μ', I i μ' → st μ') ∧
      (∀ i x μ', xs[i]? = some x → I i μ' → g x (wipeD ρ vs) μ' (fun ρ2 μ2 => ft ρ2 μ2 (fun b m3 =>
        if b = true then fe ρ2 m3 (fun y m4 => ∃ acc, m4[m.length]? = some (.lst acc) ∧ acc.length < sizeLine ∧ I (i + 1) (m4.set m.length (.lst (acc ++ [y])))) NE else I (i + 1) m3) NE)) ∧
      ∀ μ', I xs.length μ' → ∃ d2 μ2, Fz m.length (.cell m.length) μ' d2 μ2 ∧ Q d2 μ2 := by
  have fl : ∀ l : List D, (l.filterMap p).length ≤ l.length := fun l => List.length_filterMap_le p l
  refine ⟨fun i μ' => μ' = m ++ [.lst ((xs.take i).filterMap p)], rfl, fun i μ' e => by rw [e]; exact hst _, ?_, ?_⟩
  · rintro i x μ' hx rfl
    have ht : xs.take (i + 1) = xs.take i ++ [x] := by rw [List.take_add_one, hx]; rfl
    refine turn x (List.mem_of_getElem? hx) _ _ _ (fun y hy => ⟨(xs.take i).filterMap p, by simp, ?_, ?_⟩) (fun hn => ?_)
    · have h1 := fl (xs.take i)
      have h2 : (xs.take i).length ≤ i := by rw [List.length_take]; omega
      have h3 := (List.getElem?_eq_some_iff.mp hx).1
      omega
    · dsimp only
      rw [List.set_append_right _ _ (Nat.le_refl _), Nat.sub_self, ht, List.filterMap_append]
      simp [hy]
    · dsimp only
      rw [ht, List.filterMap_append]
      simp [hn]
  · rintro μ' rfl
    rw [List.take_length]
    exact ⟨_, _, .lst (Nat.le_refl _) bd bm .refl, q⟩
/-- draws on the way -/
theorem lc_draw {xs : List D} {st : Sto → Prop} {S : Dr} {rest : Sto} (cost : Int) (R : Nat → List D → Prop) (ok : S.ok) (okr : okRest rest) (hst : ∀ (S' : Dr) c, st (S'.sto (rest ++ [.lst c]))) (R0 : R 0 [])
    (turn : ∀ (i : Nat) x (acc : List D) (S' : Dr), xs[i]? = some x → i < xs.length → S'.ok → S.t ≤ S'.t → S'.t ≤ S.t + i * cost → R i acc → ∀ (NX : D → Sto → Prop) (N0 : Sto → Prop),
      (∀ y (S2 : Dr), S2.ok → S'.t ≤ S2.t → S2.t ≤ S'.t + cost → R (i + 1) (acc ++ [y]) → NX y (S2.sto (rest ++ [.lst acc]))) →
      (∀ (S2 : Dr), S2.ok → S'.t ≤ S2.t → S2.t ≤ S'.t + cost → R (i + 1) acc → N0 (S2.sto (rest ++ [.lst acc]))) →
      g x (wipeD ρ vs) (S'.sto (rest ++ [.lst acc])) (fun ρ2 μ2 => ft ρ2 μ2 (fun b m3 => if b = true then fe ρ2 m3 NX NE else N0 m3) NE))
    (hR : ∀ i acc, R i acc → acc.length ≤ i) (hl : xs.length ≤ sizeLine) (bd : ∀ acc, R xs.length acc → bdL (rest.length + 2) acc = true)
    (q : ∀ acc (S' : Dr), R xs.length acc → S'.ok → S.t ≤ S'.t → S'.t ≤ S.t + xs.length * cost → Q (.lst acc) (S'.sto rest)) :
    ∃ I : Nat → Sto → Prop, I 0 (S.sto rest ++ [.lst []]) ∧ (∀ i μ', I i μ' → st μ') ∧
      (∀ i x μ', xs[i]? = some x → I i μ' → g x (wipeD ρ vs) μ' (fun ρ2 μ2 => ft ρ2 μ2 (fun b m3 =>
        if b = true then fe ρ2 m3 (fun y m4 => ∃ acc, m4[(S.sto rest).length]? = some (.lst acc) ∧ acc.length < sizeLine ∧ I (i + 1) (m4.set (S.sto rest).length (.lst (acc ++ [y])))) NE else I (i + 1) m3) NE)) ∧
      ∀ μ', I xs.length μ' → ∃ d2 μ2, Fz (S.sto rest).length (.cell (S.sto rest).length) μ' d2 μ2 ∧ Q d2 μ2 := by
  have step : ∀ (i : Nat) (a b : Int), a ≤ S.t + i * cost → b ≤ a + cost → b ≤ S.t + (i + 1 : Nat) * cost := fun i a b h1 h2 => by
    have e : ((i + 1 : Nat) : Int) * cost = i * cost + cost := by rw [Int.natCast_add, Int.add_mul]; simp
    omega
  refine ⟨fun i μ' => ∃ (S' : Dr) (acc : List D), S'.ok ∧ S.t ≤ S'.t ∧ S'.t ≤ S.t + i * cost ∧ R i acc ∧ μ' = S'.sto (rest ++ [.lst acc]), ⟨S, [], ok, Int.le_refl _, by simp, R0, rfl⟩, ?_, ?_, ?_⟩
  · rintro i μ' ⟨S', acc, _, _, _, _, rfl⟩; exact hst S' acc
  · rintro i x μ' hx ⟨S', acc, ok', t1, t2, hr, rfl⟩
    have hi := (List.getElem?_eq_some_iff.mp hx).1
    refine turn i x acc S' hx hi ok' t1 t2 hr _ _ (fun y S2 ok2 u1 u2 hr2 => ⟨acc, get_a sto_len, by have := hR _ _ hr; omega, ?_⟩) (fun S2 ok2 u1 u2 hr2 => ⟨S2, acc, ok2, by omega, step i _ _ t2 u2, hr2, rfl⟩)
    exact ⟨S2, acc ++ [y], ok2, by omega, step i _ _ t2 u2, hr2, set_a sto_len⟩
  · rintro μ' ⟨S', acc, ok', t1, t2, hr, rfl⟩
    exact ⟨_, _, .lst (μ := S'.sto rest) (Nat.le_refl _) (bd acc hr) okr.sto .refl, q acc S' hr ok' t1 t2⟩
end
theorem eqDD_str {a b : Str} : eqDD (.str a) (.str b) = decide (a = b) := by
  show (a == b) = _
  rfl
theorem inDD_strs {s : Str} {tk : List Str} : inDD (.str s) (tk.map .str) = decide (s ∈ tk) := by
  unfold inDD
  rw [List.any_map]
  rw [Bool.eq_iff_iff]
  simp only [List.any_eq_true, decide_eq_true_eq, Function.comp, eqDD_str]
  exact ⟨fun ⟨x, h, e⟩ => e ▸ h, fun h => ⟨s, h, rfl⟩⟩
theorem flat_strs (tk : List Str) : (tk.map D.str).all flatD = true := by
  rw [List.all_eq_true]
  intro d h
  obtain ⟨s, _, rfl⟩ := List.mem_map.mp h
  rfl
theorem nodup_le : ∀ {l tk : List Str}, l.Nodup → (∀ x ∈ l, x ∈ tk) → l.length ≤ tk.length
  | [], _, _, _ => Nat.zero_le _
  | x :: l, tk, hn, h => by
    obtain ⟨h1, h2⟩ := List.nodup_cons.mp hn
    have hx := h x List.mem_cons_self
    have ih := nodup_le (tk := tk.erase x) h2 fun y hy => (List.mem_erase_of_ne (show y ≠ x from fun e => h1 (e ▸ hy))).mpr (h y (List.mem_cons_of_mem _ hy))
    rw [List.length_erase_of_mem hx] at ih
    have := List.length_pos_of_mem hx
    show l.length + 1 ≤ _
    omega
theorem app_chars (a b : Str) : (a ++ b).cps.toList = a.cps.toList ++ b.cps.toList := by
  show (a.cps ++ b.cps).toList = _
  simp
theorem join_chars (cs : List Nat) : (Txt.join (Str.ofString "") (cs.map fun c => (⟨#[c]⟩ : Str))).cps.toList = cs := by
  show (Builtin.Str.glued _ _).cps.toList = cs
  rw [StrLaws.glued_eq_join]
  have e0 : (Str.ofString "").cps.toList = [] := by decide
  have key : ∀ cs : List Nat, (Str.join (Str.ofString "") (cs.map fun c => (⟨#[c]⟩ : Str))).cps.toList = cs := by
    intro cs
    induction cs with
    | nil => rfl
    | cons c cs ih =>
      cases cs with
      | nil => rfl
      | cons d r =>
        show ((⟨#[c]⟩ : Str) ++ Str.ofString "" ++ Str.join (Str.ofString "") ((d :: r).map fun c => (⟨#[c]⟩ : Str))).cps.toList = _
        rw [app_chars, app_chars, e0, ih]
        rfl
  exact key cs
/-- a name: 1 to 8 small letters, none of the words -/
def Reserved : List Str := ["and", "or", "not", "always", "never"]
structure NameOk (s : Str) : Prop where
  pos : 1 ≤ s.cps.toList.length
  le : s.cps.toList.length ≤ 8
  low : ∀ c ∈ s.cps.toList, 97 ≤ c ∧ c ≤ 122
  res : s ∉ Reserved
def abc : List Nat := (Str.ofString "abcdefghijklmnopqrstuvwxyz").cps.toList
theorem abc_low : ∀ c ∈ abc, 97 ≤ c ∧ c ≤ 122 := by decide +kernel
theorem abc_len : abc.length = 26 := by decide +kernel
def qs : List Str := (Str.ofString "abcdefghijklmnopqrst").cps.toList.map fun c => (Str.ofString "q" ++ ⟨#[c]⟩ : Str)
theorem qs_len : qs.length = 20 := by decide +kernel
theorem qs_nodup : qs.Nodup := by decide +kernel
theorem qs_ok : ∀ s ∈ qs, NameOk s := by
  have h : ∀ s ∈ qs, 1 ≤ s.cps.toList.length ∧ s.cps.toList.length ≤ 8 ∧ (∀ c ∈ s.cps.toList, 97 ≤ c ∧ c ≤ 122) ∧ s ∉ Reserved := by decide +kernel
  exact fun s hs => ⟨(h s hs).1, (h s hs).2.1, (h s hs).2.2.1, (h s hs).2.2.2⟩
theorem sum_ones : ∀ cs : List Nat, ((cs.map fun c => (⟨#[c]⟩ : Str)).map (·.length)).sum = cs.length
  | [] => rfl
  | c :: cs => by
    rw [List.map_cons, List.map_cons, List.sum_cons, sum_ones cs]
    show 1 + _ = cs.length + 1
    omega
def pQ : D → Option D
  | .str t => some (.str (Str.ofString "q" ++ t))
  | _ => none
def pN (tk : List Str) : D → Option D
  | .str t => if t ∈ tk then none else some (.str t)
  | _ => none
theorem pN_map (tk : List Str) : ∀ l : List Str, (l.map D.str).filterMap (pN tk) = (l.filter fun t => decide (t ∉ tk)).map D.str
  | [] => rfl
  | t :: l => by
    rw [List.map_cons, List.filterMap_cons, pN_map tk l, List.filter_cons]
    by_cases h : t ∈ tk
    · simp [pN, h]
    · simp [pN, h]
theorem qs_some {tk : List Str} (h : tk.length ≤ 15) : ∃ s l, (qs.filter fun t => decide (t ∉ tk)) = s :: l ∧ s ∈ qs ∧ s ∉ tk := by
  cases e : qs.filter fun t => decide (t ∉ tk) with
  | nil =>
    have := nodup_le (tk := tk) qs_nodup fun x hx => by
      rw [List.filter_eq_nil_iff] at e
      have := e x hx
      simpa using this
    rw [qs_len] at this
    omega
  | cons s l =>
    have : s ∈ qs.filter fun t => decide (t ∉ tk) := by rw [e]; exact List.mem_cons_self
    rw [List.mem_filter] at this
    exact ⟨s, l, rfl, this.1, by simpa using this.2⟩
end Dl

namespace Dl
open PySem PySem.Spec L2
open PyProof.Rows hiding St Binds

/-- the law's call, where nothing that guards against itself is under way -/
theorem callG {P : Program} {w : World} {K : W.Frag} {mg mb : Str → Option Value} {k : Nat} {fa a : Addr} {fd : FuncData} {x : Str} {sp : Sp} {s : Shared} {us : List Value} {ns : List Int}
    (inK : K.In s.heap) (gns : s.heap.Ns mainGlobals mg) (bns : s.heap.Ns builtinsNs mb) (boot : ∀ y : Str, y ≠ "__name__" → mb y = bootBuiltins y) (nl : s.heap.NoLimit) (ng : s.gens = #[])
    (at_a : s.heap.get? a = some { cls := .type "list", data := .seq us.toArray }) (allInt : IntsAre us ns) (few : ns.length ≤ sizeLine) (room : Room k callerA)
    (F : ∀ base : Heap, K.In base → base.Ns mainGlobals mg → FnG P w K mg base (L2.CX P w) k fa fd [x] sp) (bind : ∀ (s : Shared) (u : Value), BindsTo s fd ⟨[u], []⟩ [(x, u)])
    (wish : ∀ H : Hp, Only H → SqL K H a (ns.map V.int) → sp [.ref a] H (fun v _ => v = .bl true) fun _ _ _ => False) :
    codeAny (model P w) callerA (.call (.ref fa) ⟨[.ref a], []⟩) (fun r s' => r = .ok (.ret (.bool true)) ∧ OldK s.heap s'.heap ∧ s'.os = s.os ∧ AllBare s'.gens) s := by
  have many := allInt.length
  have vals := vals_ints allInt
  suffices run : ∀ H : Hp, Only H → SqL K H a (ns.map V.int) → HOk P w H s.heap → (∀ b, b ≠ a → H b = none) → (K.lookup a ≠ none → H a = none) →
      codeAny (model P w) callerA (.call (.ref fa) ⟨[.ref a], []⟩) (fun r s' => r = .ok (.ret (.bool true)) ∧ OldK s.heap s'.heap ∧ s'.os = s.os ∧ AllBare s'.gens) s by
    cases own : K.lookup a with
    | none =>
      let O : Obj := { cls := .type "list", data := .seq us.toArray }
      let H1 : Hp := fun b => if b = a then some (.frz O (.lst (ns.map V.int))) else none
      have H1a : H1 a = some (.frz O (.lst (ns.map V.int))) := if_pos rfl
      have H1b : ∀ b, b ≠ a → H1 b = none := fun b n => if_neg n
      refine run H1 (fun b => ?_) (.inl (.inr ⟨O, H1a⟩)) (fun b u e => ?_) H1b fun n => absurd own n
      · by_cases e : b = a
        · exact .inr ⟨O, _, e ▸ H1a⟩
        · exact .inl (H1b b e)
      · by_cases eb : b = a
        · subst eb
          rw [H1a] at e; cases e
          exact ⟨at_a, by rw [List.length_map]; exact few, us, _, vals, at_a⟩
        · rw [H1b b eb] at e; cases e
    | some o =>
      have eo := inK a o own
      rw [at_a] at eo
      cases eo
      exact run (fun _ => none) (fun _ => .inl rfl) (.inr ⟨_, us.toArray, _, own, rfl, rfl, rfl, by rw [List.size_toArray, many]; exact few, by simpa using vals⟩) (fun b u e => nomatch (show (none : Option HO) = some u from e))
        (fun _ _ => rfl) fun _ => rfl
  intro H only seq hok elsewhere ownA
  have dictFree : ∀ {b : Addr} {o : Obj} {es : Array DictEntry} {ep : Nat}, s.heap.get? b = some o → o.data = .dict es ep → H b = none := by
    intro b o es ep e d
    by_cases eb : b = a
    · subst eb
      rw [at_a] at e; cases e
      exact nomatch (show Data.seq us.toArray _ = Data.dict es ep from d)
    · exact elsewhere b eb
  have nsOf : ∀ {b : Addr} {m : Str → Option Value}, s.heap.Ns b m → (hidT s.heap H).Ns b m := by
    rintro b m ⟨o, es, ep, e, d, r⟩
    exact ⟨o, es, ep, hidT_get e (dictFree e d), d, r⟩
  have KB : K.In (hidT s.heap H) := by
    intro b o e
    refine hidT_get (inK b o e) ?_
    by_cases eb : b = a
    · subst eb; exact ownA (by rw [e]; simp)
    · exact elsewhere b eb
  have limB : (hidT s.heap H).NoLimit := by
    obtain ⟨mc, n1, n2⟩ := nl
    exact ⟨mc, nsOf n1, n2⟩
  have none_in : ∀ b : Addr, b ∉ ([] : List Addr) := fun b => by simp
  have E0 : Env0 P w K mg (hidT s.heap H) callerA [] s H :=
    ⟨rfl, ⟨KB, nsOf gns, ⟨mb, nsOf bns, boot⟩, limB⟩, fun b o e => of_hidT e, Nat.le_of_eq (hidT_size _ _), trivial, fun b hb => absurd hb (none_in b), hok, .of_eq ng⟩
  have ran := (F _ KB (nsOf gns)).go callerA [] s H ⟨[.ref a], []⟩ [.ref a] [.ref a] _ _ rfl room E0 (bind s (.ref a)) (.cons rfl .nil) (wish H only seq)
  refine codeAny_mono ran fun r s' q => ?_
  match r, q with
  | .error e, q =>
    obtain ⟨_, _, _, _, _, _, _, _, _, _, _, _, z⟩ := q
    exact z.elim
  | .ok .next, q => exact False.elim q
  | .ok .brk, q => exact False.elim q
  | .ok .cont, q => exact False.elim q
  | .ok (.ret u), q =>
    obtain ⟨v, H2, os, bare, un, hok2, rel, ev⟩ := q
    cases (show v = .bl true from ev)
    cases (show u = Value.bool true from rel)
    refine ⟨rfl, OldK.of_keep fun b o e => ?_, os, bare⟩
    rcases only b with n | ⟨ob, ys, f⟩
    · exact un.keep b o e n (fun z => none_in b z) (none_in b)
    · obtain ⟨o1, _⟩ := hok b _ f
      obtain ⟨o2, _⟩ := hok2 b _ (un.frzs b ob _ f)
      rw [e] at o1; cases o1
      exact o2
end Dl

namespace Dl
open PySem PySem.Spec L2
open PyProof.Rows hiding St Binds

/-! ### a dict that is walked: locked meanwhile -/
section
variable {K : PySem.W.Frag} {ι ι' : Io} {H H' : Hp} {a : Addr} {kv : List (Key × V)} {o' : HO} {v : V} {d : D} {μ : Sto} {σ : L2.St} {ρ : Rho}
/-! walks -/
end

section
variable {X : Cx} {e : Expr} {g : Rho → Sto → Option (List (Key × D))} {pos p : Pos} {x : Str}
end

/-! ### for .. over a dict -/
section
variable {X : Cx} {W : WX} {tg iter : Expr} {sb : List Stmt} {g : Rho → Sto → Option (List (Key × D))} {its : List (Key × D) → List D} {tgf : FG} {fb : FS} {pos : Pos}
theorem PS.or {s : Stmt} {t t' : TS} (h : PS X s t) (h' : PS X s t') : PS X s (fun D σ H => t D σ H ∨ t' D σ H) := ⟨fun pins s σ H D I q => q.elim (h.run pins s σ H D I) (h'.run pins s σ H D I)⟩
end

/-! ### comprehensions over a dict, and those that make a dict -/
def DcI (tgf : FG) (ft : FT) (fk fv : FE) (vs : List Nat) (xs : List D) (st : Sto → Prop) (ρ : Rho) (m : Sto) (Q : QD) : Prop := ∃ I : Nat → Sto → Prop, I 0 (m ++ [.dct []]) ∧ (∀ i μ', I i μ' → st μ') ∧
  (∀ i x μ', xs[i]? = some x → I i μ' → tgf x (wipeD ρ vs) μ' (fun ρ2 μ2 => ft ρ2 μ2 (fun b m3 =>
    if b = true then fk ρ2 m3 (fun y m4 => fv ρ2 m4 (fun z m5 => ∃ acc k, kD y = some k ∧ m5[m.length]? = some (.dct acc) ∧ acc.length < sizeLine ∧ I (i + 1) (m5.set m.length (.dct (putKD acc k z)))) NE) NE else I (i + 1) m3) NE)) ∧
  ∀ μ', I xs.length μ' → ∃ d2 μ2, Fz m.length (.cell m.length) μ' d2 μ2 ∧ Q d2 μ2
section
variable {K : PySem.W.Frag} {ι1 : Io} {H1 : Hp} {σ : L2.St} {ρ : Rho} {m : Sto} {J : It} {xs : List D} {st : Sto → Prop} {tgf : FG} {ft : FT} {fe fk fv : FE} {vs : List Nat} {QD' : QD} {Q : VK}
theorem dc_core2 (mg : MonTg tgf) (mt : MonT ft) (mk : MonE fk) (mv : MonE fv) (r1 : Rep K ι1 m H1) (l1 : Loc K ι1 H1 σ ρ) (wk : Walks K J ι1 H1 xs st) (le : ∀ d μ', QD' d μ' → QV K ι1 H1 Q d μ') (z : DcI tgf ft fk fv vs xs st ρ m QD') :
    ∀ D, H1 D = none → ∃ W : Nat → Nat → Hp → Prop, (∃ k, W 0 k (upd H1 D (.dK []))) ∧ ∀ i k H, W i k H →
      (J.stop i H ∧ Q (.ref D) H) ∨ (J.go i H ∧ ∃ Nx : Hp → Prop, (∀ H', Nx H' → ∃ k', k' < k ∧ W (i + 1) k' H') ∧ ∀ x H', J.yld i H x H' → rdG K vs tgf x (wipe σ vs) H' fun σ2 H2 => wipe σ2 vs = wipe σ vs ∧ rdT K NW ft σ2 H2 fun b H3 =>
        if b = true then rdE K NW fk σ2 H3 fun y H4 => rdE K NW fv σ2 H4 fun z H5 => ∃ kvs k, y = kV k ∧ H5 D = some (.dK kvs) ∧ kvs.length < sizeLine ∧ Nx (upd H5 D (.dK (L2.putK kvs k z))) else Nx H3) := by
  intro D hD
  obtain ⟨I, h0, hst, ht, hd⟩ := z
  have gN := Gr.cellNew (o := .dK []) hD (r1.free hD)
  have rN := r1.cellNew (o := .dK []) (c := .dct []) hD ⟨[], upd_same, Pts.nil⟩
  have lN := l1.gr gN
  have dN : (ι1 ++ [D])[m.length]? = some D := by rw [List.getElem?_append_right (by rw [r1.len]; exact Nat.le_refl _), r1.len, Nat.sub_self]; rfl
  refine ⟨fun i n H' => n = xs.length - i ∧ i ≤ xs.length ∧ ∃ ι' μ', Gr (ι1 ++ [D]) (upd H1 D (.dK [])) ι' H' ∧ Rep K ι' μ' H' ∧ I i μ', ⟨xs.length, by simp, Nat.zero_le _, _, _, Gr.refl _ _, rN, h0⟩, ?_⟩
  rintro i n H' ⟨rfl, hle, ι', μ', g', r', hI⟩
  by_cases hlt : i < xs.length
  · have hx : xs[i]? = some xs[i] := List.getElem?_eq_getElem hlt
    obtain ⟨w1, w2⟩ := wk.go ι' H' μ' i _ (gN.trans g') r' (hst i μ' hI) hx
    refine .inr ⟨w1, fun H2 => ∃ ι2 μ2, Gr (ι1 ++ [D]) (upd H1 D (.dK [])) ι2 H2 ∧ Rep K ι2 μ2 H2 ∧ I (i + 1) μ2, fun H2 z => ⟨xs.length - (i + 1), by omega, rfl, hlt, z⟩, fun v H2 hy => ?_⟩
    obtain ⟨gy, ry, ay⟩ := w2 v H2 hy
    refine ⟨ι', wipeD ρ vs, μ', _, ry, ((lN.gr g').gr gy).wipe vs, ay, mg _ _ _ _ _ (fun ρ2 μ2 z => ?_) (ht i _ μ' hx hI)⟩
    intro ι3 H3 σ3 g3 r3 l3 o3
    refine ⟨o3.wipe, ?_⟩
    refine chainT mt r3 l3 (mt ρ2 μ2 _ _ _ _ (fun _ _ z => z) (fun _ _ _ z => NE.ew z) z) fun b μ4 ι4 H4 z g4 r4 l4 => ?_
    have gg := ((g'.trans gy).trans g3).trans g4
    cases b with
    | false => exact ⟨ι4, μ4, gg, r4, z⟩
    | true =>
      refine chain1 mk r4 l4 (mk ρ2 μ4 _ _ _ _ (fun _ _ z => z) (fun _ _ _ z => NE.ew z) z) fun y μ5 ι5 H5 u z g5 r5 l5 a5 => ?_
      refine chain1 mv r5 l5 (mv ρ2 μ5 _ _ _ _ (fun _ _ z => z) (fun _ _ _ z => NE.ew z) z) fun y2 μ6 ι6 H6 u2 z g6 r6 l6 a6 => ?_
      obtain ⟨acc, k, ek, e1, e2, z⟩ := z
      have d6 := ((gg.trans g5).trans g6).pre _ _ dN
      obtain ⟨ws, h1, h2⟩ := r6.at_ _ D _ d6 e1
      have gc := Gr.chg (H := H6) (o := .dK (L2.putK ws k u2)) (List.mem_of_getElem? d6)
      exact ⟨ws, k, kD_at a5 ek, h1, by rw [h2.length]; exact e2, ι6, _, ((gg.trans g5).trans g6).trans gc, r6.chg (c := .dct (putKD acc k y2)) d6 ⟨_, upd_same, Pts.putK (a6.gr gc) (h2.gr gc)⟩, z⟩
  · have e : i = xs.length := by omega
    subst e
    obtain ⟨d2, μ2, fz, q⟩ := hd μ' hI
    obtain ⟨ι2, s1, s2, s3⟩ := fz.sound (ι0 := ι1) (H0 := H1) r1.len r' (.cell (g'.pre _ _ dN)) (gN.trans g')
    exact .inl ⟨wk.stop ι' H' μ' _ (gN.trans g') r' (hst _ μ' hI) rfl, le _ _ q ι2 H' _ s3 s1 s2⟩
end
section
variable {X : Cx} {W : WX} {elt kx vx tg iter : Expr} {ifs : List Expr} {scope : Scope} {own : List (Str × Nat)} {pos : Pos} {fi : FI} {g : Rho → Sto → Option (List (Key × D))} {its : List (Key × D) → List D} {tgf : FG} {ft : FT} {fe fk fv : FE}
end
end Dl

namespace Dl
open PySem PySem.Spec L2
open PyProof.Rows hiding St Binds

/-! ### classes as values, isinstance -/
/-- what isinstance asks of an own class -/
structure IsC (K : PySem.W.Frag) (C : Addr) : Prop where
  cl : Cls K C
  ha : PySem.W.findIn K (.ref C) "__class__" = some (some (.builtin "object.__class__"))
  hn : PySem.W.specialIn K (.builtin "object.__class__") "__get__" = some (some (.builtin "getset_descriptor.__get__"))
  htk : PySem.W.takesIn K (.builtin "object.__class__") = some true
  hm : PySem.W.mroIn K C (.type "object") = some true
/-- the type of a datum -/
inductive TyD (K : PySem.W.Frag) (μ : Sto) : D → Value → Prop
  | non : TyD K μ .non (.type "NoneType")
  | bl (b : Bool) : TyD K μ (.bl b) (.type "bool")
  | int (i : Int) : TyD K μ (.int i) (.type "int")
  | str (s : Str) : TyD K μ (.str s) (.type "str")
  | lst (d : D) (ds : List D) (h : asL μ d = some ds) : TyD K μ d (.type "list")
  | tup (ds : List D) : TyD K μ (.tup ds) (.type "tuple")
  | dct (d : D) (kd : List (Key × D)) (h : asD μ d = some kd) : TyD K μ d (.type "dict")
  | ins (d : D) (C : Addr) (fd : List (Str × D)) (h : asI μ d = some (C, fd)) (c : IsC K C) : TyD K μ d (.ref C)
theorem tyd_of {K : PySem.W.Frag} {ι : Io} {H : Hp} {μ : Sto} {v : V} {d : D} {t : Value} (r : Rep K ι μ H) (a : At K ι H v d) (h : TyD K μ d t) : TyX K H v t := by
  cases h with
  | non => cases a; exact .base .non
  | bl b => cases a; exact .base (.bl b)
  | int i => cases a; exact .base (.int i)
  | str s => cases a; exact .base (.str s)
  | lst d ds h => obtain ⟨p, vs, rfl, h1, _⟩ := asL_at r a h; exact .base (.lst h1)
  | tup ds =>
    obtain ⟨p, vs, rfl, h1, _⟩ := tup_at a
    rcases h1 with (h1 | ⟨ob, h1⟩) | ⟨o, its, n, e, c, _⟩
    · exact .base (.tup h1)
    · exact .fTuple h1
    · exact .kTuple e c
  | dct d kd h =>
    obtain ⟨p, kv, rfl, h1, _⟩ := asD_at r a h
    rcases h1 with h1 | ⟨ob, h1⟩
    · exact .base (.dK h1)
    · exact .fDict h1
  | ins d C fd h c =>
    obtain ⟨p, dx, fv, rfl, h1, _⟩ := asI_at r a h
    exact .base (.ins h1 c.cl c.ha c.hn c.htk c.hm)
def gIsi (K : PySem.W.Frag) : GC := fun xs μ Q => ∃ d c t u b, xs = [d, c] ∧ ((∃ C, c = .ref C ∧ u = .ref C) ∨ ∃ n, c = .ty n ∧ u = .type n) ∧ TyD K μ d t ∧ PySem.W.kitOne K t u = some b ∧ Q (.bl b) μ
section
variable {X : Cx} {W : WX} {a b e o i : Expr} {es : List Expr} {f fa fb fo fi fv : FE} {fl : FA} {pos p pos' : Pos} {x : Str} {C : Addr} {F : FD} {dds : List D} {j k : Nat} {K : PySem.W.Frag}
theorem cad_isi (hK : X.K = K := by rfl) : CaD X (.builtin "isinstance") (gIsi K) := by
  subst hK
  refine ⟨fun xs μ Q Q' h ⟨d, c, t, u, b, e1, e2, e3, e4, q⟩ => ⟨d, c, t, u, b, e1, e2, e3, e4, h _ _ q⟩, _, call_isi, fun ι H μ vs ds Q r a ⟨d, c, t, u, b, e1, e2, e3, e4, q⟩ => ?_⟩
  subst e1
  obtain ⟨v, vs', rfl, a1, a2⟩ := a.uncons
  obtain ⟨w, rfl, a3⟩ := a2.one
  rcases e2 with ⟨C, rfl, rfl⟩ | ⟨n, rfl, rfl⟩
  · cases a3
    exact ⟨v, _, t, _, b, rfl, .own C, tyd_of r a1 e3, e4, q ι H _ (Gr.refl _ _) r (.bl _)⟩
  · cases a3
    exact ⟨v, _, t, _, b, rfl, .ty n, tyd_of r a1 e3, e4, q ι H _ (Gr.refl _ _) r (.bl _)⟩
theorem de_cls (hg : Gl X x) (hm : X.mg x = some (.ref C)) (hd : (x == ("__debug__" : Str)) = false := by decide) : DE X W (.Name x pos) (fC (.ref C)) := de_k (pe_glob (v := .ref C) hg hm rfl hd) fun _ _ => .ref C
theorem de_ty {n : String} (hg : Gl X x) (hm : X.mg x = none) (hv : bootBuiltins x = some (.type n)) (hn : x ≠ "__name__" := by decide) (hd : (x == ("__debug__" : Str)) = false := by decide) : DE X W (.Name x pos) (fC (.ty n)) :=
  de_k (pe_bltn (v := .ty n) hg hm hv rfl hn hd) fun _ _ => .ty n

/-! ### own operators -/
theorem passNo {k : Nat} {E : XK} {σ : L2.St} (h : ∀ c d H, ¬ E c d H) : PassesAt (L2.CX X.prog X.w) X σ E := fun _ _ _ e s' _ q => by
  obtain ⟨_, _, _, _, _, _, _, _, _, _, _, _, z⟩ := q
  exact (h _ _ _ z).elim
/-- x op y, x of the class at C -/
def gOwn (C : Addr) (F : FD) : G2 := fun x y μ Q => ∃ fd t, asI μ x = some (C, fd) ∧ TyD K μ y t ∧ PySem.W.notFirst K C t = true ∧ F [x, y] μ Q (fun _ _ _ => False)
theorem opd_own {op : CmpOp} (hop : ∀ a b, compareOp op a b = richCompare op a b) (c : MetX X k C (cmpInfo op).2.1 F []) (hG : X.A.guards = some []) (hr : Room j X.A) (hk : k ≤ j) (hK : X.K = K := by rfl) : OpD X (compareOp op) (gOwn (K := K) C F) := by
  subst hK
  obtain ⟨f, fd0, ps, dvs, ds, Fg, hM, hb, hv, hd⟩ := c.ex
  refine ⟨fun x y μ Q Q' h ⟨fd, t, e1, e2, e3, q⟩ => ⟨fd, t, e1, e2, e3, c.mono _ _ _ _ _ _ h (fun _ _ _ z => z) q⟩,
    fun x y H Q => ∃ a dx fv t, x = .ref a ∧ H a = some (.ins C dx fv) ∧ TyX X.K H y t ∧ PySem.W.notFirst X.K C t = true ∧ spD X.K F ([x, y] ++ dvs) H Q (fun _ _ _ => False), ?_, ?_⟩
  · intro pins s σ H x y v u Q I rx ry h
    obtain ⟨a, dx, fv, t, rfl, ha, ty, hn, q⟩ := h
    cases (show v = Value.ref a from rx)
    obtain ⟨mA, O, _, _, _, _⟩ := ins_get I.hok ha
    obtain ⟨od, J, _⟩ := O.look
    obtain ⟨m, hF⟩ := I.fr
    obtain ⟨P, kx, hP, _⟩ := kit_of I ry ty
    rw [hop]
    refine PySem.W.cmp_K (op := op) (tb := t) (hr.mono hk).units0 hF I.ok.mod.kin J (kx.ty _ _ I.kIn hP) hn hM.at_ hM.fn ?_
    refine wpAny_mono (g_run (us := [.ref a, u]) (vs := [.ref a, y]) hG Fg (hr.mono hk) hb hv (passNo (k := k) fun _ _ _ z => z) I (.cons rfl (.cons ry .nil)) q) (fun w s' z => ?_) fun _ _ z => z
    obtain ⟨z', H', I', rz, qz⟩ := z
    exact SlX.cmpback rz ⟨z', H', I', rz, qz⟩
  · rintro ι H μ x y dx dy Q r ax ay ⟨fd, t, e1, e2, e3, q⟩
    obtain ⟨a, dxx, fv, rfl, ha, _⟩ := asI_at r ax e1
    exact ⟨a, dxx, fv, t, rfl, ha, tyd_of r ay e2, e3, ι, μ, _, r, (Ats.cons ax (Ats.cons ay Ats.nil)).app (hd ι H), c.mono [dx, dy] μ _ _ (fun _ _ _ => False) _ (fun _ _ z => z) (fun _ _ _ z => z.elim) q⟩
variable {pins : List (Addr × Obj)} {σ : L2.St} {H : Hp} {s : Shared} {Q : VK} {us : List Value} {vs : List V} {ds : List Value} {dvs : List V} {f0 : Addr} {fd0 : FuncData} {ps : List Str} {sp : Sp} {E : XK}
/-- the callee is run, within a builtin's call -/
theorem g_runA {A' : Around} (hG : A'.guards = some []) (F : FnG X.prog X.w X.K X.mg X.base (L2.CX X.prog X.w) k f0 fd0 ps sp) (hr : Room k A') (e0 : Env0 X.prog X.w X.K X.mg X.base A' X.stack s H) (hb : L2.Binds X.K fd0 ps ds) (hd : Vals dvs ds)
    (hx : ∀ c d H, ¬ E c d H) (I : Inv X pins σ H s) (r : Vals vs us) (h : sp (vs ++ dvs) H Q E) : wpAny (model X.prog X.w) A' (call (.ref f0) us) (EP X pins σ Q) X.xe s := by
  have both := r.append hd
  have many : (us ++ ds).length = ps.length := both.length.symm.trans (F.nargs _ _ _ _ h)
  have ran := F.go A' X.stack s H ⟨us, []⟩ _ _ Q E hG hr e0 (hb s us I.kIn many) both h
  exact wpAny_call (codeAny_mono ran fun r s' hq => match r, hq with
    | .error e, hq => passNo (k := k) hx pins H s e s' I hq
    | .ok (.ret _), hq => I.after hq
    | .ok .next, hq => False.elim hq
    | .ok .brk, hq => False.elim hq
    | .ok .cont, hq => False.elim hq)
end
end Dl

namespace Dl
open PySem PySem.Spec L2
open PyProof.Rows hiding St Binds

/-! ### != and >= of a class that has == and <= alone -/
section
variable {prog : Program} {w : World} {A : Around} {E : Value → Shared → Prop} {s : Shared} {K : PySem.W.Frag} {x C f : Addr} {ox : Obj} {od : Option Obj} {b : Value} {h₀ : Heap} {L : Addr} {m : Str → Option Value}
/-- a builtin slot of the class object, bound to an instance -/
theorem bound_slot {M : Model} {T id : String} {name : Str} {args : List Value} {Q : Option Value → Shared → Prop} (S : Slot T name id) (X : K.In s.heap) (I : PySem.W.InstAt s.heap x ox C od) (hs : PySem.W.findIn K (.ref C) name = some (some (.builtin id)))
    (h : wpAny M A (call (.builtin id) (.ref x :: args)) (fun v => Q (some v)) E s) : wpAny M A (callSpecialIfBound? (.ref x) name args) Q E s := by
  simp only [callSpecialIfBound?, bindSpecialIfBound?]
  refine wpAny_holding (wpAny_bind (wpAny_bind (wpAny_bind (I.type.here ((PySem.W.looks_findIn X hs).here ?_)))))
  refine wpAny_bind (wpAny_askSetting (wpAny_ite ?_))
  have go : wpAny M A (call (.builtin id) ([.ref x] ++ args) >>= fun v => pure (some v)) Q E s := wpAny_bind (wpAny_mono h (fun v s' z => wpAny_pure z) fun _ _ z => z)
  split
  · exact wpAny_bind (wpAny_of_eq (S.bind _) (wpAny_pure (by exact go)))
  · exact wpAny_tryCatch (wpAny_bind (wpAny_of_eq (S.bind _) (wpAny_pure (by exact go))))
theorem ne_entry {Q : Fin → Shared → Prop} (hu : A.units < cLine) (X : K.In s.heap) (I : PySem.W.InstAt s.heap x ox C od) (hs : PySem.W.findIn K (.ref C) "__eq__" = some (some (.ref f))) (hf : PySem.W.isFn K (.ref f) = true)
    (h : wpAny (model prog w) A (call (.ref f) [.ref x, b]) (fun v s' => ∃ k, v = .bool k ∧ Q (.done (.ret (.bool (!k)))) s') E s) : wpAny (model prog w) A (Builtin.«object.__ne__» ⟨[.ref x, b], []⟩) Q E s := by
  unfold Builtin.«object.__ne__»
  have eqv : wpAny (model prog w) A (callSpecialIfBound? (.ref x) "__eq__" [b]) (fun r s' => ∃ k, r = some (.bool k) ∧ Q (.done (.ret (.bool (!k)))) s') E s :=
    PySem.W.ifBound_K X I hs hf (wpAny_mono h (fun v s' ⟨k, e, q⟩ => ⟨k, by rw [e], q⟩) fun _ _ z => z)
  repeat (first
    | with_reducible refine wpAny_cRoomFor hu ?_
    | (refine wpAny_bind (m := callSpecialIfBound? (.ref x) _ [b]) (wpAny_mono eqv (fun r s' z => ?_) fun _ _ z => z); obtain ⟨k, rfl, q⟩ := z)
    | with_reducible refine wpAny_truthy_bool ?_
    | wp_step
    | dsimp only)
  all_goals exact q
theorem ne_call {Q : Value → Shared → Prop} (hu : A.units + 1 < cLine) (X : K.In s.heap) (I : PySem.W.InstAt s.heap x ox C od) (hm : PySem.W.mroIn K C (.type "object") = some true) (hs : PySem.W.findIn K (.ref C) "__eq__" = some (some (.ref f))) (hf : PySem.W.isFn K (.ref f) = true)
    (h : wpAny (model prog w) A.in1 (call (.ref f) [.ref x, b]) (fun v s' => ∃ k, v = .bool k ∧ Q (.bool (!k)) s') E s) : wpAny (model prog w) A (call (.builtin "object.__ne__") [.ref x, b]) Q E s :=
  wpAny_call (codeAny_call_builtin F.cmp_object.ne.plain F.cmpEntry_ne (PySem.W.check_slot F.cmpKind_ne F.cmpSplit_ne (I.type.andThen (PySem.W.looks_mroIn X hm)) (F.cmpArgs_ne _ _) (ne_entry (A := A.in1) hu X I hs hf h)))
/-- the sides are looked at: the left one answers -/
theorem rich_left {op : CmpOp} {sym : String} {n r : Str} {tb : Value} {Q : Value → Shared → Prop} (hi : cmpInfo op = (sym, n, r)) (hu : A.units < cLine) (X : K.In s.heap) (I : PySem.W.InstAt s.heap x ox C od)
    (hb : PySem.W.Looks (model prog w) s.heap (typeOf b) tb) (hn : PySem.W.notFirst K C tb = true) (one : wpAny (model prog w) A (tryCompare (.ref x) n b) (fun r s' => ∃ v, r = some v ∧ Q v s') E s) :
    wpAny (model prog w) A (richCompare op (.ref x) b) Q E s := by
  simp only [richCompare, hi, oneThing_ref]
  refine wpAny_holding (wpAny_bind (wpAny_cRoomFor hu ?_))
  refine wpAny_bind (I.type.here (wpAny_bind (hb.here ?_)))
  split
  · rename_i q
    have e : PySem.W.subIn K tb (.ref C) = some false := by
      rcases Bool.or_eq_true_iff.mp hn with e | e
      · rw [beq_iff_eq.mp e] at q; simp at q
      · exact beq_iff_eq.mp e
    refine wpAny_bind ((PySem.W.looks_subIn X e).here ?_)
    simp only [Bool.false_eq_true, if_false]
    refine wpAny_bind (m := tryCompare (.ref x) _ b) (wpAny_mono one (fun r s' z => ?_) fun _ _ e => e)
    obtain ⟨v, rfl, hq⟩ := z
    exact wpAny_pure hq
  · refine wpAny_bind (wpAny_pure ?_)
    simp only [Bool.false_eq_true, if_false]
    refine wpAny_bind (m := tryCompare (.ref x) _ b) (wpAny_mono one (fun r s' z => ?_) fun _ _ e => e)
    obtain ⟨v, rfl, hq⟩ := z
    exact wpAny_pure hq
theorem ne_rich {tb : Value} {Q : Value → Shared → Prop} (hu : A.units + 1 < cLine) (X : K.In s.heap) (I : PySem.W.InstAt s.heap x ox C od) (hm : PySem.W.mroIn K C (.type "object") = some true) (hne : PySem.W.findIn K (.ref C) "__ne__" = some (some (.builtin "object.__ne__")))
    (hs : PySem.W.findIn K (.ref C) "__eq__" = some (some (.ref f))) (hf : PySem.W.isFn K (.ref f) = true) (hb : PySem.W.Looks (model prog w) s.heap (typeOf b) tb) (hn : PySem.W.notFirst K C tb = true)
    (h : wpAny (model prog w) A.in1 (call (.ref f) [.ref x, b]) (fun v s' => ∃ k, v = .bool k ∧ Q (.bool (!k)) s') E s) : wpAny (model prog w) A (richCompare .NotEq (.ref x) b) Q E s := by
  refine rich_left cmpInfo_NotEq (by omega) X I hb hn ?_
  unfold tryCompare
  exact wpAny_bind (bound_slot F.cmp_object.ne X I hne (ne_call hu X I hm hs hf (wpAny_mono h (fun v s' ⟨k, e, q⟩ => ⟨k, e, wpAny_pure ⟨_, rfl, q⟩⟩) fun _ _ z => z)))
/-! >= -/
theorem oge_slot : Slot "object" "__ge__" "object.__ge__" :=
  .of (owner := "object") (n := "__ge__") (by rw [typeLookup_type, builtinLookup_eq_fast]; kernel_rfl) (by decide +kernel) (by decide +kernel) (by decide +kernel)
    (by first | exact .inl (by decide +kernel) | exact .inr (by decide +kernel)) (by rw [isSubtype_type]; kernel_rfl)
theorem oge_entry : entryFor table "object.__ge__" = some Builtin.«object.__ge__» := entryFor_of_tree (by kernel_rfl)
theorem oge_kind : builtinKind "object.__ge__" = some .slot := by decide +kernel
theorem oge_split : splitId "object.__ge__" = some ("object", "__ge__") := by decide +kernel
theorem oge_args (a b : Value) : argsOk "object.__ge__" ⟨[a, b], []⟩ := by unfold argsOk; kernel_rfl
theorem oge_says {Q : Fin → Shared → Prop} (h : Q (.done (.ret .notImplemented)) s) : wpAny (model prog w) A (Builtin.«object.__ge__» ⟨[.ref x, b], []⟩) Q E s := by
  refine wpAny_of_eq (a := .done (.ret .notImplemented)) ?_ h
  first | rfl | kernel_rfl
theorem oge_call {Q : Value → Shared → Prop} (X : K.In s.heap) (I : PySem.W.InstAt s.heap x ox C od) (hm : PySem.W.mroIn K C (.type "object") = some true) (h : Q .notImplemented s) : wpAny (model prog w) A (call (.builtin "object.__ge__") [.ref x, b]) Q E s :=
  wpAny_call (codeAny_call_builtin oge_slot.plain oge_entry (PySem.W.check_slot oge_kind oge_split (I.type.andThen (PySem.W.looks_mroIn X hm)) (oge_args _ _) (oge_says h)))
/-- x >= y: y's <= -/
theorem oge_rich {y : Addr} {oy : Obj} {ody : Option Obj} {Q : Value → Shared → Prop} (hu : A.units < cLine) (X : K.In s.heap) (I : PySem.W.InstAt s.heap x ox C od) (J : PySem.W.InstAt s.heap y oy C ody) (hm : PySem.W.mroIn K C (.type "object") = some true)
    (hge : PySem.W.findIn K (.ref C) "__ge__" = some (some (.builtin "object.__ge__"))) (hs : PySem.W.findIn K (.ref C) "__le__" = some (some (.ref f))) (hf : PySem.W.isFn K (.ref f) = true)
    (h : wpAny (model prog w) A (call (.ref f) [.ref y, .ref x]) (PySem.W.CmpBack Q) E s) : wpAny (model prog w) A (richCompare .GtE (.ref x) (.ref y)) Q E s := by
  have one : wpAny (model prog w) A (tryCompare (.ref x) "__ge__" (.ref y)) (fun r s' => r = none ∧ s' = s) E s := by
    unfold tryCompare
    exact wpAny_bind (bound_slot oge_slot X I hge (oge_call X I hm (wpAny_pure ⟨rfl, rfl⟩)))
  have two : wpAny (model prog w) A (tryCompare (.ref y) "__le__" (.ref x)) (fun r s' => ∃ v, r = some v ∧ Q v s') E s := by
    unfold tryCompare
    refine wpAny_bind (PySem.W.ifBound_K X J hs hf (wpAny_mono h (fun v s' hv => ?_) fun _ _ e => e))
    cases v <;> first | exact hv.elim | exact wpAny_pure ⟨_, rfl, hv⟩
  have hi : cmpInfo .GtE = ((">=", "__ge__", "__le__") : String × Str × Str) := rfl
  simp only [richCompare, hi, oneThing_ref]
  refine wpAny_holding (wpAny_bind (wpAny_cRoomFor hu ?_))
  refine wpAny_bind (I.type.here (wpAny_bind (J.type.here ?_)))
  split
  · rename_i q; simp at q
  · refine wpAny_bind (wpAny_pure ?_)
    simp only [Bool.false_eq_true, if_false, Bool.not_false, if_true]
    refine wpAny_bind (m := tryCompare (.ref x) _ (.ref y)) (wpAny_mono one (fun r s1 z => ?_) fun _ _ e => e)
    obtain ⟨rfl, rfl⟩ := z
    refine wpAny_bind (m := tryCompare (.ref y) _ (.ref x)) (wpAny_mono two (fun r s2 z => ?_) fun _ _ e => e)
    obtain ⟨v, rfl, hq⟩ := z
    exact wpAny_pure hq
end

section
variable {X : Cx} {C : Addr} {F : FD} {j k : Nat} {K : PySem.W.Frag}
/-- x != y by the class's == -/
def gNeO (C : Addr) (F : FD) : G2 := fun x y μ Q => ∃ fd t, asI μ x = some (C, fd) ∧ TyD K μ y t ∧ PySem.W.notFirst K C t = true ∧ F [x, y] μ (fun d m => ∃ b, d = .bl b ∧ Q (.bl (!b)) m) (fun _ _ _ => False)
theorem opd_neO (c : MetX X k C "__eq__" F []) (hm : PySem.W.mroIn X.K C (.type "object") = some true) (hne : PySem.W.findIn X.K (.ref C) "__ne__" = some (some (.builtin "object.__ne__"))) (hG : X.A.guards = some []) (hr : Room j X.A) (hk : k + 1 ≤ j) (hK : X.K = K := by rfl) :
    OpD X (compareOp .NotEq) (gNeO (K := K) C F) := by
  subst hK
  obtain ⟨f, fd0, ps, dvs, ds, Fg, hM, hb, hv, hd⟩ := c.ex
  refine ⟨fun x y μ Q Q' h ⟨fd, t, e1, e2, e3, q⟩ => ⟨fd, t, e1, e2, e3, c.mono _ _ _ _ _ _ (fun d m ⟨b, e, z⟩ => ⟨b, e, h _ _ z⟩) (fun _ _ _ z => z) q⟩,
    fun x y H Q => ∃ a dx fv t, x = .ref a ∧ H a = some (.ins C dx fv) ∧ TyX X.K H y t ∧ PySem.W.notFirst X.K C t = true ∧ spD X.K F ([x, y] ++ dvs) H (fun v H' => ∃ b, v = .bl b ∧ Q (.bl (!b)) H') (fun _ _ _ => False), ?_, ?_⟩
  · intro pins s σ H x y v u Q I rx ry h
    obtain ⟨a, dx, fv, t, rfl, ha, ty, hn, q⟩ := h
    cases (show v = Value.ref a from rx)
    obtain ⟨mA, O, _, _, _, _⟩ := ins_get I.hok ha
    obtain ⟨od, J, _⟩ := O.look
    obtain ⟨P, kx, hP, _⟩ := kit_of I ry ty
    have hr1 : Room k X.A.in1 := (hr.mono hk).in1
    have un := (hr.mono hk).un
    show wpAny _ _ (compareOp .NotEq (.ref a) u) _ _ _
    rw [show compareOp .NotEq (.ref a) u = richCompare .NotEq (.ref a) u from rfl]
    refine ne_rich (by omega) I.kIn J hm hne hM.at_ hM.fn (kx.ty _ _ I.kIn hP) hn ?_
    refine wpAny_mono (g_runA (us := [.ref a, u]) (vs := [.ref a, y]) hG Fg hr1 I.env0.in1 hb hv (fun _ _ _ z => z) I (.cons rfl (.cons ry .nil)) q) (fun w s' z => ?_) fun _ _ z => z
    obtain ⟨z', H', I', rz, b, e, qz⟩ := z
    subst e
    cases (show w = Value.bool b from rz)
    exact ⟨b, rfl, .bl (!b), H', I', rfl, qz⟩
  · rintro ι H μ x y dx dy Q r ax ay ⟨fd, t, e1, e2, e3, q⟩
    obtain ⟨a, dxx, fv, rfl, ha, _⟩ := asI_at r ax e1
    refine ⟨a, dxx, fv, t, rfl, ha, tyd_of r ay e2, e3, ι, μ, _, r, (Ats.cons ax (Ats.cons ay Ats.nil)).app (hd ι H), c.mono [dx, dy] μ _ _ (fun _ _ _ => False) _ (fun d m z => ?_) (fun _ _ _ z => z.elim) q⟩
    obtain ⟨b, rfl, z⟩ := z
    intro ι' H' v g' r' a'
    cases a'
    exact ⟨b, rfl, z ι' H' _ g' r' (.bl _)⟩
/-- x >= y by y's <=, both of the class at C -/
def gGeO (C : Addr) (F : FD) : G2 := fun x y μ Q => ∃ fd fd', asI μ x = some (C, fd) ∧ asI μ y = some (C, fd') ∧ F [y, x] μ Q (fun _ _ _ => False)
theorem opd_geO (c : MetX X k C "__le__" F []) (hm : PySem.W.mroIn X.K C (.type "object") = some true) (hge : PySem.W.findIn X.K (.ref C) "__ge__" = some (some (.builtin "object.__ge__"))) (hG : X.A.guards = some []) (hr : Room j X.A) (hk : k ≤ j) :
    OpD X (compareOp .GtE) (gGeO C F) := by
  obtain ⟨f, fd0, ps, dvs, ds, Fg, hM, hb, hv, hd⟩ := c.ex
  refine ⟨fun x y μ Q Q' h ⟨fd, fd', e1, e2, q⟩ => ⟨fd, fd', e1, e2, c.mono _ _ _ _ _ _ h (fun _ _ _ z => z) q⟩,
    fun x y H Q => ∃ a dx fv b dy fw, x = .ref a ∧ y = .ref b ∧ H a = some (.ins C dx fv) ∧ H b = some (.ins C dy fw) ∧ spD X.K F ([y, x] ++ dvs) H Q (fun _ _ _ => False), ?_, ?_⟩
  · intro pins s σ H x y v u Q I rx ry h
    obtain ⟨a, dx, fv, b, dy, fw, rfl, rfl, ha, hb', q⟩ := h
    cases (show v = Value.ref a from rx)
    cases (show u = Value.ref b from ry)
    obtain ⟨mA, O, _, _, _, _⟩ := ins_get I.hok ha
    obtain ⟨od, J, _⟩ := O.look
    obtain ⟨mA', O', _, _, _, _⟩ := ins_get I.hok hb'
    obtain ⟨od', J', _⟩ := O'.look
    rw [show compareOp .GtE (.ref a) (.ref b) = richCompare .GtE (.ref a) (.ref b) from rfl]
    refine oge_rich (hr.mono hk).units0 I.kIn J J' hm hge hM.at_ hM.fn ?_
    refine wpAny_mono (g_run (us := [.ref b, .ref a]) (vs := [.ref b, .ref a]) hG Fg (hr.mono hk) hb hv (passNo (k := k) fun _ _ _ z => z) I (.cons rfl (.cons rfl .nil)) q) (fun w s' z => ?_) fun _ _ z => z
    obtain ⟨z', H', I', rz, qz⟩ := z
    exact SlX.cmpback rz ⟨z', H', I', rz, qz⟩
  · rintro ι H μ x y dx dy Q r ax ay ⟨fd, fd', e1, e2, q⟩
    obtain ⟨a, dxx, fv, rfl, ha, _⟩ := asI_at r ax e1
    obtain ⟨b, dyy, fw, rfl, hb', _⟩ := asI_at r ay e2
    exact ⟨a, dxx, fv, b, dyy, fw, rfl, rfl, ha, hb', ι, μ, _, r, (Ats.cons ay (Ats.cons ax Ats.nil)).app (hd ι H), c.mono [dy, dx] μ _ _ (fun _ _ _ => False) _ (fun _ _ z => z) (fun _ _ _ z => z.elim) q⟩
end
end Dl

namespace Dl
open PySem PySem.Spec L2
open PyProof.Rows hiding St Binds

/-! ### dict(pairs), list(d.items()) -/
def mergeKD (kd more : List (Key × D)) : List (Key × D) := more.foldl (fun acc q => putKD acc q.1 q.2) kd
theorem Pts.merge {K : PySem.W.Frag} {ι : Io} {H : Hp} : ∀ {more : List (Key × V)} {md : List (Key × D)} {kv : List (Key × V)} {kd : List (Key × D)}, Pts K ι H more md → Pts K ι H kv kd → Pts K ι H (L2.mergeK kv more) (mergeKD kd md)
  | more, [], kv, kd, p, q => by
    have e : more = [] := by have := p.1; simpa using this
    subst e
    exact q
  | more, (k, d) :: md, kv, kd, p, q => by
    obtain ⟨v, more', rfl, a, p'⟩ := p.uncons
    show Pts K ι H (L2.mergeK (L2.putK kv k v) more') (mergeKD (putKD kd k d) md)
    exact Pts.merge p' (q.putK a)
section
variable {X : Cx} {W : WX} {e : Expr} {f : FE} {p apos cpos pos : Pos}
end
end Dl

namespace Dl
open PySem PySem.Spec L2
open PyProof.Rows hiding St Binds

/-! ### a comprehension over the keys of a cell's dict -/
section
variable {K : PySem.W.Frag} {ι ι' : Io} {H H' : Hp} {a : Addr} {kv : List (Key × V)} {kd : List (Key × D)} {ob : Obj} {n : Nat}
theorem Gr.unlockC {o1 u : HO} (m : a ∈ ι) (g : Gr ι (upd H a o1) ι' H') : Gr ι H ι' (upd H' a u) := by
  refine ⟨g.pre, fun b o e nb => ?_⟩
  have ne : b ≠ a := fun z => nb (z ▸ m)
  obtain ⟨h1, h2⟩ := g.keep b o (by rw [upd_ne ne]; exact e) nb
  exact ⟨by rw [upd_ne ne]; exact h1, h2⟩
end
section
variable {X : Cx} {W : WX} {elt tg iter : Expr} {ifs : List Expr} {scope : Scope} {own : List (Str × Nat)} {pos p : Pos} {tgf : FG} {ft : FT} {fe : FE} {x : Str}
end
/-! ### list(d.items()), d a cell -/
theorem Rep.ext {K : PySem.W.Frag} {ι : Io} {μ : Sto} {H H' : Hp} (r : Rep K ι μ H) (k : ∀ b o, H b = some o → H' b = some o) : Rep K ι μ H' ∧ Gr ι H ι H' := by
  have g : Gr ι H ι H' := ⟨fun _ _ h => h, fun a o e n => ⟨k a o e, n⟩⟩
  refine ⟨⟨r.len, r.nd, fun j b c e1 e2 => ?_⟩, g⟩
  have z := r.at_ j b c e1 e2
  cases c with
  | lst ds => obtain ⟨vs, h1, h2⟩ := z; exact ⟨vs, k _ _ h1, h2.gr g⟩
  | dct kd => obtain ⟨kv, h1, h2⟩ := z; exact ⟨kv, k _ _ h1, h2.gr g⟩
  | lck ob kv kd => exact ⟨k _ _ z.1, z.2.gr g⟩
  | ins C fd => obtain ⟨dx, fv, h1, h2⟩ := z; exact ⟨dx, fv, k _ _ h1, h2.gr g⟩
end Dl

/-! an own error's __init__ whose first statement is super().__init__(..), two classes above a built-in one -/
namespace Dl
open PySem PySem.Spec L2
open PyProof.Rows hiding St Binds

structure SupScope (N P : List Str) (sc : Scope) : Prop where
  kind : sc.kind = .function
  co : sc.isCoroutine = false
  gen : sc.isGenerator = false
  nd : N.Nodup
  pre : N.take P.length = P
  par : ∀ x ∈ P, sc.names.lookup x = some .local
  nocell : ∀ y ∈ sc.names, y.2 ≠ .cell
  free1 : ∀ y ∈ sc.names, y.2 = .free → y.1 = "__class__"
  cls : sc.names.lookup ("__class__" : Str) = some .free
  sup : sc.names.lookup ("super" : Str) = some .globalImplicit

/-- the context of such a body -/
def cxS (CX : CXT) (P : Program) (w : World) (K : PySem.W.Frag) (mg : Str → Option Value) (base : Heap) (N : List Str) (qual : Str) (scope : Scope) (f : Addr) (cd : Value) (cc : Addr) (A : Around) (outer : List Env) (s : Shared) (H : Hp) (E : XK) : Cx where
  prog := P
  w := w
  K := K
  mg := mg
  base := base
  A := A.deeper (PySem.W.ksEnv qual scope s.heap.objs.size f cd cc)
  N := N
  s_0 := s
  H_0 := H
  env := PySem.W.ksEnv qual scope s.heap.objs.size f cd cc
  outer := outer
  stack := PySem.W.ksEnv qual scope s.heap.objs.size f cd cc :: outer
  ex := []
  calm := true
  fn := fun _ => false
  pn := []
  xe := fun e s' => wpAny (model P w) (A.deeper (PySem.W.ksEnv qual scope s.heap.objs.size f cd cc)) (leaving (PySem.W.ksEnv qual scope s.heap.objs.size f cd cc) e) (fun _ s'' => CX outer H s E e s'') (fun e' s'' => CX outer H s E e' s'') s'

theorem rev_lookup : ∀ {ps : List Str} {us : List Value} {i : Nat} {x : Str} {u : Value}, ps.Nodup → ps[i]? = some x → us[i]? = some u → (ps.zip us).reverse.lookup x = some u
  | [], _, _, _, _, _, h, _ => by simp at h
  | _ :: _, [], _, _, _, _, _, h => by simp at h
  | p :: ps, w :: us, 0, x, u, nd, h1, h2 => by
    simp at h1 h2; subst h1; subst h2
    have nx : ((ps.zip us).reverse).lookup p = none := by
      rw [List.lookup_eq_none_iff]
      intro q hq
      have hm := (List.of_mem_zip (List.mem_reverse.mp hq)).1
      have : p ≠ q.1 := by rintro rfl; exact (List.nodup_cons.mp nd).1 hm
      simpa using this
    rw [List.zip_cons_cons, List.reverse_cons, List.lookup_append, nx]
    simp [List.lookup]
  | p :: ps, w :: us, i + 1, x, u, nd, h1, h2 => by
    rw [List.zip_cons_cons, List.reverse_cons, List.lookup_append, rev_lookup (i := i) (List.nodup_cons.mp nd).2 (by simpa using h1) (by simpa using h2)]
    rfl

theorem start_at {N : List Str} {vs : List V} {i : Nat} {v : V} (h : (L2.start N vs)[i]? = some (some v)) : vs[i]? = some v := by
  by_cases c : i < vs.length
  · simpa [L2.start, List.getElem?_append, c] using h
  · simp [L2.start, List.getElem?_append, c, List.getElem?_replicate] at h
theorem SupScope.ndP {N ps : List Str} {sc : Scope} (S : SupScope N ps sc) : ps.Nodup := S.pre ▸ S.nd.sublist (List.take_sublist ps.length N)
theorem SupScope.atP {N ps : List Str} {sc : Scope} (S : SupScope N ps sc) {i : Nat} {y : Str} (hi : i < ps.length) (h : N[i]? = some y) : ps[i]? = some y := by
  have z := List.getElem?_take_of_lt (l := N) hi
  rwa [S.pre, h] at z
theorem SupScope.leN {N ps : List Str} {sc : Scope} (S : SupScope N ps sc) : ps.length ≤ N.length := by
  have z : (N.take ps.length).length = ps.length := congrArg List.length S.pre
  rw [List.length_take] at z
  omega
/-- how such a body is entered: the frame has the arguments, the one cell is the class's -/
theorem inv_startS {CX : CXT} {P : Program} {w : World} {K : PySem.W.Frag} {mg : Str → Option Value} {base : Heap} {N ps : List Str} {qual : Str} {scope : Scope} {f cc : Addr} {cd : Value} {A : Around} {outer : List Env} {s : Shared} {h1 : Heap} {tk : Nat} {H : Hp} {E : XK} {us : List Value} {vs : List V}
    (S : SupScope N ps scope) (hd : A.handled = none) (e0 : Env0 P w K mg base A outer s H) (hl : vs.length = ps.length) (r : Vals vs us)
    (hcell : ∃ cl cld v csl, K.lookup cc = some ⟨cl, cld, .cell v, csl⟩)
    (ns : h1.Ns s.heap.objs.size (fun x => (ps.zip us).reverse.lookup x)) (hk : ∀ b o, s.heap.get? b = some o → h1.get? b = some o) :
    Inv (cxS CX P w K mg base N qual scope f cd cc A outer s H E) [] (L2.start N vs) H { s with heap := h1, toks := tk } := by
  obtain ⟨_, _, held, _, there⟩ := hcell
  obtain ⟨cS, cH⟩ := e0.bs _ _ (e0.mod.kin _ _ there)
  have only : ∀ y c, (cxS CX P w K mg base N qual scope f cd cc A outer s H E).env.cells.lookup y = some c → y = "__class__" ∧ c = cc := fun y c z => by
    have z : List.lookup y [(("__class__" : Str), cc)] = some c := z
    by_cases q : y = "__class__"
    · subst q
      exact ⟨rfl, by simpa [List.lookup] using z.symm⟩
    · have ne : (y == ("__class__" : Str)) = false := by simpa using q
      simp [List.lookup, ne] at z
  have ok : (cxS CX P w K mg base N qual scope f cd cc A outer s H E).Ok :=
    { mod := e0.mod, kind := S.kind, glob := rfl, blt := rfl, above := Nat.le_refl _
      inj := fun y z c a b => (only y c a).1.trans (only z c b).1.symm
      has := fun y z => by
        rcases z with z | z
        · exact (S.nocell (y, .cell) (PySem.mem_of_lookup z) rfl).elim
        · have q : y = "__class__" := S.free1 (y, .free) (PySem.mem_of_lookup z) rfl
          exact ⟨cc, by rw [q]; simp [cxS, List.lookup]⟩
      cab := fun y c z _ => Bool.noConfusion z
      hd := fun _ => hd, frames := Around.frames_deeper e0.frames, stk := Or.inr ⟨rfl, rfl⟩
      exf := fun b z => (List.not_mem_nil z).elim, bs := e0.bs, bsz := e0.bsz, noex := fun _ _ _ z => List.not_mem_nil z
      exfs := fun b z => (List.not_mem_nil z).elim, funs := e0.funs, frf := e0.frf }
  have loc : ∀ (i : Nat) (y : Str) (v : V), N[i]? = some y → (L2.start N vs)[i]? = some (some v) → ∃ u, RelV v u ∧ scope.names.lookup y = some .local ∧ (ps.zip us).reverse.lookup y = some u := fun i y v a b => by
    have hv := start_at b
    obtain ⟨u, hu, rv⟩ := r.get hv
    have hp := S.atP (hl ▸ (List.getElem?_eq_some_iff.mp hv).1) a
    exact ⟨u, rv, S.par y (List.mem_of_getElem? hp), rev_lookup S.ndP hp hu⟩
  exact { ok := ok, os := rfl, bare := e0.bare, base := Un.kept hk, hok := e0.hok.kept hk, free := e0.hok.fresh (Nat.le_refl _)
          loc := ⟨_, ns, fun i y v a b _ => let ⟨u, rv, q1, q2⟩ := loc i y v a b; ⟨u, rv, Or.inl ⟨q1, q2⟩⟩⟩
          cell := fun y c z => (only y c z).2 ▸ ⟨held, _, hk _ _ cS, rfl⟩
          freeC := fun y c z => (only y c z).2 ▸ cH
          pin := fun p z => (List.not_mem_nil (show p ∈ ([] : List (Addr × Obj)) from z)).elim
          len := by
            have le := S.leN
            simp only [L2.start, List.length_append, List.length_map, List.length_replicate]
            show _ = N.length
            omega }

/-- what the written part says of the class and of its __init__ -/
structure SupK (P : Program) (K : PySem.W.Frag) (mg : Str → Option Value) (C : Addr) (cda cc : Addr) : Prop where
  cls : OexC K C
  code : ∃ ccl cdd vs ccs file tf, K.lookup cda = some ⟨ccl, cdd, .fields vs, ccs⟩ ∧ vs[2]? = some (.str file tf) ∧ ((P.main.file : Str) == file) = true
  cell : ∃ cl cld csl, K.lookup cc = some ⟨cl, cld, .cell (some (.ref C)), csl⟩
  sub : PySem.W.mroIn K C (.ref C) = some true
  super : mg "super" = none
  top : (P.main.scope.names.lookup ("super" : Str)).isSome = false
  init : PySem.W.ks_superIn K C C "__init__" = some (some (.builtin "ValueError.__init__"))
  base : PySem.W.subIn K (.ref C) (.type "ValueError") = some true
  tp : PySem.W.nsIn K cStatics "thirdparty.any" = some none

section
variable {X : Cx} {C cda cc f q : Addr} {pins : List (Addr × Obj)} {σ : L2.St} {H : Hp} {s : Shared} {a : Addr}
/-- the wrapper is called -/
theorem sup_call {us : List Value} {Q : Value → Shared → Prop} {B : Value → Shared → Prop} (T : OexC X.K C) (I : Inv X pins σ H s) (hq : s.heap.get? q = some (PySem.W.kxs_mw "ValueError.__init__" a)) (e : H a = some (exo a C none)) (hl : us.length ≤ sizeLine) (h : ∀ s', Inv X pins σ H s' → Q .none s') :
    wpAny (model X.prog X.w) X.A (call (.ref q) us) Q B s := by
  obtain ⟨nm, qn, N, bs, bm, sn, sub, ab, col, dd, k0, k1, k2, k3, k5, hC, hbm⟩ := T.cls
  obtain ⟨t1, ho⟩ := exo_at I.hok e
  obtain ⟨hp, g, d, t, os⟩ := s
  refine wpAny_call (codeAny_of_tree ?_)
  show wpAny _ X.A.in1 (callAny (.ref q) ⟨us, []⟩) _ _ _
  simp only [callAny]
  refine wpAny_bind (wpAny_load hq ?_)
  simp only [PySem.W.kxs_mw, show (Value.type "method-wrapper" == Value.type "method" || Value.type "method-wrapper" == Value.type "builtin_function_or_method" || Value.type "method-wrapper" == Value.type "method-wrapper") = true by decide, if_true]
  refine PySem.W.KFB.if_so (by decide) ?_
  refine wpAny_bind (PySem.W.check_bound_init F.excBase_ValueError.toExcCallFacts (I.kIn _ _ hC) ho rfl ?_)
  refine wpAny_bind (wpAny_pure (wpAny_pure ?_))
  refine ⟨plainId_quiet F.excBase_ValueError.init.plain _, codeAny_builtin F.excBase_ValueError.initEntry ?_⟩
  refine PySem.W.exc_init_tree (cls := .ref C) (t0 := t1) (dv := none) (c2 := .none) (c3 := .none) (b4 := .bool false) ho hl fun h' k hx _ => ?_
  have same : upd H a (exo a C none) = H := funext fun b => by
    unfold upd
    split
    · rename_i q
      rw [q, e]
    · rfl
  exact h _ (same ▸ Inv.write I (e := a) (x := a) (t' := t) (by rw [e]; trivial) (Or.inl rfl) k ⟨_, hx⟩ (exo_ok hx))
end

section
variable {P : Program} {w : World} {K : PySem.W.Frag} {mg : Str → Option Value} {base : Heap} {CX : CXT} {k : Nat} {f C cda cc : Addr} {name qual : Str} {params : Arguments} {rest : List Stmt} {scope : Scope}
  {dV kV doc pm ct oc : Value} {an od : Option Addr} {osl : Array (Option Value)} {N ps : List Str} {sp : Sp} {e : Expr} {es : List Expr} {p0 p1 p2 p3 p4 : Pos} {ar : Arg}
/-- an error's __init__: super().__init__(e, ..), then the rest -/
theorem fn_sup (T : SupK P K mg C cda cc)
    (lk : K.lookup f = some ⟨oc, od, .func (PySem.W.ksFn name qual params (.Expr (.Call (.Attribute (.Call (.Name "super" p0) [] [] p1) "__init__" p2) (e :: es) [] p3) p4 :: rest) scope dV kV doc pm an (.ref cda) ct cc), osl⟩)
    (hcd : PySem.W.codeIn K (.ref cda) qual = true) (S : SupScope N ps scope) (har : (params.posonlyargs ++ params.args).head? = some ar) (hps : ps.head? = some ar.arg)
    (len : ∀ vs H Q E, sp vs H Q E → vs.length = ps.length)
    (hbody : ∀ (A : Around) (outer : List Env) (s : Shared) (H : Hp) (vs : List V) (Q : VK) (E : XK),
      (A.deeper (PySem.W.ksEnv qual scope s.heap.objs.size f (.ref cda) cc)).guards = some [] → Room k (A.deeper (PySem.W.ksEnv qual scope s.heap.objs.size f (.ref cda) cc)) → sp vs H Q E →
        ∃ (ta : TA) (tr : TS) (a : Addr) (ws : List V), PA (cxS CX P w K mg base N qual scope f (.ref cda) cc A outer s H E) (e :: es) ta ∧ PSs (cxS CX P w K mg base N qual scope f (.ref cda) cc A outer s H E) rest tr ∧ vs = .ref a :: ws ∧ H a = some (exo a C none) ∧
          ta (L2.start N vs) H fun us H1 => us.length ≤ 1000 ∧ H1 a = some (exo a C none) ∧ tr { nx := fun _ H' => Q .non H', rt := Q } (L2.start N vs) H1)
    {pl : Env → Sem Bool} (ht : ∀ env, eval (.Call (.Attribute (.Call (.Name "super" p0) [] [] p1) "__init__" p2) (e :: es) [] p3) env = (do
      let ov ← attributeBase (.Call (.Name "super" p0) [] [] p1) "__init__" env (eval (.Call (.Name "super" p0) [] [] p1) env)
      standAt p2.atName
      let (f, first) ← holding [ov] (getMethod ov "__init__" (pl env))
      callWith p3 f first (backTo p3 (starEach (e :: es) env)) []) := by intro; rfl)
    (hs : ∀ env, swapsWith (.Call (.Attribute (.Call (.Name "super" p0) [] [] p1) "__init__" p2) (e :: es) [] p3) none p4.line env = pure false := by intro; rfl)
    (he : ∀ env, starEach (e :: es) env = (false, eval e env) :: starEach es env := by intro; rfl) (hpl : ∀ env, (backTo p3 (starEach es env)).any (·.1) = false := by intro; rfl) :
    FnG P w K mg base CX (k + 1) f (PySem.W.ksFn name qual params (.Expr (.Call (.Attribute (.Call (.Name "super" p0) [] [] p1) "__init__" p2) (e :: es) [] p3) p4 :: rest) scope dV kV doc pm an (.ref cda) ct cc) ps sp := by
  refine ⟨len, fun A outer s H args us vs Q E hG hr e0 hb r hsp => ?_⟩
  have old : ∀ b o, base.get? b = some o → s.heap.get? b = some o := fun b o z => (e0.bs b o z).1
  have KX := e0.mod.kin.keeps old
  have lim := e0.mod.nolimit.keeps old
  obtain ⟨ccl, cdd, cvs, ccs, file, tf, hcode, hvs, hfile⟩ := T.code
  obtain ⟨cl, cld, csl, hcell⟩ := T.cell
  refine PySem.ks_codeAny_call_defAt (fd := PySem.W.ksFn name qual params (.Expr (.Call (.Attribute (.Call (.Name "super" p0) [] [] p1) "__init__" p2) (e :: es) [] p3) p4 :: rest) scope dV kV doc pm an (.ref cda) ct cc) (binds := ps.zip us) hr.depth (KX _ _ lk) rfl lim (PySem.W.codeRec_of KX hcd) rfl hb S.nocell
    (fun y hy => S.par y.1 (List.of_mem_zip (show (y.1, y.2) ∈ ps.zip us from hy)).1) (fun h1 hns hk => ?_) S.co S.gen S.kind
  obtain ⟨ta, tr, a, ws, hA, hR, ev, ea, q⟩ := hbody A outer s H vs Q E hG (hr.deeper _) hsp
  have I : Inv (cxS CX P w K mg base N qual scope f (.ref cda) cc A outer s H E) [] (L2.start N vs) H { s with heap := h1, toks := s.toks + (ps.zip us).length } :=
    inv_startS S hr.hd e0 (len _ _ _ _ hsp) r ⟨_, _, _, _, hcell⟩ hns hk
  have hus : ∃ ur, us = .ref a :: ur := by
    subst ev
    cases r with
    | @cons _ u0 _ ur ra rw' =>
      obtain rfl : u0 = Value.ref a := ra
      exact ⟨ur, rfl⟩
  obtain ⟨ur, rfl⟩ := hus
  have self : (ps.zip (Value.ref a :: ur)).reverse.lookup ar.arg = some (Value.ref a) :=
    rev_lookup (i := 0) (by rw [← S.pre]; exact S.nd.sublist (List.take_sublist _ _)) (by rw [← List.head?_eq_getElem?]; exact hps) rfl
  show _root_.PySem.wpAt (model P w) _ (.func _ (PySem.W.ksEnv qual scope s.heap.objs.size f (.ref cda) cc)) (execs _ (PySem.W.ksEnv qual scope s.heap.objs.size f (.ref cda) cc)) _ _ _
  refine PySem.ks_wpAt_execs_cons (PySem.ks_wpAt_Expr_any (PySem.ks_wpAt_MethodCall ?_ (ht _)) (by unfold interactive; show (scope.kind == ScopeKind.module && _) = false; rw [S.kind]; rfl) (hs _))
  -- super()
  obtain ⟨cdD, hD⟩ : ∃ cdD, PySem.W.clsIn K C = some cdD := by
    obtain ⟨nm, qn, N', bs, bm, sn, sub, ab, col, dd, k0, k1, k2, k3, k5, hC, hbm⟩ := T.cls.cls
    exact ⟨_, by unfold PySem.W.clsIn; rw [hC]⟩
  obtain ⟨oD, hD1, hD2⟩ : ∃ oD, h1.get? C = some oD ∧ oD.data = .cls cdD := by
    unfold PySem.W.clsIn at hD
    split at hD
    · rename_i c d cd' sl ho
      cases hD
      exact ⟨_, I.kIn _ _ ho, rfl⟩
    · cases hD
  obtain ⟨t1, ho⟩ := exo_at I.hok ea
  obtain ⟨mb, hb1, hb2⟩ := I.mod.blt
  refine PySem.ks_wpAt_super_base (env := PySem.W.ksEnv qual scope s.heap.objs.size f (.ref cda) cc) S.sup S.cls (by decide) rfl (I.kIn _ _ lk) rfl har rfl (I.kIn _ _ hcode) rfl hvs hfile T.top ?_
  refine PySem.W.ks_loadName_global S.kind S.sup (PySem.Calls.loadGlobal_builtin (env := PySem.W.ksEnv qual scope s.heap.objs.size f (.ref cda) cc) (I.mod.glob.keeps I.bk) T.super (hb1.keeps I.bk) ((hb2 "super" (by decide)).trans PyProof.Rows.Boot.«super») ⟨rfl, ?_⟩)
  refine wpAny_loadName_free S.kind S.cls rfl ⟨_, I.kIn _ _ hcell, rfl⟩ ?_
  refine wpAny_loadName_local S.kind (S.par ar.arg (List.mem_of_mem_head? hps)) hns self ?_
  refine PySem.ks_wpAny_isType_cls hD1 hD2 ⟨rfl, ?_⟩
  refine PySem.ks_wpAny_call_super hD1 hD2 ho rfl (fun c e => by cases e) (PySem.W.looks_mroIn I.kIn T.sub) (fun h2 e2 k2 => ?_)
  -- .__init__
  have I2 := I.kept (t' := s.toks + (ps.zip (Value.ref a :: ur)).length) k2
  have ho2 := k2 _ _ ho
  have hIn : PySem.W.Looks (model P w) h2 (isInstance (.ref a) (.type "ValueError")) true :=
    (show PySem.W.InstAt h2 a _ C none from ⟨ho2, rfl, rfl, trivial⟩).type.andThen (PySem.W.looks_subIn I2.kIn T.base)
  have hal : PySem.W.alongIn K "__init__" ((cdD.mro.dropWhile (· != .ref C)).drop 1) = some (some (.builtin "ValueError.__init__")) := by
    have z := T.init
    unfold PySem.W.ks_superIn at z
    rw [hD] at z
    exact z
  have haC : a ≠ C := fun z => by
    unfold PySem.W.clsIn at hD
    split at hD
    · rename_i c d cd' sl hoC
      have y := I2.kIn _ _ hoC
      rw [← z] at y
      have y2 := ho2.symm.trans y
      cases y2
    · cases hD
  refine PySem.W.kxs_getMethod PySem.W.kxs_ValueError e2 (PySem.W.looks_opaque I2.kIn T.tp) (l₀ := cdD.mro) (fun A Q E s k q => wpAny_bind ((PySem.W.looks_clsIn I2.kIn hD) A _ E s k (wpAny_pure q))) rfl I2.kIn hal hIn haC (by decide) ?_
  -- the arguments
  have keep3 : ∀ b u, h2.get? b = some u → (h2.push (PySem.W.kxs_mw "ValueError.__init__" a)).get? b = some u := fun b u e => Heap.get?_push_of_some _ e
  have hq3 : (h2.push (PySem.W.kxs_mw "ValueError.__init__" a)).get? h2.objs.size = some (PySem.W.kxs_mw "ValueError.__init__" a) := Heap.get?_push_at rfl rfl
  have I3 := I2.kept (t' := s.toks + (ps.zip (Value.ref a :: ur)).length + 1) keep3
  have hqL : h2.objs.size ≠ s.heap.objs.size := Nat.ne_of_gt I2.lt
  have I4 : Inv (cxS CX P w K mg base N qual scope f (.ref cda) cc A outer s H E) [(h2.objs.size, PySem.W.kxs_mw "ValueError.__init__" a)] (L2.start N vs) H _ :=
    ⟨I3.ok, I3.os, I3.bare, I3.base, I3.loc, I3.cell, I3.free, I3.freeC, fun p hp => (by
        have hp : p ∈ [(h2.objs.size, PySem.W.kxs_mw "ValueError.__init__" a)] := hp
        obtain rfl := List.mem_singleton.mp hp
        exact ⟨hq3, I2.hok.fresh (Nat.le_refl _), hqL, I2.nofs (Nat.le_refl _), fun v z => by cases z⟩), I3.hok, I3.len⟩
  have fin : ∀ s5 H5, Inv (cxS CX P w K mg base N qual scope f (.ref cda) cc A outer s H E) [(h2.objs.size, PySem.W.kxs_mw "ValueError.__init__" a)] (L2.start N vs) H5 s5 → Inv (cxS CX P w K mg base N qual scope f (.ref cda) cc A outer s H E) [] (L2.start N vs) H5 s5 := fun s5 H5 J =>
    ⟨J.ok, J.os, J.bare, J.base, J.loc, J.cell, J.free, J.freeC, fun p hp => absurd (show p ∈ ([] : List (Addr × Obj)) from hp) (by simp), J.hok, J.len⟩
  show wpAny (model P w) _ (callWith p3 (.ref h2.objs.size) [] (backTo p3 (starEach (e :: es) (PySem.W.ksEnv qual scope s.heap.objs.size f (.ref cda) cc))) []) _ _ _
  have hA4 := hA.run p3 _ _ _ _ _ I4 q
  have hA4 : wpAny (model P w) _ (spliced (backTo p3 (starEach (e :: es) (PySem.W.ksEnv qual scope s.heap.objs.size f (.ref cda) cc)))) _ _ _ := hA4
  rw [he] at hA4 ⊢
  refine PySem.W.kxs_callWith (i := "ValueError.__init__") (x := a) (by show (false || (backTo p3 (starEach es _)).any (·.1)) = false; rw [hpl]; rfl) (PySem.Calls.evalArgs_plain (thn hA4 fun us4 s4 ⟨vs4, H4, I5, r4, l4, e4, q4⟩ => ⟨(I5.pin (h2.objs.size, PySem.W.kxs_mw "ValueError.__init__" a) (by show _ ∈ [_]; simp)).1, ?_⟩))
  refine sup_call (X := cxS CX P w K mg base N qual scope f (.ref cda) cc A outer s H E) T.cls I5 (I5.pin (h2.objs.size, PySem.W.kxs_mw "ValueError.__init__" a) (by show _ ∈ [_]; simp)).1 e4 (by show us4.length ≤ sizeLine; rw [← r4.length, sizeLine_eq]; omega) fun s5 J => ?_
  have I6 := fin s5 _ J
  show _root_.PySem.wpAt (model P w) _ _ (execs rest (PySem.W.ksEnv qual scope s.heap.objs.size f (.ref cda) cc)) _ _ s5
  refine wpAt_of_wpAny (wpAny_mono (hR.run [] s5 _ _ _ I6 q4) (fun fl s' hs => ?_) fun e s' hs => hs)
  match fl, hs with
  | .ret u, ⟨v, _, H', J, rv, q⟩ => exact ⟨v, H', J.os, J.bare, J.base, J.hok, rv, q⟩
  | .next, ⟨_, H', J, q⟩ => exact ⟨.non, H', J.os, J.bare, J.base, J.hok, rfl, q⟩
  | .brk, ⟨_, _, _, q⟩ => exact False.elim q
  | .cont, ⟨_, _, _, q⟩ => exact False.elim q
end
end Dl

/-! an own error made, by the promise of its __init__ -/
namespace Dl
open PySem PySem.Spec L2
open PyProof.Rows hiding St Binds
section
variable {X : Cx} {pins : List (Addr × Obj)} {σ : L2.St} {H : Hp} {s : Shared} {C fI : Addr} {k : Nat} {fd : FuncData} {ps : List Str} {sp : Sp} {ta : TA} {x : Str} {e : Expr} {es : List Expr} {p pos : Pos}
/-- the heap in which an error's __init__ begins: its arguments' tuple and itself are laid -/
abbrev begun (C : Addr) (h : Heap) (us : List Value) : Heap := (h.push (PySem.W.kdv_tup us)).push (PySem.HandSPX.excO C h.objs.size)
theorem begun_inv (us : List Value) (I : Inv X pins σ H s) : Inv X pins σ (upd H (s.heap.objs.size + 1) (exo (s.heap.objs.size + 1) C none)) { s with heap := begun C s.heap us } := by
  have two : ∀ b u, s.heap.get? b = some u → (begun C s.heap us).get? b = some u := fun b u z => by
    unfold begun
    exact Heap.get?_push_of_some _ (Heap.get?_push_of_some _ z)
  have it : (begun C s.heap us).get? (s.heap.objs.size + 1) = some (PySem.HandSPX.excO C s.heap.objs.size) := by
    unfold begun
    heap_get
  exact Inv.laid I two (by omega) (exo_ok it)
/-- a class of errors is called, its __init__ keeps sp -/
theorem oex_call (hG : X.A.guards = some []) (T : OexC X.K C) (iC : PySem.W.findIn X.K (.ref C) "__init__" = some (some (.ref fI))) (tI : PySem.W.typeIn X.K (.ref fI) = some (.type "function"))
    (Fi : FnG X.prog X.w X.K X.mg X.base (L2.CX X.prog X.w) k fI fd ps sp) (room : Room (k + 1) X.A) (hb : L2.Binds X.K fd ps []) (hx : Passes (L2.CX X.prog X.w) X (fun _ _ _ => False)) (I : Inv X pins σ H s) {us : List Value} {vs : List V} (rv : Vals vs us) (few : vs.length ≤ 1000) {Q : XK}
    (h : ∀ a, H a = none → sp (.ref a :: vs) (upd H a (exo a C none)) (fun v H2 => v = .non ∧ ∃ (d : Addr) (fs : List (Str × V)), H2 a = some (exo a C (some d)) ∧ H2 d = some (exd d fs) ∧ H d = none ∧ Q (.ref C) (some d) (upd (L2.del H2 a) d (.xd fs))) (fun _ _ _ => False)) :
    wpAny (model X.prog X.w) X.A (call (.ref C) us) (MkP X pins σ Q) X.xe s := by
  have g : (X.A.under (.builtin "type.__call__" ⟨.ref C :: us, []⟩)).guards = some [] := by
    unfold Around.under
    rw [hG]
    rfl
  obtain ⟨_, _, _, _, m, _, _, _, _, _, _, _, _, _, _, at_, refs⟩ := id T.cls
  have B := begun_inv (C := C) us I
  have all : Vals (V.ref (s.heap.objs.size + 1) :: vs) (Value.ref (s.heap.objs.size + 1) :: us) := .cons rfl rv
  have says := h _ (I.hok.fresh (Nat.le_succ s.heap.objs.size))
  have many : (Value.ref (s.heap.objs.size + 1) :: us).length = ps.length := all.length.symm.trans (Fi.nargs _ _ _ _ says)
  have ran := Fi.go _ X.stack _ _ ⟨Value.ref (s.heap.objs.size + 1) :: us, []⟩ (Value.ref (s.heap.objs.size + 1) :: us) _ _ (fun _ _ _ => False) g (room.make C us []) (B.env0.make C us [])
    (by have z := hb _ (Value.ref (s.heap.objs.size + 1) :: us) B.kIn (by rw [List.append_nil]; exact many); rw [List.append_nil] at z; exact z) all says
  obtain ⟨h0, g0, d0, t0, os0⟩ := s
  refine wpAny_call (PySem.HandSPX.call_own F.excBase_ValueError (fun Y => PySem.HandSPX.refsVE_contains Y m refs) (I.kIn _ _ at_) (PySem.W.looks_findIn I.kIn iC) (fun self => PySem.W.bind_fn I.kIn self tI) (by rw [← rv.length, sizeLine_eq]; omega) (codeAny_mono ran ?_))
  rintro (err | (u | _ | _ | _)) s1 end_
  · exact hx pins σ _ _ err s1 B end_
  all_goals first | exact False.elim end_ | skip
  obtain ⟨y, H2, io, bare, un, ok2, ry, rfl, d, fs, w1, w2, w3, w4⟩ := end_
  obtain ⟨h1, g1, d1, t1, os1⟩ := s1
  exact ⟨ry, mk_end (raises_own T.exC T.tyC) I (Nat.le_succ _) (fun b u z => by unfold begun; exact Heap.get?_push_of_some _ (Heap.get?_push_of_some _ z)) un ok2 io bare w1 w2 w3 w4⟩
theorem g_oex (hG : X.A.guards = some []) (T : OexC X.K C) (iC : PySem.W.findIn X.K (.ref C) "__init__" = some (some (.ref fI))) (tI : PySem.W.typeIn X.K (.ref fI) = some (.type "function"))
    (Fi : FnG X.prog X.w X.K X.mg X.base (L2.CX X.prog X.w) k fI fd ps sp) (room : Room (k + 1) X.A) (hb : L2.Binds X.K fd ps []) (hx : Passes (L2.CX X.prog X.w) X (fun _ _ _ => False)) (hg : Gl X x) (hm : X.mg x = some (.ref C)) (ha : PA X (e :: es) ta)
    (ndb : (x == ("__debug__" : Str)) = false) (one : starEach (e :: es) X.env = (false, eval e X.env) :: starEach es X.env) (plain : (backTo pos (starEach es X.env)).any (·.1) = false) :
    PMk X (.Call (.Name x p) (e :: es) [] pos) (tMkO C sp [] ta) := fun pins s σ H Q I h =>
  wpAny_Call_Name_kw (ld_glob I hg hm (PySem.W.callWith_K (h₀ := X.base) I.mod.kin T.kC (thn (ha.run pos pins s σ H _ I h) fun us s1 hs => by
    obtain ⟨vs, H1, J, rv, few, q⟩ := hs
    exact ⟨J.kIn, oex_call hG T iC tI Fi room hb hx J rv few fun a na => by have z := q a na; rw [List.append_nil] at z; exact z⟩) one plain) ndb)
end
/-- the promise of an error's __init__: ok: what its arguments must be (their texts fit); fl: its fields -/
def spE (K : PySem.W.Frag) (C : Addr) (ok : List D → Sto → Prop) (fl : List D → List (Str × D)) : Sp := fun vs H Q E => ∃ a ws ι μ ds H0, vs = .ref a :: ws ∧ H0 a = none ∧ H = upd H0 a (exo a C none) ∧ Rep K ι μ H0 ∧ Ats K ι H0 ws ds ∧ ok ds μ ∧
  ∀ d fv, H0 d = none → d ≠ a → Pts K ι H0 fv (fl ds) → Q .non (upd (upd H0 a (exo a C (some d))) d (exd d fv))
/-- an error class under a name -/
structure Erc (P : Program) (w : World) (K : PySem.W.Frag) (mg : Str → Option Value) (base : Heap) (k : Nat) (x : Str) (C : Addr) (ok : List D → Sto → Prop) (fl : List D → List (Str × D)) : Prop where
  ex : ∃ (f : Addr) (fd : FuncData) (ps : List Str), FnG P w K mg base (L2.CX P w) k f fd ps (spE K C ok fl) ∧ OexC K C ∧ PySem.W.findIn K (.ref C) "__init__" = some (some (.ref f)) ∧ PySem.W.typeIn K (.ref f) = some (.type "function") ∧ mg x = some (.ref C) ∧ L2.Binds K fd ps []
abbrev ErcX (X : Cx) := Erc X.prog X.w X.K X.mg X.base
def fRaise (C : Addr) (ok : List D → Sto → Prop) (fl : List D → List (Str × D)) (g : FA) : FS := fun A ρ μ => g ρ μ (fun ds m => ds.length ≤ 1000 ∧ ok ds m ∧ A.ex (.ref C) (fl ds) ρ m) A.ex
section
variable {X : Cx} {W : WX} {e : Expr} {es : List Expr} {g : FA} {p pos pos2 : Pos} {k j : Nat} {x : Str} {C : Addr} {ok : List D → Sto → Prop} {fl : List D → List (Str × D)}
/-- raise C(e, ..) -/
theorem ds_raise (c : ErcX X k x C ok fl) (hc : X.calm = true) (hG : X.A.guards = some []) (hr : Room j X.A) (hk : k + 1 ≤ j) (hg : Gl X x) (tk : Takes X W) (hx : Passes (L2.CX X.prog X.w) X (fun _ _ _ => False)) (ha : DA X W (e :: es) g)
    (hdb : (x == ("__debug__" : Str)) = false := by decide) (he : starEach (e :: es) X.env = (false, eval e X.env) :: starEach es X.env := by rfl) (hpl : (backTo pos (starEach es X.env)).any (·.1) = false := by rfl) :
    DS X W (.Raise (some (.Call (.Name x p) (e :: es) [] pos)) none pos2) (fRaise C ok fl g) := by
  obtain ⟨f, fd, ps, Fg, T, iC, tI, hm, hb⟩ := c.ex
  refine ⟨fun ρ μ A B le q => ha.mono ρ μ _ _ _ _ (fun ds m ⟨z1, z2, z3⟩ => ⟨z1, z2, le.ex _ _ _ _ z3⟩) (fun c l m z => le.ex _ _ _ _ z) q, PS.imp (ps_raise hc tk (g_oex hG T iC tI Fg (hr.mono hk) hb hx hg hm ha.run hdb he hpl)) fun D σ H ⟨ι, ρ, μ, r, l, q⟩ => ?_⟩
  have q2 := ha.mono ρ μ _ _ _ (EW X.K ι H W σ) (fun ds m z => z) (fun c l' m z => (fun ι' H' dd fv g r hd p => z ι' H' dd fv σ g r hd p (l.gr g) : EW X.K ι H W σ c l' ρ m)) q
  refine chainA ha.mono r l q2 fun ds μ1 ι1 H1 vs ⟨ll, o1, w⟩ g1 r1 l1 a1 => ⟨by rw [a1.1]; exact ll, fun a na => ?_⟩
  refine ⟨a, vs, ι1, μ1, ds, H1, by simp, na, rfl, r1, a1, o1, fun d fv hd ne pt => ⟨rfl, d, fv, ?_, ?_, hd, ?_⟩⟩
  · rw [upd_ne (Ne.symm ne), upd_same]
  · rw [upd_same]
  · have e : upd (L2.del (upd (upd H1 a (exo a C (some d))) d (exd d fv)) a) d (.xd fv) = upd H1 d (.xd fv) := by
      funext b
      by_cases h1 : b = d
      · rw [h1, upd_same, upd_same]
      · rw [upd_ne h1, upd_ne h1]
        by_cases h2 : b = a
        · rw [h2, del_same, na]
        · rw [del_ne h2, upd_ne h1, upd_ne h2]
    rw [e]
    have gn := Gr.new (o := .xd fv) hd (r1.free hd)
    exact w ι1 _ d fv σ (g1.trans gn) (r1.new hd) upd_same (pt.gr gn) (l1.gr gn)
end
end Dl

/-! an own error's __init__: super().__init__(f"..{x!r}.."), self.f = x, .. -/
namespace Dl
open PySem PySem.Spec L2
open PyProof.Rows hiding St Binds

def tFmtRD (K : PySem.W.Frag) (te : TE) : TE := fun σ H Q => te σ H fun x H1 => ∃ p, Dp K H1 x p ∧ okR p ∧ Q (.str p.shown) H1
theorem pe_fmtRD {X : Cx} {e : Expr} {te : TE} {pos : Pos} (hG : X.A.guards = some []) (hu : X.A.units + 64 < cLine) (he : PE X e te) : PE X (.FormattedValue e 114 none pos) (tFmtRD X.K te) := by
  refine ⟨fun pins s σ H Q I h => wpAny_FormattedValue_repr (thn (he.run pins s σ H _ I h) fun v s1 ⟨x, H1, I1, r1, p, hd, ⟨o1, o2, o3, o4⟩, q⟩ => ?_)⟩
  obtain ⟨as, rd⟩ := Dp.reads I1 p x v hd r1
  have fin : ∀ h' t tk, (∀ b o, s1.heap.get? b = some o → h'.get? b = some o) → wpAny (model X.prog X.w) X.A (formatField (.str p.shown t) Str.empty) (EP X pins σ Q) X.xe { s1 with heap := h', toks := tk } := fun h' t tk kp =>
    wpAny_formatField_str ⟨.str p.shown, H1, I1.kept (t' := tk) kp, ⟨t, rfl⟩, q⟩ ⟨.str p.shown, H1, (I1.kept (t' := tk) kp).tok _, ⟨_, rfl⟩, q⟩ o3
  have tok := fin s1.heap s1.toks (s1.toks + 1) fun _ _ e => e
  cases hd with
  | non => cases r1; simp only [PyData.shown] at tok; exact pyReprObj_none tok
  | bl b => cases r1; simp only [PyData.shown] at tok; exact pyReprObj_bool tok
  | int i =>
    obtain ⟨t, rfl⟩ := r1
    simp only [PyData.shown] at tok
    exact pyReprObj_int (by simpa [PyData.showable] using o1) tok
  | str z =>
    obtain ⟨t, rfl⟩ := r1
    simp only [PyData.shown] at tok o3
    exact pyReprObj_str tok o3
  | lst h1 h2 => cases r1; exact pyReprObj_of_reads rd o1 (PyData.noDict_hsm o2) hG (by omega) (fun _ _ e => e) fin o3
  | tup h1 h2 => cases r1; exact pyReprObj_of_reads rd o1 (PyData.noDict_hsm o2) hG (by omega) (fun _ _ e => e) fin o3

/-- a part of the message -/
inductive Pt where
  | txt (z : Str) | arg (i : Nat)
def tPt (K : PySem.W.Frag) : Pt → TE
  | .txt z => tC (.str z)
  | .arg i => tFmtRD K (tVar (i + 1))
/-- the message fits -/
def okJ (ds : List D) (μ : Sto) : List Pt → Str → Prop
  | [], _ => True
  | .txt z :: r, acc => (acc ++ z).length ≤ sizeLine ∧ okJ ds μ r (acc ++ z)
  | .arg i :: r, acc => ∃ d p, ds[i]? = some d ∧ pyS μ d = some p ∧ okR p ∧ (acc ++ p.shown).length ≤ sizeLine ∧ okJ ds μ r (acc ++ p.shown)
theorem sem_j {K : PySem.W.Frag} {ι : Io} {μ : Sto} {H : Hp} {ds : List D} {σ : L2.St} (r : Rep K ι μ H) (vs : ∀ (i : Nat) (d : D), ds[i]? = some d → ∃ v, σ[i + 1]? = some (some v) ∧ At K ι H v d) {Q : Str → Hp → Prop} (q : ∀ out, Q out H) :
    ∀ (l : List Pt) (acc : Str), okJ ds μ l acc → tJs (l.map (tPt K)) acc σ H Q
  | [], acc, _ => q acc
  | .txt z :: l, acc, ⟨h1, h2⟩ => ⟨z, rfl, h1, sem_j r vs q l _ h2⟩
  | .arg i :: l, acc, ⟨d, p, e1, e2, o, h1, h2⟩ => by
    obtain ⟨v, hv, a⟩ := vs i d e1
    exact ⟨v, hv, p, dpS_of r a e2, o, p.shown, rfl, h1, sem_j r vs q l _ h2⟩

/-- self.f = x, .. -/
def tFl (K : PySem.W.Frag) : List (Str × Nat) → TS
  | [] => tNext
  | (f, i) :: r => tSeq (tOst K f (tVar 0) (tVar (i + 1))) (tFl K r)
def putF {α : Type} (g : Nat → α) (fx : List (Str × Nat)) (l : List (Str × α)) : List (Str × α) := fx.foldl (fun l p => (p.1, g p.2) :: l) l
theorem upd_upd {H : Hp} {d : Addr} {x y : HO} : upd (upd H d x) d y = upd H d y := by
  funext b
  by_cases h : b = d
  · rw [h, upd_same, upd_same]
  · rw [upd_ne h, upd_ne h, upd_ne h]
theorem upd_swap {H : Hp} {d a : Addr} {x y : HO} (n : d ≠ a) : upd (upd H d x) a y = upd (upd H a y) d x := by
  funext b
  by_cases h : b = d
  · rw [h, upd_ne n, upd_same, upd_same]
  · by_cases h2 : b = a
    · rw [h2, upd_same, upd_ne (Ne.symm n), upd_same]
    · rw [upd_ne h2, upd_ne h, upd_ne h, upd_ne h2]
theorem sem_fl {K : PySem.W.Frag} {C a d : Addr} {σ : L2.St} {H0 : Hp} {g : Nat → V} (T : OexC K C) (h0 : σ[0]? = some (some (.ref a))) (n : d ≠ a) {De : Ends} :
    ∀ (fx : List (Str × Nat)) (fv : List (Str × V)), (∀ p ∈ fx, PySem.W.findIn K (.ref C) p.1 = some none ∧ σ[p.2 + 1]? = some (some (g p.2))) → fv.length + fx.length ≤ 900 →
      De.nx σ (upd (upd H0 a (exo a C (some d))) d (exd d (putF g fx fv))) → tFl K fx De σ (upd (upd H0 a (exo a C (some d))) d (exd d fv))
  | [], fv, _, _, q => q
  | (f, i) :: fx, fv, h, l, q => by
    obtain ⟨e1, e2⟩ := h (f, i) List.mem_cons_self
    simp only [List.length_cons] at l
    refine ⟨g i, e2, .ref a, h0, a, C, rfl, T, e1, .inr ⟨d, fv, by rw [upd_ne (Ne.symm n), upd_same], upd_same, by omega, ?_⟩⟩
    rw [upd_upd]
    exact sem_fl T h0 n fx ((f, g i) :: fv) (fun p hp => h p (List.mem_cons_of_mem _ hp)) (by simp only [List.length_cons]; omega) q
theorem sem_fl0 {K : PySem.W.Frag} {C a : Addr} {σ : L2.St} {H0 : Hp} {g : Nat → V} (T : OexC K C) (h0 : σ[0]? = some (some (.ref a))) {De : Ends} (fx : List (Str × Nat)) (ne : fx ≠ [])
    (h : ∀ p ∈ fx, PySem.W.findIn K (.ref C) p.1 = some none ∧ σ[p.2 + 1]? = some (some (g p.2))) (l : fx.length ≤ 900)
    (q : ∀ d, upd H0 a (exo a C none) d = none → d ≠ a → De.nx σ (upd (upd H0 a (exo a C (some d))) d (exd d (putF g fx [])))) : tFl K fx De σ (upd H0 a (exo a C none)) := by
  cases fx with
  | nil => exact absurd rfl ne
  | cons p fx =>
    obtain ⟨f, i⟩ := p
    obtain ⟨e1, e2⟩ := h (f, i) List.mem_cons_self
    simp only [List.length_cons] at l
    refine ⟨g i, e2, .ref a, h0, a, C, rfl, T, e1, .inl ⟨upd_same, fun d hd n => ?_⟩⟩
    rw [upd_swap n, upd_upd]
    exact sem_fl T h0 n fx [(f, g i)] (fun p hp => h p (List.mem_cons_of_mem _ hp)) (by simp only [List.length_cons, List.length_nil]; omega) (q d hd n)
theorem putF_pts {K : PySem.W.Frag} {ι : Io} {H : Hp} {g : Nat → V} {g' : Nat → D} : ∀ (fx : List (Str × Nat)) (fv : List (Str × V)) (fd : List (Str × D)), (∀ p ∈ fx, At K ι H (g p.2) (g' p.2)) → Pts K ι H fv fd → Pts K ι H (putF g fx fv) (putF g' fx fd)
  | [], _, _, _, p => p
  | (f, i) :: fx, fv, fd, h, p => putF_pts fx _ _ (fun q hq => h q (List.mem_cons_of_mem _ hq)) (Pts.cons (h (f, i) List.mem_cons_self) p)

section
variable {P : Program} {w : World} {K : PySem.W.Frag} {mg : Str → Option Value} {base : Heap} {k : Nat} {f C cda cc : Addr} {name qual : Str} {params : Arguments} {rest : List Stmt} {scope : Scope}
  {dV kV doc pm ct oc : Value} {an od : Option Addr} {osl : Array (Option Value)} {N ps : List Str} {v1 v2 : Expr} {vr : List Expr} {p0 p1 p2 p3 p4 jp : Pos} {ar : Arg}
/-- what an error is made of: n arguments, the parts of its message -/
def okX (n : Nat) (parts : List Pt) : List D → Sto → Prop := fun ds μ => ds.length = n ∧ okJ ds μ parts Str.empty
def flX (fx : List (Str × Nat)) : List D → List (Str × D) := fun ds => putF (fun i => (ds[i]?).getD .non) fx []
theorem erc_mk (n : Nat) (parts : List Pt) (fx : List (Str × Nat)) (T : SupK P K mg C cda cc)
    (lk : K.lookup f = some ⟨oc, od, .func (PySem.W.ksFn name qual params (.Expr (.Call (.Attribute (.Call (.Name "super" p0) [] [] p1) "__init__" p2) [.JoinedStr (v1 :: v2 :: vr) jp] [] p3) p4 :: rest) scope dV kV doc pm an (.ref cda) ct cc), osl⟩)
    (hcd : PySem.W.codeIn K (.ref cda) qual = true) (S : SupScope N ps scope) (har : (params.posonlyargs ++ params.args).head? = some ar) (hps : ps.head? = some ar.arg)
    {pl : Env → Sem Bool} (ht : ∀ env, eval (.Call (.Attribute (.Call (.Name "super" p0) [] [] p1) "__init__" p2) [.JoinedStr (v1 :: v2 :: vr) jp] [] p3) env = (do
      let ov ← attributeBase (.Call (.Name "super" p0) [] [] p1) "__init__" env (eval (.Call (.Name "super" p0) [] [] p1) env)
      standAt p2.atName
      let (f, first) ← holding [ov] (getMethod ov "__init__" (pl env))
      callWith p3 f first (backTo p3 (starEach [.JoinedStr (v1 :: v2 :: vr) jp] env)) []))
    (hs : ∀ env, swapsWith (.Call (.Attribute (.Call (.Name "super" p0) [] [] p1) "__init__" p2) [.JoinedStr (v1 :: v2 :: vr) jp] [] p3) none p4.line env = pure false)
    (hn : ps.length = n + 1) (ne : fx ≠ []) (hfx : ∀ p ∈ fx, PySem.W.findIn K (.ref C) p.1 = some none ∧ p.2 < n) (hl : fx.length ≤ 900)
    (hj : ∀ (A : Around) (outer : List Env) (s : Shared) (H : Hp) (E : XK), (A.deeper (PySem.W.ksEnv qual scope s.heap.objs.size f (.ref cda) cc)).guards = some [] → Room k (A.deeper (PySem.W.ksEnv qual scope s.heap.objs.size f (.ref cda) cc)) →
      PJ (cxS (L2.CX P w) P w K mg base N qual scope f (.ref cda) cc A outer s H E) (v1 :: v2 :: vr) (parts.map (tPt K)) ∧ PSs (cxS (L2.CX P w) P w K mg base N qual scope f (.ref cda) cc A outer s H E) rest (tFl K fx)) :
    FnG P w K mg base (L2.CX P w) (k + 1) f (PySem.W.ksFn name qual params (.Expr (.Call (.Attribute (.Call (.Name "super" p0) [] [] p1) "__init__" p2) [.JoinedStr (v1 :: v2 :: vr) jp] [] p3) p4 :: rest) scope dV kV doc pm an (.ref cda) ct cc) ps (spE K C (okX n parts) (flX fx)) := by
  refine fn_sup T lk hcd S har hps (fun vs H Q E ⟨a, ws, ι, μ, ds, H0, e1, e2, e3, r, at_, ⟨o1, o2⟩, q⟩ => by rw [e1, List.length_cons, at_.1, o1, hn]) ?_ ht hs
  · intro A outer s H vs Q E hG hr ⟨a, ws, ι, μ, ds, H0, e1, e2, e3, r, at_, ⟨o1, o2⟩, q⟩
    subst e1 e3
    obtain ⟨h1, h2⟩ := hj A outer s (upd H0 a (exo a C none)) E hG hr
    have r1 := r.new (o := exo a C none) e2
    have g1 := Gr.new (o := exo a C none) e2 (r.free e2)
    have hN : ps.length ≤ N.length := by have := congrArg List.length S.pre; rw [List.length_take] at this; omega
    have get : ∀ (i : Nat) (v : V), ws[i]? = some v → (L2.start N (.ref a :: ws))[i + 1]? = some (some v) := fun i v h => by
      unfold L2.start
      have hi := (List.getElem?_eq_some_iff.mp h).1
      rw [List.getElem?_append_left (by simp; omega), List.getElem?_map, List.getElem?_cons_succ, h]
      rfl
    have self : (L2.start N (.ref a :: ws))[0]? = some (some (.ref a)) := rfl
    refine ⟨_, _, a, ws, pa_cons (pe_joined h1) pa_nil, h2, rfl, upd_same, ?_⟩
    refine sem_j (ds := ds) r1 (fun i d e => ?_) (fun out => ⟨by show 1 ≤ 1000; omega, upd_same, ?_⟩) parts Str.empty o2
    · obtain ⟨v, hv, a1⟩ := at_.get e
      exact ⟨v, get i v hv, a1.gr g1⟩
    · refine sem_fl0 (g := fun i => (ws[i]?).getD .non) T.cls self fx ne (fun p hp => ⟨(hfx p hp).1, ?_⟩) hl fun d hd nd => ?_
      · have hi : p.2 < ws.length := by rw [at_.1, o1]; exact (hfx p hp).2
        rw [List.getElem?_eq_getElem hi]
        exact get _ _ (List.getElem?_eq_getElem hi)
      · refine q d _ (by rw [upd_ne nd] at hd; exact hd) nd (putF_pts fx [] [] (fun p hp => ?_) Pts.nil)
        have hi : p.2 < ws.length := by rw [at_.1, o1]; exact (hfx p hp).2
        have hi2 : p.2 < ds.length := by rw [o1]; exact (hfx p hp).2
        rw [List.getElem?_eq_getElem hi, List.getElem?_eq_getElem hi2]
        exact at_.2 _ _ _ (List.getElem?_eq_getElem hi) (List.getElem?_eq_getElem hi2)
end
end Dl

/-! try: .. except C as e: return (word, e.f, ..) -/
namespace Dl
open PySem PySem.Spec L2
open PyProof.Rows hiding St Binds

def tXfs (a : Addr) (cls : Value) (d : Option Addr) (C : Addr) (i : Nat) : List Str → TA
  | [] => tNil
  | f :: r => tCons (tXf a cls d C f (tVar i)) (tXfs a cls d C i r)
end Dl

namespace Dl
open PySem PySem.Spec L2
open PyProof.Rows hiding St Binds
/-! ### static methods, read off the class -/
structure SMet (K : PySem.W.Frag) (C : Addr) (m : Str) (g : Addr) : Prop where
  ex : ∃ mc p rest, PySem.W.typeIn K (.ref C) = some mc ∧ PySem.W.readsIn K C mc = true ∧
    PySem.W.findCls K (.ref C) mc m = some (.get (.builtin "staticmethod.__get__") (.ref p) .none (.ref C)) ∧ PySem.W.recIn K p "staticmethod" = some (.ref g :: rest)
  ga : PySem.W.specialIn K (.ref C) "__getattribute__" = some (some (.builtin "type.__getattribute__"))
  hd : PySem.W.handedIn (.ref g) = true
  kp : PySem.W.keepIn K (.ref g) = true
section
variable {X : Cx} {CX : CXT} {k j : Nat} {f C : Addr} {fd : FuncData} {ps : List Str} {sp : Sp} {dvs : List V} {ds : List Value} {EE : L2.St → XK} {x m : Str} {p pos apos : Pos} {e : Expr} {es : List Expr} {t : TA}
variable {pins : List (Addr × Obj)} {σ : L2.St} {H : Hp} {s : Shared}
theorem getstat_ok {A : Around} {E : Value → Shared → Prop} {pl : Sem Bool} {Q : Value × List Value → Shared → Prop} (I : Inv X pins σ H s) (c : SMet X.K C m f)
    (h : ∀ s', Inv X pins σ H s' → Q (.ref f, []) s') : wpAny (model X.prog X.w) A (getMethod (.ref C) m pl) Q E s := by
  obtain ⟨mc, p, rest, ty, rd, fc, rc⟩ := c.ex
  obtain ⟨ml, fr⟩ := I.fr
  unfold getMethod
  refine wpAny_bind (PySem.W.looks_specialIn I.kIn c.ga A _ E s (fun _ _ e => e) ?_)
  refine wpAny_bind ?_
  refine PySem.W.cls_sm fr I.ok.mod.kin ty rd fc rc c.hd ?_
  exact wpAny_pure (h _ (I.kept (t' := s.toks + 1) fun _ _ e => e))
theorem ge_stat {pl : Sem Bool} (hG : X.A.guards = some []) (hg : Gl X x) (hm : X.mg x = some (.ref C)) (c : SMet X.K C m f) (F : FnG X.prog X.w X.K X.mg X.base CX k f fd ps sp)
    (hr : Room k X.A) (hb : Binds X.K fd ps ds) (hd : Vals dvs ds) (hx : ∀ σ, PassesAt CX X σ (EE σ)) (ha : PA X (e :: es) t) (hdb : (x == ("__debug__" : Str)) = false := by decide)
    (hst : starEach (e :: es) X.env = (false, eval e X.env) :: starEach es X.env := by rfl) (hpl : (backTo pos (starEach es X.env)).any (·.1) = false := by rfl)
    (ht : eval (.Call (.Attribute (.Name x p) m apos) (e :: es) [] pos) X.env = (eval (.Name x p) X.env >>= fun ov => standAt apos.atName >>= fun _ =>
      holding [ov] (getMethod ov m pl) >>= fun fm => callWith pos fm.1 fm.2 (backTo pos (starEach (e :: es) X.env)) (backToKw pos (keywordEach [] X.env))) := by rfl) :
    PE X (.Call (.Attribute (.Name x p) m apos) (e :: es) [] pos) (gCall sp dvs EE t) :=
  ⟨fun pins s σ H Q I h => PySem.W.methodCall_KW (pl := pl) (thn ((pe_glob (v := .ref C) (pos := p) hg hm rfl hdb).run pins s σ H (fun v H1 => v = .ref C ∧ H1 = H) I ⟨rfl, rfl⟩) fun u s1 ⟨v, H1, I1, rx, ev, eH⟩ => by
    subst ev
    subst eH
    cases rx
    exact getstat_ok I1 c fun s2 I2 => PySem.W.callWith_K (h₀ := X.base) I2.ok.mod.kin c.kp
      (thn (ha.run pos pins s2 σ _ _ I2 h) fun us s3 ⟨vs, H2, I3, r, q2⟩ => ⟨I3.kIn, g_run hG F hr hb hd (hx _) I3 r q2⟩) hst hpl) ht⟩
theorem ge_stat0 {pl : Sem Bool} (hG : X.A.guards = some []) (hg : Gl X x) (hm : X.mg x = some (.ref C)) (c : SMet X.K C m f) (F : FnG X.prog X.w X.K X.mg X.base CX k f fd ps sp)
    (hr : Room k X.A) (hb : Binds X.K fd ps ds) (hd : Vals dvs ds) (hx : ∀ σ, PassesAt CX X σ (EE σ)) (hdb : (x == ("__debug__" : Str)) = false := by decide)
    (ht : eval (.Call (.Attribute (.Name x p) m apos) [] [] pos) X.env = (eval (.Name x p) X.env >>= fun ov => standAt apos.atName >>= fun _ =>
      holding [ov] (getMethod ov m pl) >>= fun fm => callWith pos fm.1 fm.2 (backTo pos (starEach [] X.env)) (backToKw pos (keywordEach [] X.env))) := by rfl) :
    PE X (.Call (.Attribute (.Name x p) m apos) [] [] pos) (gCall sp dvs EE tNil) :=
  ⟨fun pins s σ H Q I h => PySem.W.methodCall_KW (pl := pl) (thn ((pe_glob (v := .ref C) (pos := p) hg hm rfl hdb).run pins s σ H (fun v H1 => v = .ref C ∧ H1 = H) I ⟨rfl, rfl⟩) fun u s1 ⟨v, H1, I1, rx, ev, eH⟩ => by
    subst ev
    subst eH
    cases rx
    exact getstat_ok I1 c fun s2 I2 => PySem.W.callWith_K0 I2.kIn c.kp (g_run (us := []) hG F hr hb hd (hx _) I2 .nil h)) ht⟩
end

theorem smet_mk {K : PySem.W.Frag} {C g p : Addr} {m : Str} {pd : Option Addr} {pv : Array Value} {psl : Array (Option Value)} {rest : List Value} (st : PySem.W.typeIn K (.ref C) = some (.type "type")) (sr : PySem.W.readsIn K C (.type "type") = true) (sg : PySem.W.specialIn K (.ref C) "__getattribute__" = some (some (.builtin "type.__getattribute__")))
    (ga : PySem.W.findIn K (.type "type") m = some none) (gi : PySem.W.findIn K (.ref C) m = some (some (.ref p))) (gt : PySem.W.typeIn K (.ref p) = some (.type "staticmethod")) (gs : PySem.W.specialIn K (.ref p) "__get__" = some (some (.builtin "staticmethod.__get__")))
    (gp : K.lookup p = some ⟨.type "staticmethod", pd, .fields pv, psl⟩) (gv : pv.toList = .ref g :: rest) (gk : PySem.W.keepIn K (.ref g) = true) : SMet K C m g := by
  refine ⟨⟨_, p, rest, st, sr, ?_, ?_⟩, sg, rfl, gk⟩
  · unfold PySem.W.findCls
    rw [ga, gi]
    show ((PySem.W.typeIn K (.ref p)).bind fun ta => if PySem.W.bareKinds.contains ta = true then some (PySem.W.CFound.val (.ref p)) else (PySem.W.specialIn K (.ref p) "__get__").bind fun x => match x with
      | some g => some (PySem.W.CFound.get g (.ref p) .none (.ref C))
      | none => if PySem.W.handedIn (.ref p) = true then some (PySem.W.CFound.val (.ref p)) else none) = _
    rw [gt, gs]
    rfl
  · unfold PySem.W.recIn
    rw [gp]
    show (if (("staticmethod" : String) == "staticmethod") = true then some pv.toList else none) = _
    rw [if_pos (by decide), gv]
/-- a static method of a class -/
structure Sta (P : Program) (w : World) (K : PySem.W.Frag) (mg : Str → Option Value) (base : Heap) (k : Nat) (C : Addr) (m : Str) (F : FD) (dds : List D) : Prop where
  mono : MonF F
  ex : ∃ (f : Addr) (fd : FuncData) (ps : List Str) (dvs : List V) (ds : List Value), FnG P w K mg base (L2.CX P w) k f fd ps (spD K F) ∧ SMet K C m f ∧
    L2.Binds K fd ps ds ∧ Vals dvs ds ∧ ∀ ι H, Ats K ι H dvs dds
abbrev StaX (X : Cx) := Sta X.prog X.w X.K X.mg X.base
section
variable {X : Cx} {W : WX} {a b c e o fe : Expr} {es : List Expr} {fa fb fc f fo : FE} {fl : FA} {pos p apos : Pos} {K : PySem.W.Frag} {ι : Io} {H : Hp} {σ : L2.St} {ρ : Rho} {μ : Sto} {x m fn : Str} {F : FD} {dds : List D} {j k : Nat} {C : Addr}
theorem de_stat {pl : Sem Bool} (c : StaX X k C m F dds) (hm : X.mg x = some (.ref C)) (hG : X.A.guards = some []) (hr : Room j X.A) (hk : k ≤ j) (hg : Gl X x) (tk : Takes X W) (ha : DA X W (e :: es) fl)
    (hdb : (x == ("__debug__" : Str)) = false := by decide) (hst : starEach (e :: es) X.env = (false, eval e X.env) :: starEach es X.env := by rfl) (hpl : (backTo pos (starEach es X.env)).any (·.1) = false := by rfl)
    (ht : eval (.Call (.Attribute (.Name x p) m apos) (e :: es) [] pos) X.env = (eval (.Name x p) X.env >>= fun ov => standAt apos.atName >>= fun _ =>
      holding [ov] (getMethod ov m pl) >>= fun fm => callWith pos fm.1 fm.2 (backTo pos (starEach (e :: es) X.env)) (backToKw pos (keywordEach [] X.env))) := by rfl) :
    DE X W (.Call (.Attribute (.Name x p) m apos) (e :: es) [] pos) (fCall F dds fl) := by
  obtain ⟨f, fd, ps, dvs, ds, Fg, hM, hb, hv, hd⟩ := c.ex
  exact ⟨mCall c.mono ha.mono, PE.imp (ge_stat hG hg hm hM Fg (hr.mono hk) hb hv (passAt tk) ha.run hdb hst hpl ht) fun σ H Q h => rdCall c.mono ha.mono hd h⟩
theorem de_stat0 {pl : Sem Bool} (c : StaX X k C m F dds) (hm : X.mg x = some (.ref C)) (hG : X.A.guards = some []) (hr : Room j X.A) (hk : k ≤ j) (hg : Gl X x) (tk : Takes X W)
    (hdb : (x == ("__debug__" : Str)) = false := by decide)
    (ht : eval (.Call (.Attribute (.Name x p) m apos) [] [] pos) X.env = (eval (.Name x p) X.env >>= fun ov => standAt apos.atName >>= fun _ =>
      holding [ov] (getMethod ov m pl) >>= fun fm => callWith pos fm.1 fm.2 (backTo pos (starEach [] X.env)) (backToKw pos (keywordEach [] X.env))) := by rfl) :
    DE X W (.Call (.Attribute (.Name x p) m apos) [] [] pos) (fCall F dds fNil) := by
  obtain ⟨f, fd, ps, dvs, ds, Fg, hM, hb, hv, hd⟩ := c.ex
  refine ⟨mCall c.mono mNil, PE.imp (ge_stat0 hG hg hm hM Fg (hr.mono hk) hb hv (passAt tk) hdb ht) fun σ H Q h => ?_⟩
  obtain ⟨ι, ρ, μ, rp, l, q⟩ := h
  exact ⟨ι, μ, [] ++ dds, rp, Ats.app Ats.nil (hd ι H), q⟩
end
section
variable {P : Program} {w : World} {K : PySem.W.Frag} {mg : Str → Option Value} {base : Heap} {k : Nat} {f C : Addr} {fd : FuncData} {x qual : Str} {st : Stmt} {N ps : List Str} {F : FD} {fs : FS}
theorem sta_fun (Fu : FunA K x qual st f fd) (S : FnScope N ps (defScope st)) (M : SMet K C x f) (hb : L2.Binds K fd ps []) (mono : MonF F) (len : ∀ ds μ Q E, F ds μ Q E → ds.length = ps.length)
    (body : ∀ (cdv : Value) (A : Around) (outer : List Env) (s : Shared) (H : Hp) (E : XK), (A.deeper (envOfC qual (defScope st) s.heap.objs.size f cdv)).guards = some [] → Room k (A.deeper (envOfC qual (defScope st) s.heap.objs.size f cdv)) →
      DB (cxOf (L2.CX P w) P w K mg base N qual (defScope st) f cdv A outer s H E) (fun c d _ H' => E c d H') (defBody st) fs)
    (sem : ∀ ds μ Q E, F ds μ Q E → fs (endK μ.length Q E) (startD N.length ds) μ) : Sta P w K mg base (k + 1) C x F [] :=
  ⟨mono, f, fd, ps, [], [], fn_body Fu S len body sem, M, hb, .nil, fun _ _ => Ats.nil⟩
end
/-! ### an instance is called -/
section
variable {X : Cx} {CX : CXT} {k j : Nat} {f C : Addr} {fd : FuncData} {ps : List Str} {sp : Sp} {dvs : List V} {ds : List Value} {EE : L2.St → XK} {x m : Str} {p pos apos : Pos} {e fe : Expr} {es : List Expr} {tf : TE} {t : TA} {E : XK}
variable {pins : List (Addr × Obj)} {σ : L2.St} {H : Hp} {s : Shared} {Q : VK} {us : List Value} {vs : List V} {a : Addr}
end
section
variable {X : Cx} {W : WX} {a b c e o fe : Expr} {es : List Expr} {fa fb fc f fo : FE} {fl : FA} {pos p apos : Pos} {K : PySem.W.Frag} {ι : Io} {H : Hp} {σ : L2.St} {ρ : Rho} {μ : Sto} {x m fn : Str} {F : FD} {dds : List D} {j k : Nat} {C : Addr}
end
/-! ### what is never come to -/
section
variable {X : Cx} {W : WX}
end
end Dl

/-! the small head: what the top has left, read off in one run of the kernel -/
namespace Dl
open PySem PySem.Spec L2
open PyProof.Rows hiding St Binds

/-! ### the part of the heap that is looked at -/
/-- what hangs on an object: a class's names and bases, a function's code, defaults and cells, a static method's function -/
def hangs (o : Obj) : List Addr := match o.data with
  | .cls cd => cd.ns :: (cd.mro.drop 1).flatMap He.refV
  | .seq its _ => its.toList.flatMap He.refV
  | .dict es _ => es.toList.flatMap fun e => He.refV e.val
  | .func fd => He.refV fd.code ++ (He.refV fd.defaults ++ fd.closure.map fun q => q.2)
  | .fields vs => bif decide (o.cls = .type "staticmethod") then vs.toList.flatMap He.refV else []
  | _ => []
/-- some objects and what hangs on them, n steps down -/
def below (g : Addr → Option Obj) : Nat → List Addr → List Addr
  | 0, as => as
  | n + 1, as => as ++ below g n (as.flatMap fun a => match g a with
    | some o => hangs o
    | none => [])
def partOf (g : Addr → Option Obj) : PySem.W.Frag := He.frG g (cStatics :: below g 5 [mainGlobals])

/-! ### functions -/
/-- where a function stands, what it is called, its def in the text; its cells and its defaults -/
structure Fd where
  loc : PySem.W.Frag → Addr
  x : Str
  q : Str
  st : Stmt
  cl : PySem.W.Frag → List (Str × Addr)
  dv : PySem.W.Frag → Value
abbrev FdT : Type := Str × Str × Arguments × FuncBody × Scope
def Fd.text (d : Fd) : FdT := (d.x, d.q, defArgs d.st, .stmts (defBody d.st), defScope d.st)
def fdAt (K : PySem.W.Frag) (a : Addr) : Option FuncData := match K.lookup a with
  | some ⟨_, _, .func fd, _⟩ => some fd
  | _ => none
def fdText (fd : FuncData) : FdT := (fd.name, fd.qualname, fd.params, fd.body, fd.scope)
def Fd.seen (K : PySem.W.Frag) (d : Fd) : Option FdT := (fdAt K (d.loc K)).map fdText
def fdRest (K : PySem.W.Frag) (d : Fd) (fd : FuncData) : Bool :=
  decide (fd.globals = mainGlobals) && (decide (fd.builtins = builtinsNs) && (decide (fd.closure = d.cl K) && (decide (fd.defaults = d.dv K) && PySem.W.codeIn K fd.code d.q)))
def Fd.rest (K : PySem.W.Frag) (d : Fd) : Bool := match fdAt K (d.loc K) with
  | some fd => fdRest K d fd
  | none => false
theorem fdAt_lk {K : PySem.W.Frag} {a : Addr} {fd : FuncData} (h : fdAt K a = some fd) : ∃ oc od sl, K.lookup a = some ⟨oc, od, .func fd, sl⟩ := by
  unfold fdAt at h
  split at h
  · rename_i oc od fd' sl e
    rw [Option.some.inj h] at e
    exact ⟨oc, od, sl, e⟩
  · cases h
theorem Fd.at_ {K : PySem.W.Frag} {d : Fd} (h1 : d.seen K = some d.text) (h2 : d.rest K = true) :
    ∃ fd, fdAt K (d.loc K) = some fd ∧ fdText fd = d.text ∧ fdRest K d fd = true := by
  unfold Fd.rest at h2
  unfold Fd.seen at h1
  cases e : fdAt K (d.loc K) with
  | none => rw [e] at h1; cases h1
  | some fd =>
    rw [e] at h1 h2
    exact ⟨fd, rfl, Option.some.inj h1, h2⟩
/-- a function without cells -/
theorem Fd.plain {K : PySem.W.Frag} {d : Fd} (h1 : d.seen K = some d.text) (h2 : d.rest K = true) (hc : d.cl K = []) :
    ∃ oc od sl kV dc pm an cd ct, K.lookup (d.loc K) = some ⟨oc, od, .func (PySem.W.fnOf d.x d.q (defArgs d.st) (defBody d.st) (defScope d.st) (d.dv K) kV dc pm an cd ct), sl⟩ ∧ PySem.W.codeIn K cd d.q = true := by
  obtain ⟨fd, e, t, r⟩ := Fd.at_ h1 h2
  obtain ⟨oc, od, sl, lk⟩ := fdAt_lk e
  obtain ⟨n1, n2, n3, n4, n5, n6, n7, n8, n9, n10, n11, n12, n13, n14, n15⟩ := fd
  simp only [fdText, Fd.text, Prod.mk.injEq] at t
  simp only [fdRest, Bool.and_eq_true, decide_eq_true_eq, hc] at r
  obtain ⟨rfl, rfl, rfl, rfl, rfl⟩ := t
  obtain ⟨rfl, rfl, rfl, rfl, c⟩ := r
  exact ⟨oc, od, sl, n9, n10, n11, n12, n13, n14, lk, c⟩
/-- a function with the class's cell -/
theorem Fd.celled {K : PySem.W.Frag} {d : Fd} {cc : Addr} (h1 : d.seen K = some d.text) (h2 : d.rest K = true) (hc : d.cl K = [(("__class__" : Str), cc)]) :
    ∃ oc od sl kV dc pm an cd ct, fdAt K (d.loc K) = some (PySem.W.ksFn d.x d.q (defArgs d.st) (defBody d.st) (defScope d.st) (d.dv K) kV dc pm an cd ct cc) ∧ K.lookup (d.loc K) = some ⟨oc, od, .func (PySem.W.ksFn d.x d.q (defArgs d.st) (defBody d.st) (defScope d.st) (d.dv K) kV dc pm an cd ct cc), sl⟩ ∧ PySem.W.codeIn K cd d.q = true := by
  obtain ⟨fd, e, t, r⟩ := Fd.at_ h1 h2
  obtain ⟨oc, od, sl, lk⟩ := fdAt_lk e
  obtain ⟨n1, n2, n3, n4, n5, n6, n7, n8, n9, n10, n11, n12, n13, n14, n15⟩ := fd
  simp only [fdText, Fd.text, Prod.mk.injEq] at t
  simp only [fdRest, Bool.and_eq_true, decide_eq_true_eq, hc] at r
  obtain ⟨rfl, rfl, rfl, rfl, rfl⟩ := t
  obtain ⟨rfl, rfl, rfl, rfl, c⟩ := r
  exact ⟨oc, od, sl, n9, n10, n11, n12, n13, n14, e, lk, c⟩

/-! ### paths -/
/-- the module's name x, if it is an object -/
abbrev gA (x : Str) (K : PySem.W.Frag) : Addr := He.ga K x
/-- the class C's attribute m, if it is an object -/
abbrev mA (C m : Str) (K : PySem.W.Frag) : Addr := He.ma K (He.ga K C) m
/-- the function of a static method -/
def sA (C m : Str) (K : PySem.W.Frag) : Addr := match K.lookup (mA C m K) with
  | some ⟨_, _, .fields vs, _⟩ => (match vs.toList with
    | .ref g :: _ => g
    | _ => 0)
  | _ => 0
/-- a function's code, its defaults' tuple, its first cell -/
def codeAt (f : PySem.W.Frag → Addr) (K : PySem.W.Frag) : Addr := match fdAt K (f K) with
  | some fd => (match fd.code with
    | .ref a => a
    | _ => 0)
  | none => 0
def cellAt (f : PySem.W.Frag → Addr) (K : PySem.W.Frag) : Addr := match fdAt K (f K) with
  | some fd => (match fd.closure with
    | q :: _ => q.2
    | [] => 0)
  | none => 0

/-! ### single facts: each a Bool, and what it says -/
/-- a tuple of these texts, or of what a test admits -/
def tupB (a : Addr) (vs : List V) (K : PySem.W.Frag) : Bool := match K.lookup a with
  | some ⟨c, _, .seq its _, _⟩ => decide (c = .type "tuple") && (decide (its.size ≤ sizeLine) && He.relAll vs its.toList)
  | _ => false
theorem tupB_ok {K : PySem.W.Frag} {a : Addr} {vs : List V} (h : tupB a vs K = true) : ∃ (d : Option Addr) (its : Array Value) (n : Nat) (sl : Array (Option Value)), K.lookup a = some ⟨.type "tuple", d, .seq its n, sl⟩ ∧ its.size ≤ sizeLine ∧ Vals vs its.toList := by
  unfold tupB at h
  split at h
  · rename_i c d its n sl e
    simp only [Bool.and_eq_true, decide_eq_true_eq] at h
    obtain ⟨rfl, h1, h2⟩ := h
    exact ⟨d, its, n, sl, e, h1, He.relAll_ok h2⟩
  · cases h
/-- the module's name is this number -/
def intB (x : Str) (i : Int) (K : PySem.W.Frag) : Bool := match PySem.W.nsIn K mainGlobals x with
  | some (some (.int j _)) => decide (j = i)
  | _ => false
theorem intB_ok {K : PySem.W.Frag} {x : Str} {i : Int} (h : intB x i K = true) : ∃ t, PySem.W.nsIn K mainGlobals x = some (some (.int i t)) := by
  unfold intB at h
  split at h
  · rename_i j t e
    rw [decide_eq_true_eq] at h
    subst h
    exact ⟨t, e⟩
  · cases h
/-- a static method -/
def staB (p : Addr) (K : PySem.W.Frag) : Bool := match K.lookup p with
  | some ⟨c, _, .fields vs, _⟩ => decide (c = .type "staticmethod") && (match vs.toList with
    | .ref _ :: _ => true
    | _ => false)
  | _ => false
theorem staB_ok {C m : Str} {K : PySem.W.Frag} (h : staB (mA C m K) K = true) : ∃ d vs sl r, K.lookup (mA C m K) = some ⟨.type "staticmethod", d, .fields vs, sl⟩ ∧ vs.toList = .ref (sA C m K) :: r := by
  unfold staB at h
  split at h
  · rename_i c d vs sl e
    simp only [Bool.and_eq_true, decide_eq_true_eq] at h
    obtain ⟨rfl, h2⟩ := h
    split at h2
    · rename_i g r e2
      have es : sA C m K = g := by unfold sA; rw [e]; dsimp only; rw [e2]
      exact ⟨d, vs, sl, r, e, by rw [es]; exact e2⟩
    · cases h2
  · cases h
/-- an error's class -/
def excB (C : Addr) (K : PySem.W.Frag) : Bool := match K.lookup C with
  | some ⟨c, _, .cls cd, sl⟩ => (match cd.mro, sl.toList with
    | .ref D :: bm, [_, _, _, _, some (.builtin n), _] => decide (c = .type "type") && (decide (D = C) && (decide (n = "ValueError.__new__") && (!cd.hasDel && (cd.hasDict && PySem.HandSPX.refsVE bm))))
    | _, _ => false)
  | _ => false
theorem excB_ok {C : Addr} {K : PySem.W.Frag} (h : excB C K = true) : ∃ nm q N bs bm sn sub ab col dd k0 k1 k2 k3 k5, K.lookup C = some (excClassObj nm q C N bs bm true sn sub ab col dd k0 k1 k2 k3 k5 "ValueError.__new__") ∧ PySem.HandSPX.refsVE bm = true := by
  unfold excB at h
  split at h
  · rename_i c dd cd sl e
    split at h
    · rename_i D bm k0 k1 k2 k3 n k5 hm hs
      simp only [Bool.and_eq_true, decide_eq_true_eq, Bool.not_eq_true'] at h
      obtain ⟨rfl, rfl, rfl, hdel, hd, hb⟩ := h
      obtain ⟨nm, bs, mro, ns, q, hdct, sn, sub, ab, col, del⟩ := cd
      dsimp only at hm hdel hd
      subst hm hdel hd
      obtain ⟨l⟩ := sl
      have hs : l = _ := hs
      subst hs
      exact ⟨nm, q, ns, bs, bm, sn, sub, ab, col, dd, k0, k1, k2, k3, k5, e, hb⟩
    · cases h
  · cases h
/-- a code object's file -/
def fileB (P : Program) (a : Addr) (K : PySem.W.Frag) : Bool := match K.lookup a with
  | some ⟨_, _, .fields vs, _⟩ => (match (vs[2]? : Option Value) with
    | some (Value.str f _) => (P.main.file : Str) == f
    | _ => false)
  | _ => false
theorem fileB_ok {P : Program} {a : Addr} {K : PySem.W.Frag} (h : fileB P a K = true) : ∃ cl d vs sl f t, K.lookup a = some ⟨cl, d, .fields vs, sl⟩ ∧ vs[2]? = some (.str f t) ∧ ((P.main.file : Str) == f) = true := by
  unfold fileB at h
  split at h
  · rename_i cl d vs sl e
    split at h
    · rename_i f t e2
      exact ⟨cl, d, vs, sl, f, t, e, e2, h⟩
    · cases h
  · cases h
/-- a cell of a class -/
def cellB (a C : Addr) (K : PySem.W.Frag) : Bool := match K.lookup a with
  | some ⟨_, _, .cell v, _⟩ => decide (v = some (.ref C))
  | _ => false
theorem cellB_ok {a C : Addr} {K : PySem.W.Frag} (h : cellB a C K = true) : ∃ cl d sl, K.lookup a = some ⟨cl, d, .cell (some (.ref C)), sl⟩ := by
  unfold cellB at h
  split at h
  · rename_i cl d v sl e
    rw [decide_eq_true_eq] at h
    subst h
    exact ⟨cl, d, sl, e⟩
  · cases h
/-- a function's code is this object -/
def codB (f : PySem.W.Frag → Addr) (K : PySem.W.Frag) : Bool := match fdAt K (f K) with
  | some fd => (match fd.code with
    | .ref _ => true
    | _ => false)
  | none => false
theorem codB_ok {f : PySem.W.Frag → Addr} {K : PySem.W.Frag} {fd : FuncData} (h : codB f K = true) (e : fdAt K (f K) = some fd) : fd.code = .ref (codeAt f K) := by
  unfold codB at h
  unfold codeAt
  rw [e] at h ⊢
  dsimp only at h ⊢
  split at h
  · rename_i a e2
    rw [e2]
  · cases h

/-! ### the Hook -/
abbrev TopA : Type := Bool × List (Option FdT)
def topObs (exs : List (PySem.W.Frag → Bool)) (fns : List Fd) (K : PySem.W.Frag) : TopA := ((exs.all fun f => f K) && fns.all fun d => d.rest K, fns.map fun d => d.seen K)
def topVal (fns : List Fd) : TopA := (true, fns.map fun d => some d.text)
def Told (exs : List (PySem.W.Frag → Bool)) (fns : List Fd) (K : PySem.W.Frag) : Prop := topObs exs fns K = topVal fns
def topHook (exs : List (PySem.W.Frag → Bool)) (fns : List Fd) : PySem.W.Hook where
  α := TopA
  obs := fun s => topObs exs fns (partOf s.heap.get?)
  val := fun _ => topVal fns
  says := fun _ h => ∃ K : PySem.W.Frag, K.In h ∧ Told exs fns K
  of := fun _ _ e => ⟨_, He.frG_in, e⟩
  keeps := fun _ _ _ q k => q.elim fun K z => ⟨K, PySem.W.Frag.In.keeps z.1 k, z.2⟩
def topOb (exs : List (PySem.W.Frag → Bool)) (fns : List Fd) (s : PySem.W.SharedT) : TopA := topObs exs fns (partOf (HandSHeadRun.getT s))
theorem topOb_eq (exs : List (PySem.W.Frag → Bool)) (fns : List Fd) (s : PySem.W.SharedT) : topOb exs fns s = (topHook exs fns).obs s.abs := by
  have e : HandSHeadRun.getT s = s.abs.heap.get? := funext fun a => HandSHeadRun.getT_eq s a
  unfold topOb
  rw [e] <;> rfl
section
variable {exs : List (PySem.W.Frag → Bool)} {fns : List Fd} {K : PySem.W.Frag}
theorem Told.ex (c : Told exs fns K) (i : Nat) {f : PySem.W.Frag → Bool} (h : exs[i]? = some f := by rfl) : f K = true := by
  have c1 : ((exs.all fun f => f K) && fns.all fun d => d.rest K) = true := congrArg (fun z : TopA => z.1) c
  exact List.all_eq_true.mp (Bool.and_eq_true_iff.mp c1).1 f (List.mem_of_getElem? h)
theorem Told.fn (c : Told exs fns K) (i : Nat) {d : Fd} (h : fns[i]? = some d := by rfl) : d.seen K = some d.text ∧ d.rest K = true := by
  have c1 : ((exs.all fun f => f K) && fns.all fun d => d.rest K) = true := congrArg (fun z : TopA => z.1) c
  have c2 : fns.map (fun d => d.seen K) = fns.map fun d => some d.text := congrArg (fun z : TopA => z.2) c
  refine ⟨?_, List.all_eq_true.mp (Bool.and_eq_true_iff.mp c1).2 d (List.mem_of_getElem? h)⟩
  have e : (fns.map fun d => d.seen K)[i]? = (fns.map fun d => some d.text)[i]? := by rw [c2]
  rw [List.getElem?_map, List.getElem?_map, h] at e
  exact Option.some.inj e
theorem Told.pl (c : Told exs fns K) (i : Nat) {d : Fd} (h : fns[i]? = some d := by rfl) (hc : d.cl K = [] := by rfl) :
    ∃ oc od sl kV dc pm an cd ct, K.lookup (d.loc K) = some ⟨oc, od, .func (PySem.W.fnOf d.x d.q (defArgs d.st) (defBody d.st) (defScope d.st) (d.dv K) kV dc pm an cd ct), sl⟩ ∧ PySem.W.codeIn K cd d.q = true :=
  Fd.plain (c.fn i h).1 (c.fn i h).2 hc
/-- an error's own __init__ -/
theorem Told.err (c : Told exs fns K) (i j : Nat) {d : Fd} (h : fns[i]? = some d := by rfl) (hj : exs[j]? = some (codB d.loc) := by rfl) (hc : d.cl K = [(("__class__" : Str), cellAt d.loc K)] := by rfl) :
    ∃ oc od sl kV dc pm an ct, K.lookup (d.loc K) = some ⟨oc, od, .func (PySem.W.ksFn d.x d.q (defArgs d.st) (defBody d.st) (defScope d.st) (d.dv K) kV dc pm an (.ref (codeAt d.loc K)) ct (cellAt d.loc K)), sl⟩ ∧ PySem.W.codeIn K (.ref (codeAt d.loc K)) d.q = true := by
  obtain ⟨oc, od, sl, kV, dc, pm, an, cd, ct, e, lk, ci⟩ := Fd.celled (c.fn i h).1 (c.fn i h).2 hc
  have q : cd = .ref (codeAt d.loc K) := codB_ok (c.ex j hj) e
  rw [q] at lk ci
  exact ⟨oc, od, sl, kV, dc, pm, an, ct, lk, ci⟩
end
theorem of_dec {p : Prop} [Decidable p] (h : decide p = true) : p := of_decide_eq_true h

/-! ### the law's end over it -/
theorem walkY {l : PySem.W.OpenLaw} {n k : Nat} {q : Program} {loose : List Str} {XP : (Str → Option Value) → Heap → Prop} {YP : World → Heap → Prop} {d : DefRec} {F : FD} {x : Str}
    (most : l.most = some n) (few : n ≤ sizeLine) (nod : d.params.defaults = []) (room : Room k callerA)
    (G : ∀ (w : World) (mg : Str → Option Value) (fa : Addr) (h : Heap), YP w h → h.Ns mainGlobals mg → mg d.name = some (.ref fa) →
      ∃ K : PySem.W.Frag, K.In h ∧ ∃ fd : FuncData, (∀ (s : Shared) (u : Value), BindsTo s fd ⟨[u], []⟩ [(x, u)]) ∧
        ∀ base : Heap, K.In base → base.Ns mainGlobals mg → FnG l.prog w K mg base (L2.CX l.prog w) k fa fd [x] (spD K F))
    (law : ∀ (ns : List Int) (Q : QD) (E : XD), ns.length ≤ n → (∀ μ, Q (.bl true) μ) → F [.fzl (ns.map .int)] [] Q E) :
    PySem.W.WalkO q loose XP YP l.row.toRowW d [] (fun f vs => PySem.call f vs) := by
  refine Att.attach_call most nod fun w s0 s1 mg mb fa o pm cd doc a us ns T Y ho hd hcd hmg obj allInt len ng => ?_
  obtain ⟨K, inK, fd, bind, go⟩ := G w mg fa _ Y T.T.g hmg
  refine callG inK T.T.g T.T.b T.T.builtins T.T.nolimit ng obj allInt (Nat.le_trans len few) room go bind fun H only seq => ?_
  refine ⟨[], [], [.fzl (ns.map .int)], ⟨rfl, List.nodup_nil, fun n a c e => by simp at e⟩, Ats.cons ?_ Ats.nil, law ns _ _ len fun μ ι' H' v _ _ av => by cases av; rfl⟩
  have at_ : Ats K [] H (ns.map V.int) (ns.map D.int) := by
    refine ⟨by simp, fun i v d e1 e2 => ?_⟩
    rw [List.getElem?_map, Option.map_eq_some_iff] at e1 e2
    obtain ⟨m, h1, rfl⟩ := e1
    obtain ⟨m', h2, rfl⟩ := e2
    rw [h1] at h2; cases h2
    exact .int _
  refine .fzl ?_ at_.1 at_.2
  rcases seq with (e | ⟨ob, e⟩) | own
  · rcases only a with n | ⟨ob, ys, f⟩
    · rw [n] at e; cases e
    · rw [f] at e; cases e
  · exact .inl ⟨ob, e, by simp⟩
  · exact .inr fun _ => .inr own
end Dl

namespace Dl
open PySem PySem.Spec L2
open PyProof.Rows hiding St Binds
/-! ### stars in a display, texts with parts, operators of an own class, str of an instance -/
section
variable {X : Cx} {W : WX} {a b c e o i : Expr} {es : List Expr} {f fa fb fo fi fv : FE} {fl : FA} {pos p pos' : Pos} {x : Str} {C : Addr} {F : FD} {dds : List D} {j k : Nat} {K : PySem.W.Frag}
def fStar (f : FE) (g : FA) : FA := fun ρ μ Q E => f ρ μ (fun d m => ∃ ds, asS m d = some ds ∧ g ρ m (fun ys m2 => Q (ds ++ ys) m2) E) E
theorem mStar (m : MonE f) (m' : MonA fl) : MonA (fStar f fl) := fun ρ μ Q Q' E E' h he q =>
  m ρ μ _ _ E E' (fun d mm ⟨ds, e, z⟩ => ⟨ds, e, m' ρ mm _ _ E E' (fun ys m2 z2 => h _ m2 z2) he z⟩) he q
theorem da_star (h : DE X W e f) (h' : DA X W es fl) (hs : starEach (.Starred e p :: es) X.env = (true, eval e X.env) :: starEach es X.env := by rfl) : DA X W (.Starred e p :: es) (fStar f fl) :=
  ⟨mStar h.mono h'.mono, PA.imp (StX.pa_star h.run h'.run hs) fun σ H Q ⟨ι, ρ, μ, rp, l, q⟩ => chain1 h.mono rp l q fun d μ1 ι1 H1 v q1 g1 r1 l1 a1 => by
    obtain ⟨ds, e, z⟩ := q1
    obtain ⟨p, vs, rfl, hs, at_⟩ := asS_at r1 a1 e
    refine ⟨p, vs, rfl, hs.symm, ?_⟩
    exact chainA h'.mono r1 l1 (h'.mono ρ μ1 _ _ _ _ (fun _ _ z => z) (fun _ _ _ z => EW.gr g1 z) z) fun ys μ2 ι2 H2 us q2 g2 r2 l2 a2 => q2 ι2 H2 _ (g1.trans g2) r2 ((at_.gr g2).app a2)⟩
/-- x op y, both of the class at C -/
def gBinO (C : Addr) (F : FD) : G2 := fun x y μ Q => ∃ fd fd', asI μ x = some (C, fd) ∧ asI μ y = some (C, fd') ∧ F [x, y] μ Q (fun _ _ _ => False)
theorem opd_bin {op : Operator} {m : Str} (iC : IsC X.K C) (sf : PySem.W.selfFirst X.K C = true) (c : MetX X k C m F []) (hG : X.A.guards = some []) (hr : Room j X.A) (hk : k ≤ j) (hm : dunder op.info.2 = m := by rfl) : OpD X (binaryOp op) (gBinO C F) := by
  subst hm
  obtain ⟨f, fd0, ps, dvs, ds, Fg, hM, hb, hv, hd⟩ := c.ex
  refine ⟨fun x y μ Q Q' h ⟨fd, t, e1, e2, q⟩ => ⟨fd, t, e1, e2, c.mono _ _ _ _ _ _ h (fun _ _ _ z => z) q⟩,
    fun x y H Q => ∃ a dx fv, x = .ref a ∧ H a = some (.ins C dx fv) ∧ TyX X.K H y (.ref C) ∧ spD X.K F ([x, y] ++ dvs) H Q (fun _ _ _ => False), ?_, ?_⟩
  · intro pins s σ H x y v u Q I rx ry h
    obtain ⟨a, dx, fv, rfl, ha, ty, q⟩ := h
    cases (show v = Value.ref a from rx)
    obtain ⟨mA, O, _, _, _, _⟩ := ins_get I.hok ha
    obtain ⟨od, J, _⟩ := O.look
    obtain ⟨m, hF⟩ := I.fr
    obtain ⟨P, kx, hP, _⟩ := kit_of I ry ty
    refine PySem.W.binop_K hF I.ok.mod.kin J (kx.ty _ _ I.kIn hP) sf hM.at_ hM.fn ?_
    refine wpAny_mono (g_run (us := [.ref a, u]) (vs := [.ref a, y]) hG Fg (hr.mono hk) hb hv (passNo (k := k) fun _ _ _ z => z) I (.cons rfl (.cons ry .nil)) q) (fun w s' z => ?_) fun _ _ z => z
    obtain ⟨z', H', I', rz, qz⟩ := z
    exact SlX.cmpback rz ⟨z', H', I', rz, qz⟩
  · rintro ι H μ x y dx dy Q r ax ay ⟨fd, fd', e1, e2, q⟩
    obtain ⟨a, dxx, fv, rfl, ha, _⟩ := asI_at r ax e1
    exact ⟨a, dxx, fv, rfl, ha, tyd_of r ay (.ins _ _ _ e2 iC), ι, μ, _, r, (Ats.cons ax (Ats.cons ay Ats.nil)).app (hd ι H), c.mono [dx, dy] μ _ _ (fun _ _ _ => False) _ (fun _ _ z => z) (fun _ _ _ z => z.elim) q⟩
/-- ~x, x of the class at C -/
def fInv (C : Addr) (F : FD) (f : FE) : FE := fun ρ μ Q E => f ρ μ (fun x m => ∃ fd, asI m x = some (C, fd) ∧ F [x] m Q (fun _ _ _ => False)) E
theorem de_inv (c : MetX X k C "__invert__" F []) (hG : X.A.guards = some []) (hr : Room j X.A) (hk : k ≤ j) (h : DE X W e f) : DE X W (.UnaryOp .Invert e pos) (fInv C F f) := by
  obtain ⟨g, fd0, ps, dvs, ds, Fg, hM, hb, hv, hd⟩ := c.ex
  refine ⟨fun ρ μ Q Q' E E' h1 he q => h.mono ρ μ _ _ E E' (fun d m ⟨fd, e1, z⟩ => ⟨fd, e1, c.mono _ _ _ _ _ _ h1 (fun _ _ _ z => z) z⟩) he q,
    PE.imp (pe_un (r := fun x H Q => ∃ a dx fv, x = .ref a ∧ H a = some (.ins C dx fv) ∧ spD X.K F ([x] ++ dvs) H Q (fun _ _ _ => False)) ?_ h.run) fun σ H Q ⟨ι, ρ, μ, rp, l, q⟩ => chain1 h.mono rp l q fun d μ1 ι1 H1 v q1 g1 r1 l1 a1 => ?_⟩
  · intro pins s σ H x v Q I rx h
    obtain ⟨a, dx, fv, rfl, ha, q⟩ := h
    cases (show v = Value.ref a from rx)
    obtain ⟨mA, O, _, _, _, _⟩ := ins_get I.hok ha
    obtain ⟨od, J, _⟩ := O.look
    obtain ⟨m, hF⟩ := I.fr
    exact PySem.W.ksp_inv hF I.ok.mod.kin J hM.at_ hM.fn (g_run (us := [.ref a]) (vs := [.ref a]) hG Fg (hr.mono hk) hb hv (passNo (k := k) fun _ _ _ z => z) I (.cons rfl .nil) q)
  · obtain ⟨fd, e1, z⟩ := q1
    obtain ⟨a, dxx, fv, rfl, ha, _⟩ := asI_at r1 a1 e1
    exact ⟨a, dxx, fv, rfl, ha, ι1, μ1, _, r1, (Ats.cons a1 Ats.nil).app (hd ι1 H1), c.mono [d] μ1 _ _ (fun _ _ _ => False) _ (fun _ _ z => QV.gr g1 z) (fun _ _ _ z => z.elim) z⟩
end
end Dl

namespace Dl
open PySem PySem.Spec L2
open PyProof.Rows hiding St Binds
/-! ### the text of an instance by its own __str__ -/
section
variable {X : Cx} {W : WX} {a b c e o i : Expr} {es : List Expr} {f fa fb fo fi fv : FE} {fl : FA} {pos p pos' : Pos} {x : Str} {C : Addr} {F : FD} {dds : List D} {j k : Nat} {K : PySem.W.Frag}
end
end Dl

namespace Dl
open PySem PySem.Spec L2
open PyProof.Rows hiding St Binds
section
variable {X : Cx} {W : WX} {a b c e o i : Expr} {es : List Expr} {f fa fb fo fi fv : FE} {fl : FA} {pos p pos' apos cpos : Pos} {x : Str} {C : Addr} {F : FD} {dds : List D} {j k : Nat} {K : PySem.W.Frag}
theorem Ats.snoc {ι : Io} {H : Hp} {K : PySem.W.Frag} {ws : List V} {xs : List D} {y : D} (r : Ats K ι H ws (xs ++ [y])) : ∃ us u, ws = us ++ [u] ∧ Ats K ι H us xs ∧ At K ι H u y := by
  have hl : ws.length = xs.length + 1 := by rw [r.1, List.length_append]; rfl
  obtain ⟨u, hu, au⟩ := r.get (i := xs.length) (d := y) (by simp)
  have e : ws = ws.take xs.length ++ [u] := by
    conv => lhs; rw [← List.take_append_drop xs.length ws]
    congr 1
    rw [List.drop_eq_getElem_cons (by omega), List.getElem?_eq_some_iff.mp hu |>.2]
    rw [List.drop_eq_nil_of_le (by omega)]
  refine ⟨ws.take xs.length, u, e, ⟨by rw [List.length_take]; omega, fun i v d e1 e2 => ?_⟩, au⟩
  have hi := (List.getElem?_eq_some_iff.mp e2).1
  rw [List.getElem?_take_of_lt hi] at e1
  exact r.2 i v d e1 (by rw [List.getElem?_append_left hi]; exact e2)
/-- o.m() of a list -/
theorem de_bmL0 {g : GM} {id : String} {name : Str} (pa : PlainAttrs "list") (slot : Slot "list" name id) (hty : typeOf (.builtin id) = pure (.type "method_descriptor")) (hm : MtD X id g) (ho : DE X W o fo)
    (hbase : attributeBase o name X.env (eval o X.env) = eval o X.env := by rfl) (hline : (apos.endLine == cpos.line) = true := by rfl) :
    DE X W (.Call (.Attribute o name apos) [] [] cpos) (fBL g fo fNil) := by
  obtain ⟨r, hr, k⟩ := hm.run
  refine ⟨mBL hm.mono ho.mono mNil, PE.imp (pe_bm0 pa slot hty hr ho.run hbase hline) fun σ H Q ⟨ι, ρ, μ, rp, l, q⟩ => chain1 ho.mono rp l q fun x μ1 ι1 H1 v q1 g1 r1 l1 a1 => ?_⟩
  obtain ⟨⟨ds0, e0⟩, z⟩ := q1
  obtain ⟨p, vs0, rfl, h1, h2⟩ := asL_at r1 a1 e0
  refine ⟨.inl ⟨rfl, vs0, SqL.of h1⟩, ?_⟩
  exact k ι1 H1 μ1 _ [] x [] Q r1 a1 Ats.nil (hm.mono _ _ _ _ _ (fun d m z => QV.gr g1 z) z)
def gPop : GM := fun x ds μ Q => ∃ n xs y, x = .cell n ∧ ds = [] ∧ μ[n]? = some (.lst (xs ++ [y])) ∧ Q y (μ.set n (.lst xs))
theorem mtd_pop : MtD X "list.pop" gPop := by
  refine ⟨fun x ds μ Q Q' h ⟨n, xs, y, e1, e2, e3, q⟩ => ⟨n, xs, y, e1, e2, e3, h _ _ q⟩, rPop, mt_pop, fun ι H μ x vs dx ds Q r a as ⟨n, xs, y, e1, e2, e3, q⟩ => ?_⟩
  subst e1; subst e2
  cases as.unnil
  obtain ⟨p, rfl, hn⟩ := cell_at a
  obtain ⟨ws, h1, h2⟩ := r.at_ n p _ hn e3
  obtain ⟨us, u, rfl, hu, au⟩ := Ats.snoc h2
  have gc := Gr.chg (H := H) (o := .lst us) (List.mem_of_getElem? hn)
  refine ⟨p, us ++ [u], u, rfl, rfl, h1, by simp, ?_⟩
  rw [List.dropLast_concat]
  exact q ι _ _ gc (r.chg hn ⟨_, upd_same, hu.gr gc⟩) (au.gr gc)
end
end Dl

namespace Dl
open PySem PySem.Spec L2
open PyProof.Rows hiding St Binds
/-! ### conditions as trees, as words, as texts -/
def encl (op : Str) : List Str := if op = ("not" : Str) then [("and" : Str), ("or" : Str)] else if op = ("and" : Str) then [("or" : Str)] else []
def wrapS (op l t : Str) : Str := if l ∈ encl op then (("(" : Str) ++ t) ++ (")" : Str) else t
inductive Tr where
  | is (s : Str) | al | nv | no (t : Tr) | an (a b : Tr) | or (a b : Tr)
namespace Tr
def last : Tr → Str
  | .is s => s | .al => ("always" : Str) | .nv => ("never" : Str) | .no _ => ("not" : Str) | .an _ _ => ("and" : Str) | .or _ _ => ("or" : Str)
def kind : Tr → Str
  | .is _ => ("is" : Str) | t => t.last
def text : Tr → Str
  | .is s => s | .al => ("always" : Str) | .nv => ("never" : Str)
  | .no t => ("not " : Str) ++ wrapS ("not" : Str) t.last t.text
  | .an a b => wrapS ("and" : Str) a.last a.text ++ (" and " : Str) ++ wrapS ("and" : Str) b.last b.text
  | .or a b => a.text ++ (" or " : Str) ++ b.text
def words : Tr → List Str
  | .is s => [s] | .al => [("always" : Str)] | .nv => [("never" : Str)]
  | .no t => t.words ++ [("not" : Str)] | .an a b => a.words ++ b.words ++ [("and" : Str)] | .or a b => a.words ++ b.words ++ [("or" : Str)]
def d : Tr → D
  | .is s => .tup [.str ("is" : Str), .str s] | .al => .tup [.str ("always" : Str)] | .nv => .tup [.str ("never" : Str)]
  | .no t => .tup [.str ("not" : Str), t.d] | .an a b => .tup [.str ("and" : Str), a.d, b.d] | .or a b => .tup [.str ("or" : Str), a.d, b.d]
def dep : Tr → Nat
  | .is _ => 0 | .al => 0 | .nv => 0 | .no t => t.dep + 1 | .an a b => max a.dep b.dep + 1 | .or a b => max a.dep b.dep + 1
def size : Tr → Nat
  | .is _ => 1 | .al => 1 | .nv => 1 | .no t => t.size + 1 | .an a b => a.size + b.size + 1 | .or a b => a.size + b.size + 1
def ok : Tr → Prop
  | .is s => NameOk s | .al => True | .nv => True | .no t => t.ok | .an a b => a.ok ∧ b.ok | .or a b => a.ok ∧ b.ok
end Tr
theorem not_and_or {s : Str} (h : NameOk s) : s ≠ ("not" : Str) ∧ s ≠ ("and" : Str) ∧ s ≠ ("or" : Str) := by
  refine ⟨fun e => h.res ?_, fun e => h.res ?_, fun e => h.res ?_⟩ <;> rw [e] <;> decide +kernel
theorem NameOk.len {s : Str} (h : NameOk s) : s.length ≤ 8 := by
  have := h.le
  rwa [Array.length_toList] at this
theorem wrap_len (op l t : Str) : (wrapS op l t).length ≤ t.length + 2 := by
  unfold wrapS
  split
  · rw [Str.length_append, Str.length_append]
    show 1 + t.length + 1 ≤ _
    omega
  · omega
theorem Tr.text_len : ∀ {t : Tr}, t.ok → t.text.length ≤ 12 * t.size
  | .is s, h => by have := NameOk.len (show NameOk s from h); show s.length ≤ 12 * 1; omega
  | .al, _ => by decide
  | .nv, _ => by decide
  | .no t, h => by
    have := Tr.text_len (t := t) h
    have w := wrap_len ("not" : Str) t.last t.text
    show (("not " : Str) ++ wrapS _ _ _).length ≤ 12 * (t.size + 1)
    rw [Str.length_append]
    have e : ("not " : Str).length = 4 := by decide
    omega
  | .an a b, h => by
    have h1 := Tr.text_len (t := a) h.1
    have h2 := Tr.text_len (t := b) h.2
    have w1 := wrap_len ("and" : Str) a.last a.text
    have w2 := wrap_len ("and" : Str) b.last b.text
    show (wrapS _ _ _ ++ (" and " : Str) ++ wrapS _ _ _).length ≤ 12 * (a.size + b.size + 1)
    rw [Str.length_append, Str.length_append]
    have e : (" and " : Str).length = 5 := by decide
    omega
  | .or a b, h => by
    have h1 := Tr.text_len (t := a) h.1
    have h2 := Tr.text_len (t := b) h.2
    show (a.text ++ (" or " : Str) ++ b.text).length ≤ 12 * (a.size + b.size + 1)
    rw [Str.length_append, Str.length_append]
    have e : (" or " : Str).length = 4 := by decide
    omega
theorem Tr.size_dep : ∀ t : Tr, t.size + 1 ≤ 2 ^ (t.dep + 1)
  | .is _ => by show 1 + 1 ≤ 2 ^ (0 + 1); decide
  | .al => by decide
  | .nv => by decide
  | .no t => by
    have := Tr.size_dep t
    show t.size + 1 + 1 ≤ 2 ^ (t.dep + 1 + 1)
    rw [Nat.pow_succ]; omega
  | .an a b => by
    have h1 := Tr.size_dep a
    have h2 := Tr.size_dep b
    have p1 : 2 ^ (a.dep + 1) ≤ 2 ^ (max a.dep b.dep + 1) := Nat.pow_le_pow_right (by decide) (by omega)
    have p2 : 2 ^ (b.dep + 1) ≤ 2 ^ (max a.dep b.dep + 1) := Nat.pow_le_pow_right (by decide) (by omega)
    show a.size + b.size + 1 + 1 ≤ 2 ^ (max a.dep b.dep + 1 + 1)
    rw [Nat.pow_succ]; omega
  | .or a b => by
    have h1 := Tr.size_dep a
    have h2 := Tr.size_dep b
    have p1 : 2 ^ (a.dep + 1) ≤ 2 ^ (max a.dep b.dep + 1) := Nat.pow_le_pow_right (by decide) (by omega)
    have p2 : 2 ^ (b.dep + 1) ≤ 2 ^ (max a.dep b.dep + 1) := Nat.pow_le_pow_right (by decide) (by omega)
    show a.size + b.size + 1 + 1 ≤ 2 ^ (max a.dep b.dep + 1 + 1)
    rw [Nat.pow_succ]; omega
theorem Tr.words_len : ∀ t : Tr, t.words.length = t.size
  | .is _ => rfl
  | .al => rfl
  | .nv => rfl
  | .no t => by show (t.words ++ [_]).length = _; rw [List.length_append, Tr.words_len t]; rfl
  | .an a b => by show (a.words ++ b.words ++ [_]).length = _; rw [List.length_append, List.length_append, Tr.words_len a, Tr.words_len b]; rfl
  | .or a b => by show (a.words ++ b.words ++ [_]).length = _; rw [List.length_append, List.length_append, Tr.words_len a, Tr.words_len b]; rfl
theorem Tr.small {t : Tr} (h : t.ok) (d : t.dep ≤ 8) : t.text.length ≤ 10000 ∧ t.words.length ≤ 600 := by
  have s := Tr.size_dep t
  have p : 2 ^ (t.dep + 1) ≤ 2 ^ 9 := Nat.pow_le_pow_right (by decide) (by omega)
  have l := Tr.text_len h
  rw [Tr.words_len]
  omega
/-! the stack machine -/
end Dl

namespace Dl
open PySem PySem.Spec L2
open PyProof.Rows hiding St Binds
section
variable {X : Cx} {W : WX} {a b c e o i : Expr} {es : List Expr} {f g fa fb fo fi fv : FE} {fl : FA} {pos p pos' : Pos} {x : Str} {C : Addr} {F : FD} {dds : List D} {j k : Nat} {K : PySem.W.Frag}
end
/-! ### margins -/
end Dl

namespace Dl
open PySem PySem.Spec L2
open PyProof.Rows hiding St Binds
/-! ### programs as blocks, as lines, as texts -/
abbrev wdF (ws : List Str) : List (Str × D) := [(("_words" : Str), D.tup (ws.map .str))]
abbrev cD (C : Addr) (ws : List Str) : D := .ins C (wdF ws)
inductive Bl where
  | nil | doo (s : Str) (r : Bl) | wh (t : Tr) (b r : Bl) | iff (t : Tr) (b o r : Bl)
inductive Stm where
  | doo (s : Str) | wh (t : Tr) (b : Bl) | iff (t : Tr) (b o : Bl)
inductive Rs where
  | non | act (s : Str) | cnd (t : Tr)
structure Ln where
  k : Nat
  w : Str
  r : Rs
def Rs.d (C : Addr) : Rs → D
  | .non => .non | .act s => .str s | .cnd t => cD C t.words
def Ln.d (C : Addr) (l : Ln) : D := .tup [.int (l.k : Nat), .str l.w, l.r.d C]
def Rs.text : Rs → Str
  | .non => Str.empty | .act s => s | .cnd t => t.text
namespace Bl
def isNil : Bl → Bool | .nil => true | _ => false
def ds : Bl → List D
  | .nil => [] | .doo s r => .tup [.str ("do" : Str), .str s] :: r.ds
  | .wh t b r => .tup [.str ("while" : Str), t.d, .lst b.ds] :: r.ds
  | .iff t b o r => .tup [.str ("if" : Str), t.d, .lst b.ds, .lst o.ds] :: r.ds
def dep : Bl → Nat
  | .nil => 0 | .doo _ r => r.dep | .wh _ b r => max (b.dep + 1) r.dep | .iff _ b o r => max (max b.dep o.dep + 1) r.dep
def size : Bl → Nat
  | .nil => 0 | .doo _ r => r.size + 1 | .wh _ b r => b.size + r.size + 1 | .iff _ b o r => b.size + o.size + r.size + 1
def ok : Bl → Prop
  | .nil => True | .doo s r => NameOk s ∧ r.ok | .wh t b r => (t.ok ∧ t.dep ≤ 2 ∧ b.ok) ∧ r.ok | .iff t b o r => (t.ok ∧ t.dep ≤ 2 ∧ b.ok ∧ o.ok) ∧ r.ok
def L : Nat → Bl → List Ln
  | _, .nil => []
  | k, .doo s r => ⟨k, ("do" : Str), .act s⟩ :: L k r
  | k, .wh t b r => ⟨k, ("while" : Str), .cnd t⟩ :: ((if b.isNil then [⟨k + 1, ("pass" : Str), .non⟩] else L (k + 1) b) ++ L k r)
  | k, .iff t b o r => ⟨k, ("if" : Str), .cnd t⟩ :: ((if b.isNil then [⟨k + 1, ("pass" : Str), .non⟩] else L (k + 1) b) ++ ((if o.isNil then [] else ⟨k, ("else" : Str), .non⟩ :: L (k + 1) o) ++ L k r))
def Lp (k : Nat) (b : Bl) : List Ln := if b.isNil then [⟨k, ("pass" : Str), .non⟩] else L k b
end Bl
namespace Stm
def d : Stm → D
  | .doo s => .tup [.str ("do" : Str), .str s] | .wh t b => .tup [.str ("while" : Str), t.d, .lst b.ds] | .iff t b o => .tup [.str ("if" : Str), t.d, .lst b.ds, .lst o.ds]
def dep : Stm → Nat
  | .doo _ => 0 | .wh _ b => b.dep + 1 | .iff _ b o => max b.dep o.dep + 1
def size : Stm → Nat
  | .doo _ => 1 | .wh _ b => b.size + 1 | .iff _ b o => b.size + o.size + 1
def ok : Stm → Prop
  | .doo s => NameOk s | .wh t b => t.ok ∧ t.dep ≤ 2 ∧ b.ok | .iff t b o => t.ok ∧ t.dep ≤ 2 ∧ b.ok ∧ o.ok
def L (k : Nat) : Stm → List Ln
  | .doo s => [⟨k, ("do" : Str), .act s⟩]
  | .wh t b => ⟨k, ("while" : Str), .cnd t⟩ :: b.Lp (k + 1)
  | .iff t b o => ⟨k, ("if" : Str), .cnd t⟩ :: (b.Lp (k + 1) ++ (if o.isNil then [] else ⟨k, ("else" : Str), .non⟩ :: o.L (k + 1)))
def cons : Stm → Bl → Bl
  | .doo s, r => .doo s r | .wh t b, r => .wh t b r | .iff t b o, r => .iff t b o r
end Stm
end Dl

namespace Dl
open PySem PySem.Spec L2
open PyProof.Rows hiding St Binds
section
variable {X : Cx} {W : WX} {o : Expr} {fo : FE} {pos p2 : Pos}
end
end Dl

namespace Dl
open PySem PySem.Spec L2
open PyProof.Rows hiding St Binds
section
variable {prog : Program} {w : World} {A : Around} {E : Value → Shared → Prop} {s : Shared} {K : PySem.W.Frag} {x C L f g dx : Addr} {h₀ : Heap} {m : Str → Option Value} {od : Option Obj}
end
section
variable {X : Cx} {C g : Addr} {F : FD} {j k : Nat} {fo ro : Option Value}
end
end Dl

namespace Dl
open PySem PySem.Spec L2
open PyProof.Rows hiding St Binds
section
variable {prog : Program} {w : World} {A : Around} {E : Value → Shared → Prop} {s : Shared} {K : PySem.W.Frag} {x C L f dx : Addr} {h₀ : Heap} {m : Str → Option Value} {od : Option Obj}
end
end Dl
namespace Dl
open PySem PySem.Spec L2
open PyProof.Rows hiding St Binds
section
variable {X : Cx} {W : WX} {C : Addr} {F : FD} {j k : Nat} {op : Operator} {n : Str} {e e' : Expr} {fa fb : FE} {pos : Pos}
end
end Dl

namespace Dl
open PySem PySem.Spec L2
open PyProof.Rows hiding St Binds
end Dl

/-! sorted(set(texts)) -/
namespace Dl
open PySem PySem.Spec L2
open PyProof.Rows hiding St Binds
def txE (e : Int × Value) : Str := strOf e.2
structure TxD (P : Program) (w : World) (D : Froz.SD) (ks : List Str) : Prop where
  ok : Froz.TxOk P w D ks
  nd : ks.Nodup
  pm : (D.1.toList.map txE).Perm ks
  tx : ∀ e ∈ D.1.toList, ∃ k u, e.2 = Value.str k u
  ri : Ris D.2.2.place.toList
  le : w.params.followText "set-order" = true ∨ D.2.2.led = true
def TxAt (P : Program) (w : World) (h : Heap) (a : Addr) (ks : List Str) : Prop := ∃ D : Froz.SD, h.get? a = some (Froz.sObj "set" D) ∧ TxD P w D ks
section
variable {P : Program} {w : World} {A : Around} {E : Value → Shared → Prop} {s : Shared} {a : Addr} {ks : List Str} {k : Str} {u : Tok} {D : Froz.SD}
theorem TxAt.keep {h h' : Heap} (t : TxAt P w h a ks) (f : ∀ o, h.get? a = some o → h'.get? a = some o) : TxAt P w h' a ks := let ⟨D, e, r⟩ := t; ⟨D, f _ e, r⟩
theorem tail_pm {ep : Nat} {es : Array (Int × Value)} {t : SetTable} {b : Bool} : (Froz.tailTx ep es t b).1.toList.Perm es.toList := by
  unfold Froz.tailTx; split
  · exact relayAll_perm _ _ _
  · exact .refl _
theorem tail_ri {ep : Nat} {es : Array (Int × Value)} {t : SetTable} {b : Bool} (r : Ris t.place.toList) : Ris (Froz.tailTx ep es t b).2.2.place.toList ∧ (Froz.tailTx ep es t b).2.2.led = t.led := by
  unfold Froz.tailTx; split
  · exact ⟨relayAll_ris _ _ _, relayAll_led _ _ _⟩
  · exact ⟨r, rfl⟩
theorem off_ri {t : SetTable} (r : Ris t.place.toList) : Ris (if t.plain = true then { t with plain := false } else t).place.toList ∧ (if t.plain = true then { t with plain := false } else t).led = t.led := by
  split <;> exact ⟨r, rfl⟩
theorem TxD.add (t : TxD P w D ks) (hk : k ∉ ks) (u : Tok) : TxD P w (Froz.addTx (hashStr w k) (.str k u) D) (k :: ks) := by
  have p0 := layNew_perm D.2.2 D.1 (hashStr w k) (.str k u)
  have r0 := layNew_ris D.2.2 D.1 (hashStr w k) (.str k u) t.ri
  have l0 := layNew_led D.2.2 D.1 (hashStr w k) (.str k u)
  have p1 := (tail_pm (ep := D.2.1) (es := (layNew D.2.2 D.1 (hashStr w k) (.str k u)).1) (t := (if (layNew D.2.2 D.1 (hashStr w k) (.str k u)).2.1.plain = true then { (layNew D.2.2 D.1 (hashStr w k) (.str k u)).2.1 with plain := false } else (layNew D.2.2 D.1 (hashStr w k) (.str k u)).2.1)) (b := (layNew D.2.2 D.1 (hashStr w k) (.str k u)).2.2.1)).trans p0
  rw [Array.toList_push] at p1
  have p2 := p1.trans (List.perm_append_singleton _ _)
  obtain ⟨ra, la⟩ := tail_ri (ep := D.2.1) (es := (layNew D.2.2 D.1 (hashStr w k) (.str k u)).1) (b := (layNew D.2.2 D.1 (hashStr w k) (.str k u)).2.2.1) (off_ri r0).1
  refine ⟨Froz.add_ok u t.ok, List.nodup_cons.mpr ⟨hk, t.nd⟩, ?_, fun e he => ?_, ra, t.le.imp id fun z => ?_⟩
  · exact (p2.map txE).trans (List.Perm.cons k t.pm)
  · rcases List.mem_cons.mp (p2.mem_iff.mp he) with z | z
    · exact ⟨k, u, by rw [z]⟩
    · exact t.tx e z
  · exact la.trans ((off_ri r0).2.trans (l0.trans z))
theorem TxD.size (t : TxD P w D ks) : D.1.size = ks.length := t.ok.sz
/-- a text that is in already -/
theorem tx_dup {Q : Bool → Shared → Prop} (ho : s.heap.get? a = some (Froz.sObj "set" D)) (t : TxD P w D ks) (hk : k ∈ ks) (hb : ks.length < scanBound) (h : Q false s) :
    wpAny (model P w) A (setAddHashed a (.str k u) (hashStr w k)) Q E s := by
  obtain ⟨es, ep, tb⟩ := D
  have hz : es.size = ks.length := t.ok.sz
  have hx : (PySem.strKind P w).is k (.str k u) = true := Froz.is_str k u
  have hd : (Froz.sObj "set" (es, ep, tb)).data = .set es ep tb := rfl
  cases hr : List.findIdx? (fun e => (PySem.strKind P w).is k e.2) es.toList with
  | none =>
    obtain ⟨e, he, q⟩ := (t.ok.mem k).mp hk
    have c := List.findIdx?_eq_none_iff.mp hr e he
    rw [q] at c; cases c
  | some j =>
    unfold setAddHashed setAddHashedIn
    refine wpAny_holding (wpAny_bind (wpAny_setState_of ho hd t.ok.fit ?_))
    dsimp only
    rw [byScan_of (show (Value.str k u).scannable = true from rfl) (show es.size < scanBound by rw [hz]; exact hb) t.ok.el]
    simp only [↓reduceIte]
    unfold setAddByScan
    refine wpAny_bind (wpAny_bind (wpAny_rule (wpAny_bind (wpAny_setScan_of hx ho hd t.ok.fit t.ok.el ?_))))
    rw [hr]
    exact wpAny_pure (wpAny_pure h)
end
section
variable {P : Program} {w : World} {A : Around} {R : Result → Shared → Prop} {I : Addr} {fp wr : List Addr} {G : Array GenState → Array GenState → Prop} {n : Nat} {Pv : Nat → Value → Prop} {St : Nat → Shared → Prop}
theorem take_mem {xs : List Str} {i : Nat} {x y : Str} (h : xs[i]? = some x) : y ∈ xs.take (i + 1) ↔ y ∈ xs.take i ∨ y = x := by
  rw [List.take_add_one, h]
  simp [List.mem_append]
/-- set.update over a list of texts -/
theorem tx_loop (W : WalksS P w A.in1 I fp wr G n Pv St) (S : Addr) (hSf : S ∉ fp) (xs : List Str) (hn : xs.length = n) (hfew : n < 1000) (hval : ∀ i v, Pv i v → ∃ x u, xs[i]? = some x ∧ v = .str x u) :
    ∀ (k i : Nat) (s : Shared), n - i = k → i ≤ n → St i s → (∃ ks, TxAt P w s.heap S ks ∧ ks.length ≤ i ∧ ∀ y, y ∈ ks ↔ y ∈ xs.take i) →
      (∀ s' ks, Moved (S :: wr) G s s' → TxAt P w s'.heap S ks → ks.length ≤ n → (∀ y, y ∈ ks ↔ y ∈ xs) → R (.ok (.ret .none)) s') → codeAny (model P w) A (.builtin "set.update.loop" ⟨[.ref S, .ref I], []⟩) R s := by
  have out : S ∉ wr := fun h => hSf (W.sub S h)
  have wider : ∀ b ∈ wr, b ∈ S :: wr := fun b hb => .tail _ hb
  intro k
  induction k with
  | zero =>
    rintro i s e le st ⟨ks, t, l, m⟩ q
    cases (show i = n by omega)
    refine codeAny_builtin PyProof.Rows.F.entry_set_update_loop ?_
    rw [Around.under_plainId PyProof.Rows.F.plain_set_update_loop _]
    show wpAny _ A.in1 (pyNext (.ref I) >>= fun _ => _) _ _ s
    refine wpAny_bind (W.done s _ _ st fun s2 mv => ?_)
    exact wpAny_pure (q s2 ks (mv.mono wider) (t.keep fun o z => mv.heap S o out z) l fun y => by rw [m y, ← hn, List.take_length])
  | succ k ih =>
    rintro i s e le st ⟨ks, t, l, m⟩ q
    have lt : i < n := by omega
    refine codeAny_builtin PyProof.Rows.F.entry_set_update_loop ?_
    rw [Around.under_plainId PyProof.Rows.F.plain_set_update_loop _]
    show wpAny _ A.in1 (pyNext (.ref I) >>= fun _ => _) _ _ s
    refine wpAny_bind (W.item i s _ _ lt st fun v s2 hv st2 mv => ?_)
    obtain ⟨x, u, hx, rfl⟩ := hval i v hv
    obtain ⟨D, hD, t2⟩ := t.keep (h' := s2.heap) fun o z => mv.heap S o out z
    have sb : ks.length < scanBound := by unfold scanBound; omega
    show wpAny _ A.in1 (holding [Value.str x u] (setAdd S (.str x u)) >>= fun _ => _) _ _ s2
    refine wpAny_bind (wpAny_holding ?_)
    unfold setAdd
    refine wpAny_holding (wpAny_bind ((PySem.strKind P w).pyHash (k := x) (Froz.is_str x u) ?_))
    have stay : ∀ (h' : Heap) (ks' : List Str), TxAt P w h' S ks' → ks'.length ≤ i + 1 → (∀ y, y ∈ ks' ↔ y ∈ xs.take (i + 1)) → (∀ c, c ≠ S → h'.get? c = s2.heap.get? c) →
        codeAny (model P w) A (.builtin "set.update.loop" ⟨[.ref S, .ref I], []⟩) R { s2 with heap := h', toks := s2.toks + 1 } := fun h' ks' t' l' m' oth => by
      refine ih (i + 1) _ (by omega) lt (W.frame _ s2 _ _ st2 (Nat.le_succ _) fun b hb o z => ?_) ⟨ks', t', l', m'⟩ fun s3 ks3 mv3 t3 l3 m3 => ?_
      · rw [oth b fun z2 => hSf (z2 ▸ hb)]; exact z
      · refine q s3 ks3 (Moved.trans W.gtrans ((mv.mono wider).then_heap (Nat.le_succ _) fun b o hb z => ?_) mv3) t3 l3 m3
        rw [oth b fun z2 => hb (z2 ▸ .head _)]; exact z
    by_cases hk : x ∈ ks
    · refine tx_dup (s := { s2 with toks := s2.toks + 1 }) hD t2 hk sb ?_
      exact wpAny_pure ⟨plainId_quiet PyProof.Rows.F.plain_set_update_loop _, stay s2.heap ks ⟨D, hD, t2⟩ (by omega) (fun y => by
        rw [take_mem hx, ← m y]
        exact ⟨.inl, fun z => z.elim id fun z => z ▸ hk⟩) fun _ _ => rfl⟩
    · refine Froz.add_x (s := { s2 with toks := s2.toks + 1 }) hD t2.ok hk (by unfold scanBound; omega) ?_
      refine wpAny_pure ⟨plainId_quiet PyProof.Rows.F.plain_set_update_loop _, stay _ (x :: ks) ⟨_, Froz.get_upd _ hD rfl, t2.add hk u⟩ (by simp; omega) (fun y => ?_) fun c hc => ?_⟩
      · rw [take_mem hx, ← m y, List.mem_cons]
        exact Or.comm
      · exact Heap.get?_update_other _ _ (Ne.symm hc)
end
end Dl

namespace Dl
open PySem PySem.Spec L2
open PyProof.Rows hiding St Binds
section
variable {P : Program} {w : World} {A : Around} {E : Value → Shared → Prop} {s : Shared}
abbrev setNew (w : World) : Obj := { cls := .type "set", dict := none, data := .set #[] 0 (.fresh 0 0 (!w.params.followText "set-order")) }
theorem txAt_new {h : Heap} {a : Addr} (ho : h.get? a = some (setNew w)) : TxAt P w h a [] :=
  ⟨(#[], 0, .fresh 0 0 (!w.params.followText "set-order")), ho, Froz.TxOk.nil rfl, List.nodup_nil, .refl _, fun e he => (List.not_mem_nil he).elim, List.Pairwise.nil, by
    show _ ∨ (!w.params.followText "set-order") = true
    cases w.params.followText "set-order" <;> simp⟩
/-- set(xs), xs a list of texts -/
theorem tx_call {l : Addr} {items : Array Value} {xs : List Str} {Q : Value → Shared → Prop} (hh : A.handled = none) (hl : s.heap.IsList l items) (hi : StrsAre items.toList xs) (few : xs.length < 1000)
    (k : ∀ (h' : Heap) (tk : Nat) (ks : List Str), TxAt P w h' s.heap.objs.size ks → ks.length ≤ xs.length → (∀ y, y ∈ ks ↔ y ∈ xs) → (∀ b o, s.heap.get? b = some o → h'.get? b = some o) → Q (.ref s.heap.objs.size) { s with heap := h', toks := tk }) :
    wpAny (model P w) A (call (.type "set") [.ref l]) Q E s := by
  have m1 := PySem.F.called_set.mro
  obtain ⟨c, tl, m1⟩ := m1
  have m2 := PySem.F.called_set.made; have m3 := PySem.F.called_set.sub; have m4 := PySem.F.called_set.notType; have m5 := PySem.F.called_set.canCreate; have m6 := PySem.F.typeCall_set_1 (.ref l)
  refine wpAny_call (codeAny_of_tree ?_); show wpAny _ _ (callAny (.type "set") _) _ _ _
  refine wpAny_pure ⟨Code.quiet_builtin _ (by decide +kernel), codeAny_builtin PySem.F.entry_type_call ?_⟩; rw [Around.under_plain (weight_type_call_type "set" [.ref l] []) rfl]
  repeat (any_goals (first | assumption | wp_step))
  refine codeAny_mono (L2.code_set_led1 (.ref l) (E := E) (Q₁ := fun v z => v = .ref s.heap.objs.size ∧ z = { s with heap := s.heap.push (setNew w) }) ⟨rfl, rfl⟩) fun r z hr => ?_
  match r, hr with
  | .error e, hr => exact hr
  | .ok .next, hr => exact hr.elim
  | .ok .brk, hr => exact hr.elim
  | .ok .cont, hr => exact hr.elim
  | .ok (.ret v), ⟨e1, e2⟩ =>
  subst e1 e2
  have hS : (s.heap.push (setNew w)).get? s.heap.objs.size = some (setNew w) := Heap.get?_push_size _ rfl
  have hT : Shared.TypeIs { s with heap := s.heap.push (setNew w) } (.ref s.heap.objs.size) "set" := ⟨_, hS, rfl⟩
  have n1 := PySem.F.called_set.init.lookup; have n2 := PySem.F.called_set.init.bind (.ref s.heap.objs.size)
  repeat (any_goals (first | assumption | wp_step))
  refine codeAny_mono (codeAny_call_builtin (R := wants (fun r z => r = .none ∧ ∃ h' tk ks, z = { s with heap := h', toks := tk } ∧ TxAt P w h' s.heap.objs.size ks ∧ ks.length ≤ xs.length ∧ (∀ y, y ∈ ks ↔ y ∈ xs) ∧ ∀ b o, s.heap.get? b = some o → h'.get? b = some o) E) PySem.F.called_set.init.plain PySem.F.entry_set_init (check_set_init_1 hT ?_)) fun r2 z2 hr2 => ?_
  · obtain ⟨⟨oc, od, odata, osl⟩, hol, hcl, nl, hdl⟩ := hl
    simp only at hcl hdl; subst hcl; subst hdl
    have hl1 : (s.heap.push (setNew w)).IsList l items := ⟨_, Heap.get?_push_of_some _ hol, rfl, nl, rfl⟩
    have hol' : (s.heap.push (setNew w)).get? l = some ⟨.type "list", od, .seq items nl, osl⟩ := Heap.get?_push_of_some _ hol
    have b1 := PySem.F.sub_list_set; have b2 := PySem.F.sub_list_frozenset; have b3 : (Value.type "list" == Value.type "dict") = false := by decide
    unfold Builtin.«set.__init__» noKeywords Builtin.Frozenset.updateFrom
    generalize hit : pyIter = it
    wp_walk
    subst hit
    have z1 : (s.heap.push (setNew w)).objs.size = s.heap.objs.size + 1 := Heap.size_push ..
    have hlS : l < s.heap.objs.size := Heap.lt_size hol
    have nI : l ≠ (s.heap.push (setNew w)).objs.size := by rw [z1]; exact Nat.ne_of_lt (Nat.lt_succ_of_lt hlS)
    have nS : s.heap.objs.size ∉ [(s.heap.push (setNew w)).objs.size, l] := by
      rw [z1]; simp only [List.mem_cons, List.not_mem_nil, or_false, not_or]; exact ⟨Nat.ne_of_lt (Nat.lt_succ_self _), Nat.ne_of_gt hlS⟩
    have sz : xs.length = items.size := by rw [← StrsAre.len_eq hi, Array.length_toList]
    have hd3 : A.in1.in1.in1.handled = none := by simp [hh]
    refine wpAny_pyIter_list hl1 (wpAny_bind (wpAny_runValue (tx_loop ((Walks.list hd3 _ l nI items).toS) s.heap.objs.size nS xs sz (by rw [← sz]; exact few) (fun i v hv => ?_) (items.size - 0) 0 _ (by omega) (Nat.zero_le _)
      ⟨⟨_, Heap.get?_push_size _ rfl, rfl, rfl⟩, hl1.push _⟩ ⟨[], txAt_new (Heap.get?_push_of_some _ hS), Nat.le_refl _, fun y => by simp⟩ fun s2 ks mv t l2 m => ?_)))
    · have hv' : items.toList[i]? = some v := by rw [Array.getElem?_toList]; exact hv
      obtain ⟨u, e⟩ := _root_.SS.strs_at hi i v hv'
      have lt : i < xs.length := by rw [sz, ← Array.length_toList]; exact (List.getElem?_eq_some_iff.mp hv').1
      exact ⟨xs[i], u, List.getElem?_eq_getElem lt, by rw [e]; simp [List.getD, lt]⟩
    · obtain ⟨h', g2, d2, tk2, os2⟩ := s2
      have e1 : g2 = s.gens := mv.gens
      have e2 : d2 = s.drawn := mv.drawn
      have e3 : os2 = s.os := mv.os
      subst e1 e2 e3
      show wpAny _ _ _ _ _ _
      refine wpAny_pure (show wpAny _ _ (ret Value.none) _ _ _ from wpAny_pure ⟨rfl, h', tk2, ks, rfl, t, by rw [sz]; exact l2, m, fun b o e => ?_⟩)
      have lb : b < s.heap.objs.size := Heap.lt_size e
      refine mv.heap b o (fun z => ?_) (Heap.get?_push_of_some _ (Heap.get?_push_of_some _ e))
      rw [z1] at z
      simp only [List.mem_cons, List.not_mem_nil, or_false] at z
      exact z.elim (fun z => Nat.ne_of_lt lb z) fun z => Nat.ne_of_lt (Nat.lt_succ_of_lt lb) z
  · match r2, hr2 with
    | .error e, hr2 => exact hr2
    | .ok .next, hr2 => exact hr2.elim
    | .ok .brk, hr2 => exact hr2.elim
    | .ok .cont, hr2 => exact hr2.elim
    | .ok (.ret v), ⟨e, h', tk, ks, ez, t, l2, m, kp⟩ =>
      subst e ez
      repeat (any_goals (first | assumption | wp_step))
      exact k h' tk ks t l2 m kp
/-- sorted(s), s a set of texts -/
theorem tx_sorted {a : Addr} {ks : List Str} {Q : Value → Shared → Prop} (t : TxAt P w s.heap a ks) (hh : A.handled = none) (h64 : ks.length < 64)
    (hQ : ∀ s' p (out : Array Value) (c : Nat) (ys : List Str), (∀ b o, s.heap.get? b = some o → s'.heap.get? b = some o) → s'.gens = s.gens → s'.os = s.os → s.heap.objs.size ≤ p → s'.heap.get? p = some (seqObj "list" out c) →
      StrsAre out.toList ys → ys.Perm ks → sortedS ys = true → Q (.ref p) s') : wpAny (model P w) A (call (.builtin "sorted") [.ref a]) Q E s := by
  obtain ⟨⟨es, ep, tb⟩, ho, t⟩ := t
  have hz : es.size = ks.length := t.ok.sz
  refine Calls.call_function_entry kind_sorted plain_sorted entry_sorted (args_sorted1 _) ?_; unfold Builtin.«sorted»
  refine wpAny_bind (m := checkCount "sorted" 1 1 _) (wpAny_pure (wpAny_bind (L2.collect_set (A := A.in1) hh ⟨_, ho, rfl, rfl⟩ t.ok.fit (show es.size < scanBound by unfold scanBound; omega) t.ri t.le fun s1 vs k1 z g1 o1 pm => ?_)))
  have hv : ∀ v ∈ vs, ∃ x u, v = Value.str x u := fun v hv => by
    obtain ⟨e, he, q⟩ := List.mem_map.mp (pm.mem_iff.mp hv)
    obtain ⟨x, u, q2⟩ := t.tx e he
    exact ⟨x, u, q.symm.trans q2⟩
  have hS := strsAre_map vs hv
  have pk : (vs.map strOf).Perm ks := by
    have q := pm.map strOf
    rw [List.map_map] at q
    exact q.trans t.pm
  have vl : vs.length = ks.length := by rw [← pk.length_eq, List.length_map]
  refine wpAny_bind (wpAny_newList ?_ (by rw [vl, sizeLine_eq]; omega))
  have hL : (s1.heap.push (seqObj "list" vs.toArray 0)).get? s1.heap.objs.size = some (seqObj "list" vs.toArray 0) := Heap.get?_push_size _ rfl
  refine wpAny_bind (wpAny_holding (wpAny_call_entry slot_list_sort ⟨_, hL, rfl⟩ entry_list_sort (list_sort_treeKAny strKind_oneLt hL hS.keysOf (fun v₁ v₂ r e => keyKind_strs (by rw [← e]; exact hS)) (by rw [vl, sizeLine_eq]; omega) fun st q1 q2 => ⟨_, rfl, ?_⟩) (args_list_sort _)))
  obtain ⟨c, hc⟩ := sortedHeap_at (vs := vs) (out := (arrOf st).map (·.2)) hL
  obtain ⟨ys, y1, y2, y3⟩ := sorted_out_str hS q1 q2
  refine wpAny_pure ⟨_, rfl, hQ _ s1.heap.objs.size ((arrOf st).map (·.2)) c ys (fun b o e => ?_) g1 o1 z hc y1 (y2.trans pk) y3⟩
  have lb := Heap.lt_size (k1 b o e)
  show (sortedHeap (s1.heap.push (seqObj "list" vs.toArray 0)) s1.heap.objs.size vs _).get? b = some o
  rw [sortedHeap_old (Nat.ne_of_lt lb) (by rw [size_push']; exact Nat.lt_succ_of_lt lb)]; exact Heap.get?_push_of_some _ (k1 b o e)
end
end Dl

namespace Dl
open PySem PySem.Spec L2
open PyProof.Rows hiding St Binds
def tSS (K : PySem.W.Frag) (ta : TE) : TE := fun σ H Q => ta σ H fun x H1 => ∃ (l : Addr) (xs : List Str), x = .ref l ∧ SqL K H1 l (xs.map V.str) ∧ xs.length < 1000 ∧ (∃ ns : List Str, ns.length < 64 ∧ ∀ y ∈ xs, y ∈ ns) ∧
  ∀ (ys : List Str) (p : Addr), ys.Nodup → (∀ y, y ∈ ys ↔ y ∈ xs) → sortedS ys = true → H1 p = none → Q (.ref p) (upd H1 p (.lst (ys.map V.str)))
section
variable {X : Cx} {a : Expr} {ta : TE} {p p2 q pos : Pos} {W : WX} {f : FE}
theorem sortSet_fin {pins : List (Addr × Obj)} {σ : L2.St} {H : Hp} {s : Shared} {l : Addr} {ks : List Str} {Q : VK} (hc : X.calm = true) (I : Inv X pins σ H s) (t : TxAt X.prog X.w s.heap l ks) (h64 : ks.length < 64)
    (k : ∀ (ys : List Str) (p : Addr), ys.Perm ks → ys.Nodup → sortedS ys = true → H p = none → Q (.ref p) (upd H p (.lst (ys.map V.str)))) : wpAny (model X.prog X.w) X.A (call (.builtin "sorted") [.ref l]) (EP X pins σ Q) X.xe s := by
  refine tx_sorted (P := X.prog) (w := X.w) t (I.ok.hd hc) h64 fun s' p out c ys kp eg eo lp hp hS pm so => ?_
  have hn : H p = none := I.hok.fresh lp
  have ol : (ys.map V.str).length ≤ sizeLine := by rw [List.length_map, pm.length_eq, sizeLine_eq]; omega
  obtain ⟨D, _, td⟩ := t
  have J : Inv X pins σ (upd H p (.lst (ys.map V.str))) { s with heap := s'.heap, gens := s'.gens, drawn := s'.drawn, toks := s'.toks } :=
    I.call (ch := []) (Un.laid kp lp hn) (I.hok.laid kp lp ⟨ol, out.toList, c, vals_of_strs hS, hp⟩) (by rw [eg]; exact I.bare) (fun _ z => nomatch z)
  have e : s' = { s with heap := s'.heap, gens := s'.gens, drawn := s'.drawn, toks := s'.toks } := by cases s'; cases s; cases eo; rfl
  rw [e]
  exact ⟨.ref p, _, J, rfl, k ys p pm (pm.nodup_iff.mpr td.nd) so hn⟩
theorem pe_sortSet (hc : X.calm = true) (hg : Gl X "sorted") (hm : X.mg "sorted" = none) (hg2 : Gl X "set") (hm2 : X.mg "set" = none) (ha : PE X a ta)
    (na : starEach [a] X.env = (false, eval a X.env) :: starEach [] X.env := by rfl) : PE X (.Call (.Name "sorted" p) [.Call (.Name "set" p2) [a] [] q] [] pos) (tSS X.K ta) := by
  refine ⟨fun pins s σ H Q I h => Call_ (ld_blt I hg hm (by rfl) ?_)⟩
  refine PyProof.Rows.callWith_builtin1 (PyProof.Rows.args_cons (Call_ (ld_blt I hg2 hm2 (by rfl) ?_)) rfl) rfl rfl
  refine PyProof.Rows.callWith_type1 (PyProof.Rows.args_cons (thn (ha.run pins s σ H _ I h) fun v s1 ⟨x, H1, I1, r1, q1⟩ => PyProof.Rows.args_nil ?_) na) na rfl
  obtain ⟨l, xs, rfl, hq, h64, ⟨ns, n64, sub⟩, q1⟩ := q1
  cases r1
  obtain ⟨its, rv, pl, hz⟩ := I1.list hq
  refine tx_call (P := X.prog) (w := X.w) (I1.ok.hd hc) pl.isList (by simpa using L2.strsAre_of rv) (by omega) fun h' tk ks t lk m keep => ?_
  have I2 : Inv X pins σ H1 { s1 with heap := h', toks := tk } := I1.kept keep
  refine PyProof.Rows.args_nil ?_
  have few : ks.length ≤ ns.length := by
    obtain ⟨D, _, td⟩ := t
    exact nodup_le td.nd fun y hy => sub y ((m y).mp hy)
  exact sortSet_fin hc I2 t (by omega) fun ys p pm nd so hn => q1 ys p nd (fun y => by rw [pm.mem_iff, m y]) so hn
/-- sorted(set(texts)) -/
def fSS (f : FE) : FE := fun ρ μ Q E => f ρ μ (fun d m => ∃ xs : List Str, asL m d = some (xs.map .str) ∧ xs.length < 1000 ∧ (∃ ns : List Str, ns.length < 64 ∧ ∀ y ∈ xs, y ∈ ns) ∧
  ∀ ys : List Str, ys.Nodup → (∀ y, y ∈ ys ↔ y ∈ xs) → sortedS ys = true → Q (.lst (ys.map .str)) m) E
theorem ats_strs {K : PySem.W.Frag} {ι : Io} {H : Hp} : ∀ {vs : List V} {ys : List Str}, Ats K ι H vs (ys.map D.str) → vs = ys.map V.str
  | vs, [], r => Ats.unnil r
  | vs, y :: ys, r => by
    obtain ⟨v, vs', rfl, a, r'⟩ := Ats.uncons (ds := ys.map D.str) (d := .str y) r
    cases a
    rw [ats_strs r']; rfl
theorem ats_of_strs {K : PySem.W.Frag} {ι : Io} {H : Hp} : ∀ (ys : List Str), Ats K ι H (ys.map V.str) (ys.map D.str)
  | [] => .nil
  | y :: ys => Ats.cons (.str y) (ats_of_strs ys)
theorem de_sortSet (hc : X.calm = true) (hg : Gl X "sorted") (hm : X.mg "sorted" = none) (hg2 : Gl X "set") (hm2 : X.mg "set" = none) (ha : DE X W a f)
    (na : starEach [a] X.env = (false, eval a X.env) :: starEach [] X.env := by rfl) : DE X W (.Call (.Name "sorted" p) [.Call (.Name "set" p2) [a] [] q] [] pos) (fSS f) :=
  ⟨fun ρ μ Q Q' E E' hq he z => ha.mono ρ μ _ _ E E' (fun d m ⟨xs, e, l, l2, z⟩ => ⟨xs, e, l, l2, fun ys h1 h2 h3 => hq _ _ (z ys h1 h2 h3)⟩) he z,
   PE.imp (pe_sortSet hc hg hm hg2 hm2 ha.run na) fun σ H Q ⟨ι, ρ, μ, r, l, z⟩ => chain1 ha.mono r l z fun d μ1 ι1 H1 v ⟨xs, e, lx, l2, z⟩ g1 r1 l1 a1 => by
    obtain ⟨b, vs, rfl, hb, hv⟩ := asL_at r1 a1 e
    cases ats_strs hv
    exact ⟨b, xs, rfl, SqL.of hb, lx, l2, fun ys p h1 h2 h3 hp => z ys h1 h2 h3 ι1 _ _ (g1.trans (Gr.new hp (r1.free hp))) (r1.new hp) (.newL hp (r1.free hp) (ats_of_strs ys))⟩⟩
end
/-! ints bit by bit -/
theorem or_eq_add (i : Nat) : ∀ j : Nat, i ||| j = (i ^^^ j) + (i &&& j) := by
  induction i using Nat.strongRecOn with
  | _ i ih =>
    intro j
    by_cases h : i = 0
    · subst h; simp
    · have h2 := ih (i / 2) (by omega) (j / 2)
      have d1 : (i ||| j) / 2 = (i / 2 ||| j / 2) := Nat.or_div_two
      have d2 : (i ^^^ j) / 2 = (i / 2 ^^^ j / 2) := Nat.xor_div_two
      have d3 : (i &&& j) / 2 = (i / 2 &&& j / 2) := Nat.and_div_two
      have m1 : (i ||| j) % 2 = (i ^^^ j) % 2 + (i &&& j) % 2 := by
        have a1 := @Nat.or_mod_two_eq_one i j
        have a2 := @Nat.xor_mod_two_eq_one i j
        have a3 := @Nat.and_mod_two_eq_one i j
        have c1 := Nat.mod_two_eq_zero_or_one i
        have c2 := Nat.mod_two_eq_zero_or_one j
        have b1 := Nat.mod_two_eq_zero_or_one (i ||| j)
        have b2 := Nat.mod_two_eq_zero_or_one (i ^^^ j)
        have b3 := Nat.mod_two_eq_zero_or_one (i &&& j)
        rcases c1 with c1 | c1 <;> rcases c2 with c2 | c2 <;> omega
      omega
theorem bor_nat (i j : Nat) : Builtin.bitOr (i : Int) (j : Int) = ((i ||| j : Nat) : Int) := by
  have h : ∀ n : Nat, Builtin.bitNot (n : Int) < 0 := fun n => by unfold Builtin.bitNot; omega
  have h2 : ∀ n : Nat, (Builtin.bitNot (Builtin.bitNot (n : Int))).toNat = n := fun n => by unfold Builtin.bitNot; omega
  unfold Builtin.bitOr Builtin.bitAnd
  rw [decide_eq_false (by have := h i; omega), decide_eq_false (by have := h j; omega)]
  dsimp only
  rw [h2, h2]
  unfold Builtin.bitNot
  omega
theorem bxor_nat (i j : Nat) : Builtin.bitXor (i : Int) (j : Int) = ((i ^^^ j : Nat) : Int) := by
  unfold Builtin.bitXor
  rw [bor_nat, or_eq_add, show Builtin.bitAnd (i : Int) (j : Int) = ((i &&& j : Nat) : Int) from rfl]
  omega
section
variable {X : Cx}

def bandI : G2 := fun x y μ Q => ∃ i j : Nat, x = .int i ∧ y = .int j ∧ Q (.int ((i &&& j : Nat) : Int)) μ
def borI : G2 := fun x y μ Q => ∃ i j : Nat, x = .int i ∧ y = .int j ∧ Q (.int ((i ||| j : Nat) : Int)) μ
def bxorI : G2 := fun x y μ Q => ∃ i j : Nat, x = .int i ∧ y = .int j ∧ Q (.int ((i ^^^ j : Nat) : Int)) μ
theorem opd_band : OpD X (binaryOp .BitAnd) bandI := (opd_ii0 (gd := fun i j => .int (Builtin.bitAnd i j)) op_and fun _ _ _ _ _ => .int _).imp (fun x y μ Q Q' h ⟨i, j, e1, e2, q⟩ => ⟨i, j, e1, e2, h _ _ q⟩) fun x y μ Q ⟨i, j, e1, e2, q⟩ => ⟨_, _, e1, e2, q⟩
theorem opd_bor : OpD X (binaryOp .BitOr) borI := (opd_ii0 (gd := fun i j => .int (Builtin.bitOr i j)) op_or fun _ _ _ _ _ => .int _).imp (fun x y μ Q Q' h ⟨i, j, e1, e2, q⟩ => ⟨i, j, e1, e2, h _ _ q⟩) fun x y μ Q ⟨i, j, e1, e2, q⟩ => ⟨_, _, e1, e2, by rw [bor_nat]; exact q⟩
theorem opd_bxor : OpD X (binaryOp .BitXor) bxorI := (opd_ii0 (gd := fun i j => .int (Builtin.bitXor i j)) op_xor fun _ _ _ _ _ => .int _).imp (fun x y μ Q Q' h ⟨i, j, e1, e2, q⟩ => ⟨i, j, e1, e2, h _ _ q⟩) fun x y μ Q ⟨i, j, e1, e2, q⟩ => ⟨_, _, e1, e2, by rw [bxor_nat]; exact q⟩
end
end Dl

/-! DlH: enumerate(zip(a, b)): the zip's pair stays out, so its next turn finds it held or gone. -/
namespace Dl
open PySem
open PySem.Sem (wp)

/-- a zip in any of its moods: v tells which pair is out -/
abbrev ZX (h : Heap) (z TI TO : Addr) (v : Value) (f : Bool) : Prop :=
  h.get? z = some { cls := .type "zip", dict := none, data := .fields #[v, .bool f, .bool false, .ref TI, .ref TO], slots := #[] }
def Mood (v : Value) : Prop := v = .none ∨ ∃ T : Addr, v = rawInt T
abbrev P2 (h : Heap) (T : Addr) (x y : Value) : Prop := h.get? T = some { cls := .type "tuple", data := .seq #[x, y] }
section
variable {prog : Program} {w : World} {A : Around} {E : Value → Shared → Prop} {s : Shared} {z TI TO i1 i2 : Addr} {fa fb : List Addr} {na nb k : Nat} {Pa Pb : Nat → Value → Prop} {Sa Sb : Nat → Heap → Prop} {v : Value} {f : Bool}

/-- the state of a zip of two iterators -/
def ZS (z TI TO i1 i2 : Addr) (Sa Sb : Nat → Heap → Prop) (k : Nat) (h : Heap) : Prop :=
  (∃ v f, ZX h z TI TO v f ∧ Mood v) ∧ P2 h TI (.ref i1) (.ref i2) ∧ (∃ x y, P2 h TO x y) ∧ Sa k h ∧ Sb k h

end

/-! ### one is made -/
end Dl

/-! DlHa: for i, (x, y) in enumerate(zip(xs, ys)), two lists or two tuples. -/
namespace Dl
open PySem PySem.Spec L2
open PyProof.Rows hiding St Binds

theorem ZS.imp {z TI TO i1 i2 : Addr} {Sa Sb Ta Tb : Nat → Heap → Prop} {k : Nat} {h : Heap} (a : ZS z TI TO i1 i2 Sa Sb k h) (f : Sa k h → Ta k h) (g : Sb k h → Tb k h) : ZS z TI TO i1 i2 Ta Tb k h :=
  ⟨a.1, a.2.1, a.2.2.1, f a.2.2.2.1, g a.2.2.2.2⟩
theorem ZS.keep {z TI TO i1 i2 : Addr} {Sa Sb : Nat → Heap → Prop} {k : Nat} {h h' : Heap} (st : ZS z TI TO i1 i2 Sa Sb k h) (f : ∀ b ∈ [z, TI, TO], ∀ o, h.get? b = some o → h'.get? b = some o) (fa : Sa k h → Sa k h') (fb : Sb k h → Sb k h') : ZS z TI TO i1 i2 Sa Sb k h' := by
  obtain ⟨⟨v, g, hz, mo⟩, hI, ⟨x, y, hO⟩, a, b⟩ := st
  exact ⟨⟨v, g, f z (by simp) _ hz, mo⟩, f TI (by simp) _ hI, ⟨x, y, f TO (by simp) _ hO⟩, fa a, fb b⟩

/-! ### the loop's head -/
/-! ### at values -/
section
variable {X : Cx} {W : WX} {a b : Expr} {fl : FA} {p p2 pos pos2 tpos : Pos} {elts : List Expr} {kk : Nat}
end
end Dl

/-! DlHb: for i, x in enumerate(xs), a list or a tuple. -/
namespace Dl
open PySem PySem.Spec L2
open PyProof.Rows hiding St Binds

set_option maxHeartbeats 8000000 in
/-! ### at values -/
section
variable {X : Cx} {W : WX} {e a b : Expr} {f : FE} {p p2 pos pos2 tpos : Pos} {elts : List Expr} {kk : Nat}
end
end Dl

/-! DlHc: defs of a class, constants of the module, isinstance with two types, == of dicts. -/
namespace Dl
open PySem PySem.Spec L2
open PyProof.Rows hiding St Binds

section
variable {P : Program} {w : World} {K : PySem.W.Frag} {mg : Str → Option Value} {base : Heap} {x cn qual : Str} {st : Stmt} {C f : Addr} {fd : FuncData} {N ps : List Str} {k : Nat} {F : FD} {fs : FS}
/-- a class by its __init__ -/
theorem mak_fun (Fu : FunA K x qual st f fd) (S : FnScope N ps (defScope st)) (hm : mg cn = some (.ref C)) (M : Mk K C f) (hb : L2.Binds K fd ps []) (mono : MonF F) (len : ∀ ds μ Q E, F ds μ Q E → ds.length = ps.length)
    (body : ∀ (cdv : Value) (A : Around) (outer : List Env) (s : Shared) (H : Hp) (E : XK), (A.deeper (envOfC qual (defScope st) s.heap.objs.size f cdv)).guards = some [] → Room k (A.deeper (envOfC qual (defScope st) s.heap.objs.size f cdv)) →
      DB (cxOf (L2.CX P w) P w K mg base N qual (defScope st) f cdv A outer s H E) (fun c d _ H' => E c d H') (defBody st) fs)
    (sem : ∀ ds μ Q E, F ds μ Q E → fs (endK μ.length Q E) (startD N.length ds) μ) : Mak P w K mg base (k + 1) cn C F [] :=
  ⟨mono, f, fd, ps, [], [], fn_body Fu S len body sem, hm, M, hb, .nil, fun _ _ => Ats.nil⟩
/-- a method -/
theorem met_fun (Fu : FunA K x qual st f fd) (S : FnScope N ps (defScope st)) (c : Cls K C) (M : Meth K C x f) (hb : L2.Binds K fd ps []) (mono : MonF F) (len : ∀ ds μ Q E, F ds μ Q E → ds.length = ps.length)
    (body : ∀ (cdv : Value) (A : Around) (outer : List Env) (s : Shared) (H : Hp) (E : XK), (A.deeper (envOfC qual (defScope st) s.heap.objs.size f cdv)).guards = some [] → Room k (A.deeper (envOfC qual (defScope st) s.heap.objs.size f cdv)) →
      DB (cxOf (L2.CX P w) P w K mg base N qual (defScope st) f cdv A outer s H E) (fun c d _ H' => E c d H') (defBody st) fs)
    (sem : ∀ ds μ Q E, F ds μ Q E → fs (endK μ.length Q E) (startD N.length ds) μ) : Met P w K mg base (k + 1) C x F [] :=
  ⟨mono, c, f, fd, ps, [], [], fn_body Fu S len body sem, M, hb, .nil, fun _ _ => Ats.nil⟩
/-- a def with one default None, by its object, and its binding when all is given -/
theorem fun_mk1 {oc : Value} {od an : Option Addr} {osl : Array (Option Value)} {dV kV doc pm cdv ct : Value} (l : K.lookup f = some ⟨oc, od, .func (PySem.W.fnOf x qual (defArgs st) (defBody st) (defScope st) dV kV doc pm an cdv ct), osl⟩) (c : PySem.W.codeIn K cdv qual = true) :
    FunA K x qual st f (PySem.W.fnOf x qual (defArgs st) (defBody st) (defScope st) dV kV doc pm an cdv ct) := ⟨_, _, _, _, _, _, _, _, _, _, rfl, l, c⟩
end

section
variable {X : Cx} {W : WX} {a b e : Expr} {es : List Expr} {f fa fb : FE} {fl : FA} {pos p tpos : Pos} {x : Str}
theorem de_mi {i : Int} {t : Tok} (hg : Gl X x) (hm : X.mg x = some (.int i t)) (hd : (x == ("__debug__" : Str)) = false := by decide) : DE X W (.Name x pos) (fC (.int i)) := de_k (pe_glob (v := .int i) hg hm ⟨_, rfl⟩ hd) fun _ _ => .int i
/-- a tuple of texts that stands in the module -/
theorem strs_ats {K : PySem.W.Frag} {ι : Io} {H : Hp} : ∀ ss : List Str, Ats K ι H (ss.map V.str) (ss.map D.str)
  | [] => Ats.nil
  | s :: ss => Ats.cons (.str s) (strs_ats ss)
theorem de_mt {T : Addr} {ss : List Str} (hg : Gl X x) (hm : X.mg x = some (.ref T)) (lT : ∀ H0 : Hp, SqT X.K H0 T (ss.map V.str)) (hd : (x == ("__debug__" : Str)) = false := by decide) : DE X W (.Name x pos) (fC (.tup (ss.map .str))) :=
  de_k (pe_glob (v := .ref T) hg hm rfl hd) fun ι H => .ktup lT (by simp) (strs_ats (K := X.K) (ι := ι) (H := H) ss).2
/-! ### isinstance(x, (A, B)), built-in types -/
end
end Dl

/-! DlHd: comprehensions whose step needs bounds; comprehensions that make a dict. -/
namespace Dl
open PySem PySem.Spec L2
open PyProof.Rows hiding St Binds
theorem bdS_lst {m : Sto} {acc : List D} (bm : bdS m.length m = true) (h : bdL m.length acc = true) : bdS (m ++ [CT.lst acc]).length (m ++ [CT.lst acc]) = true := by
  rw [bdS_app, Bool.and_eq_true]
  have le : m.length ≤ (m ++ [CT.lst acc]).length := by simp
  exact ⟨bdS_mono le bm, by
    show ([CT.lst acc].all (CT.bd _)) = true
    rw [List.all_cons, List.all_nil, Bool.and_true]
    exact bdL_mono le h⟩
section
variable {g : FG} {ft : FT} {fe fk fv : FE} {vs : List Nat} {ρ : Rho} {Q : QD}
end
/-! ### k in d, as a test -/
section
variable {X : Cx} {W : WX} {a o : Expr} {fa fo : FE} {pos : Pos}
end
end Dl

/-! DlHf: walks over a dict that is a cell: it is locked meanwhile. -/
namespace Dl
open PySem PySem.Spec L2
open PyProof.Rows hiding St Binds
section
variable {K : PySem.W.Frag} {ι : Io} {H : Hp} {n : Nat} {a : Addr} {ob : Obj} {kv : List (Key × V)} {kd : List (Key × D)}
theorem walks_itemsC (hn : ι[n]? = some a) : Walks K (Iti a ob kv) ι H (kd.map fun q => D.tup [kOf q.1, q.2]) (fun μ' => μ'[n]? = some (.lck ob kv kd)) := by
  refine ⟨fun ι' H' μ' i x g r s hx => ?_, fun ι' H' μ' i g r s hx => ?_⟩
  · obtain ⟨h1, p⟩ := r.at_ n a _ (g.pre n a hn) s
    rw [List.getElem?_map, Option.map_eq_some_iff] at hx
    obtain ⟨q, hq, rfl⟩ := hx
    have hi : i < kv.length := by rw [p.length]; exact (List.getElem?_eq_some_iff.mp hq).1
    refine ⟨⟨h1, hi⟩, fun v H2 hy => ?_⟩
    obtain ⟨T, k, w, e, rfl, hT, rfl⟩ := hy
    have z := congrArg (fun l => l[i]?) p.1
    simp only [List.getElem?_map, e, hq, Option.map_some] at z
    refine ⟨Gr.new hT (r.free hT), r.new hT, .newT hT (r.free hT) (Ats.cons ?_ (Ats.cons (p.2 i _ _ e hq) Ats.nil))⟩
    have e' : k = q.1 := Option.some.inj z
    rw [e']
    exact kOf_at
  · obtain ⟨h1, p⟩ := r.at_ n a _ (g.pre n a hn) s
    exact ⟨h1, by rw [p.length]; simpa using Nat.le_of_eq hx⟩
end
/-- what walks the dict in the i-th slot -/
structure WC (X : Cx) (tg iter : Expr) (i : Nat) (its : List (Key × D) → List D) : Prop where
  run : ∃ (wi : TI) (J : Addr → Obj → List (Key × V) → It), PI X tg iter wi ∧ (∀ (σ : L2.St) (H : Hp) (a : Addr) (od : Obj) (kv : List (Key × V)) (R : It → Hp → Prop), σ[i]? = some (some (.ref a)) → R (J a od kv) (upd H a (.frz od (.dK kv))) → wi σ (upd H a (.frz od (.dK kv))) R) ∧
    ∀ {ι : Io} {H : Hp} {n : Nat} {a : Addr} {ob : Obj} {kv : List (Key × V)} {kd : List (Key × D)}, ι[n]? = some a → Walks X.K (J a ob kv) ι H (its kd) (fun μ' => μ'[n]? = some (.lck ob kv kd))
section
variable {X : Cx} {W : WX} {tg iter kx vx : Expr} {sb : List Stmt} {ifs : List Expr} {scope : Scope} {own : List (Str × Nat)} {its : List (Key × D) → List D} {tgf : FG} {fb : FS} {ft : FT} {fk fv : FE} {pos p : Pos} {x : Str} {i : Nat}
theorem wc_items (i : Nat) {elts : List Expr} {kk : Nat} {tpos apos cpos : Pos} (hbase : attributeBase (.Name x p) "items" X.env (eval (.Name x p) X.env) = eval (.Name x p) X.env := by rfl) (hline : (apos.endLine == cpos.line) = true := by rfl)
    (hN : X.N[i]? = some x := by rfl) (hv : Vis X.env.scope x := by first | exact Or.inl rfl | exact Or.inr (Or.inl rfl) | exact Or.inr (Or.inr rfl)) (hd : (x == ("__debug__" : Str)) = false := by decide) (hcd : (x == ("__classdict__" : Str)) = false := by decide) :
    WC X (.Tuple elts kk tpos) (.Call (.Attribute (.Name x p) "items" apos) [] [] cpos) i (fun kd => kd.map fun q => D.tup [kOf q.1, q.2]) :=
  ⟨_, fun a od kv => Iti a od kv, pi_items (pe_var (pos := p) hN hv hd hcd) hbase hline, fun σ H a od kv R e hR => ⟨_, e, a, od, kv, rfl, upd_same, hR⟩, fun hn => walks_itemsC hn⟩

/-- {k: v for .. in such a dict} -/
def fDcC (i : Nat) (its : List (Key × D) → List D) (tgf : FG) (ft : FT) (fk fv : FE) (vs : List Nat) : FE := fun ρ μ Q _ => ∃ n kd, ρ[i]? = some (some (.cell n)) ∧ μ[n]? = some (.dct kd) ∧ ∀ ob kv,
  DcI tgf ft fk fv vs (its kd) (fun μ' => μ'[n]? = some (.lck ob kv kd)) ρ (μ.set n (.lck ob kv kd)) (fun d μ' => μ'[n]? = some (.lck ob kv kd) ∧ Q d (μ'.set n (.dct kd)))
theorem mDcC {vs : List Nat} : MonE (fDcC i its tgf ft fk fv vs) := fun ρ μ Q Q' E E' h he ⟨n, kd, e1, e2, z⟩ => ⟨n, kd, e1, e2, fun ob kv => let ⟨I, h0, h1, h2, h3⟩ := z ob kv
  ⟨I, h0, h1, h2, fun μ' z => let ⟨d2, μ2, e, e3, q⟩ := h3 μ' z; ⟨d2, μ2, e, e3, h _ _ q⟩⟩⟩
end
end Dl

/-! DlHg: a number less a truth, lists of numbers in their order. -/
namespace Dl
open PySem PySem.Spec L2
open PyProof.Rows hiding St Binds
section
variable {X : Cx}
end
end Dl

/-! DlHh: two dicts whose values are integers, compared. -/
namespace Dl
open PySem PySem.Spec L2
open PyProof.Rows hiding St Binds
section
variable {X : Cx}
def intsV (l : List (Key × Int)) : List (Key × V) := l.map fun q => (q.1, .int q.2)
def lookI (l : List (Key × Int)) (k : Key) : Option Int := (l.find? fun q => decide (q.1 = k)).map (·.2)
/-- as many, and each one found there -/
def eqKI (la lb : List (Key × Int)) : Bool := la.length == lb.length && la.all fun q => decide (lookI lb q.1 = some q.2)
theorem valV_ints (k : Key) : ∀ l : List (Key × Int), valV (intsV l) k = (lookI l k).map V.int
  | [] => rfl
  | q :: l => by
    have ih := valV_ints k l
    unfold valV lookI intsV at *
    rw [List.map_cons, List.find?_cons, List.find?_cons]
    by_cases h : q.1 = k
    · simp [h]
    · simpa [h] using ih
theorem hits_of {A : Around} {s : Shared} {lb : List (Key × Int)} {vb : List (Key × Value)} (rb : L2.KV (intsV lb) vb) : ∀ {la : List (Key × Int)} {va : List (Key × Value)}, L2.KV (intsV la) va → PySem.W.KeqHits A s vb va (la.all fun q => decide (lookI lb q.1 = some q.2))
  | [], va, r => by
    unfold L2.KV at r
    cases r
    exact .nil
  | q :: la, va, r => by
    unfold L2.KV at r
    cases r with
    | @cons a b as bs h t =>
      obtain ⟨k, w⟩ := b
      obtain ⟨h1, t1, h2⟩ := h
      subst h2
      have h1' : q.1 = k := h1
      subst h1'
      have rest := hits_of (A := A) (s := s) rb (la := la) (va := bs) t
      have o := rb.val q.1
      rw [valV_ints] at o
      cases e : lookI lb q.1 with
      | none =>
        rw [e] at o
        have e2 : valueAt vb q.1 = none := by
          cases e3 : valueAt vb q.1 with
          | none => rfl
          | some y => rw [e3] at o; exact o.elim
        simp only [List.all_cons, e]
        exact .miss e2
      | some j =>
        rw [e] at o
        cases e3 : valueAt vb q.1 with
        | none => rw [e3] at o; exact o.elim
        | some y =>
          rw [e3] at o
          obtain ⟨t2, rfl⟩ := o
          have e4 : decide (some j = some q.2) = decide (q.2 = j) := decide_eq_decide.mpr ⟨fun h => (Option.some.inj h).symm, fun h => by rw [h]⟩
          simp only [List.all_cons, e]
          rw [e4]
          exact .hit e3 (SeqAt.EqAt.int_int _ _ _ _) rest
theorem op_eqD (hu : X.A.units + 1 < cLine) : OpR X (compareOp .Eq) (fun x y H Q => ∃ a b la lb, x = .ref a ∧ y = .ref b ∧ Rd H a (.dK (intsV la)) ∧ Rd H b (.dK (intsV lb)) ∧ Q (.bl (eqKI la lb)) H) := by
  intro pins s σ H x y v u Q I rx ry h
  obtain ⟨a, b, la, lb, rfl, rfl, ha, hb, q⟩ := h
  cases rx
  cases ry
  obtain ⟨_, na, va, ra, da⟩ := dk_rd I.hok ha
  obtain ⟨_, nb, vb, rb, db⟩ := dk_rd I.hok hb
  have la' : va.length = la.length := by rw [← ra.length]; simp [intsV]
  have lb' : vb.length = lb.length := by rw [← rb.length]; simp [intsV]
  refine PySem.W.keq_eq (r := la.all fun q => decide (lookI lb q.1 = some q.2)) na nb da db (by omega) (fun _ => hits_of rb ra) ?_
  rw [la', lb']
  exact ⟨.bl (eqKI la lb), H, I, rfl, q⟩
end
end Dl

/-! DlHi: what `{**d, k: v}` does below: one dict put into another. -/
namespace Dl
open PySem PySem.Spec L2
end Dl

/-! DlHj: `{**m, k: v}` is reckoned. -/
/-! DlHj: `{**m, k: v}` is reckoned. -/
namespace Dl
open PySem PySem.Spec L2
section
variable {X : Cx} {W : WX} {m k v : Expr} {pos : Pos} {tm tk tv : TE}
end
end Dl

/-! DlHk: `{**m, k: v}`, at values. -/
namespace Dl
open PySem PySem.Spec L2
open PyProof.Rows hiding St Binds
section
variable {X : Cx} {W : WX} {m k v : Expr} {pos : Pos} {fm fk fv : FE}
theorem nil_pts {K : PySem.W.Frag} {ι : Io} {H : Hp} {kv : List (Key × V)} (p : Pts K ι H kv []) : kv = [] := by
  have := p.1
  simpa using this
end
end Dl


namespace Dl
open PySem PySem.Spec L2
open PyProof.Rows hiding St Binds
def top (i : Nat) : Stmt := PySem.Challenge.pw_noneorsome_k04_whole_conditions_compared.main.body.getD i (.Pass ⟨0, 0, 0, 0⟩)
def inCls (s : Stmt) (j : Nat) : Stmt := match s with
  | .ClassDef _ _ _ body _ _ _ _ _ _ _ => body.getD j (.Pass ⟨0, 0, 0, 0⟩)
  | _ => .Pass ⟨0, 0, 0, 0⟩
section
variable {P : Program} {w : World} {K : PySem.W.Frag} {mg : Str → Option Value} {base : Heap} {C : Addr}
abbrev sDraw : Stmt := top 22
abbrev nDraw : List Str := ["_law_stream", "_law_many", "_law_digit", "_law_mixed"]
theorem scDraw : FnScope nDraw ["_law_stream", "_law_many"] (defScope sDraw) := ⟨rfl, rfl, rfl, by decide +kernel, rfl, by decide +kernel, by decide +kernel⟩
/-- a draw below m -/
inductive FDraw (ds : List D) (μ : Sto) (Q : QD) (E : XD) : Prop
  | mk (S : Dr) (m : Int) (rest : Sto) (a1 : ds = [.cell 1, .int m]) (a2 : 0 < m) (a3 : m < 2 ^ 128) (a4 : S.ok) (a5 : S.t < 1000000) (a6 : μ = S.sto rest) (a7 : ∀ (r : Int) (S' : Dr), 0 ≤ r → r < m → S'.ok → S'.t = S.t + 1 → Q (.int r) (S'.sto rest)) : FDraw ds μ Q E
theorem FDraw.mono  : MonF (FDraw) := fun ds μ Q Q' E E' h he q => match q with | .mk S m rest a1 a2 a3 a4 a5 a6 a7 => .mk S m rest a1 a2 a3 a4 a5 a6 (by intros; apply h; apply a7 <;> assumption)
theorem FDraw.len  : ∀ ds μ Q E, FDraw ds μ Q E → ds.length = 2 := fun ds μ Q E q => by obtain ⟨_, _, _, e, _, _, _, _, _, _⟩ := q; rw [e]; rfl
theorem cal_draw {f : Addr} {fd : FuncData} {qual : Str} (T : NoB mg) (Fu : Fun K "_law_draw" qual sDraw f fd) (hm : mg "_law_draw" = some (.ref f)) (hk : PySem.W.keepIn K (.ref f) = true) (hb : L2.Binds K fd ["_law_stream", "_law_many"] []) : Cal P w K mg base 1 "_law_draw" FDraw [] := by
  have nd := scDraw.nd
  refine cal_fun Fu scDraw hm hk hb ?_ ?_ (fun cdv A outer s H E hG hr =>
    have hu : (cxOf (L2.CX P w) P w K mg base nDraw qual (defScope sDraw) f cdv A outer s H E).A.units + 64 < cLine := by have := hr.un; show (A.deeper _).units + 64 < _; omega
    have hv : (cxOf (L2.CX P w) P w K mg base nDraw qual (defScope sDraw) f cdv A outer s H E).A.units + 1 < cLine := by omega
    have tk := takes_of (X := cxOf (L2.CX P w) P w K mg base nDraw qual (defScope sDraw) f cdv A outer s H E) (E := E) rfl rfl rfl rfl
    have pw := passes_of (X := cxOf (L2.CX P w) P w K mg base nDraw qual (defScope sDraw) f cdv A outer s H E) rfl
    (ds_cons (ds_asg (de_op opd_addI (de_ixL (de_var 0 rfl) de_int) de_int) (dg_ixL (W := NW) (de_var 0 rfl) de_int))
      (ds_cons (ds_if (DW.pt (dw_and (dt_cmp opd_eqI (de_ixL (de_var 0 rfl) de_int) de_int) (dw_and1 (dt_cmp (opd_neP' hu) (de_ixL (de_var 0 rfl) de_int) (de_lstD da_nil))))) (ds_cons (ds_asg (de_bmL PySem.F.plainAttrs_list PySem.F.slot_list_pop PySem.F.type_list_pop mtd_popAt (de_ixL (de_var 0 rfl) de_int) (da_cons de_int da_nil)) (dg_ixL (W := NW) (de_var 0 rfl) de_int))
      (ds_one (ds_if (dt_cmp opd_lt (de_ixL (de_var 0 rfl) de_int) (de_op opd_pow de_int de_int)) (ds_cons (ds_asg (de_op opd_mod (de_callTy cad_int (by rfl) T.int (by decide +kernel) (da_cons (de_op opd_addI (de_op opd_addI (de_op opd_mulI (de_ixL (de_var 0 rfl) de_int) de_int) (de_ixL (de_var 0 rfl) de_int)) de_int) da_nil)) de_int) (dg_ixL (W := NW) (de_var 0 rfl) de_int))
      (ds_one (ds_asg de_int (dg_ixL (W := NW) (de_var 0 rfl) de_int)))) ds_nil))) ds_nil)
      (ds_cons (ds_if (dt_cmp opd_gt (de_ixL (de_var 0 rfl) de_int) de_int) (ds_cons (ds_set (i := 2) nd rfl (by first | exact .inl rfl | exact .inr rfl) (de_op opd_mod (de_callTy cad_int (by rfl) T.int (by decide +kernel) (da_cons (de_ixL (de_var 0 rfl) de_int) da_nil)) (de_var 1 rfl)))
      (ds_cons (ds_asg (de_op opd_fdiv (de_ixL (de_var 0 rfl) de_int) (de_var 1 rfl)) (dg_ixL (W := NW) (de_var 0 rfl) de_int))
      (ds_one (ds_ret (de_var 2 rfl))))) ds_nil)
      (ds_cons (ds_set (i := 3) nd rfl (by first | exact .inl rfl | exact .inr rfl) (de_op opd_mod (de_op opd_pow (de_op opd_addI (de_op opd_addI (de_ixL (de_var 0 rfl) de_int) (de_op opd_mulI de_int (de_ixL (de_var 0 rfl) de_int))) de_int) de_int) de_int))
      (ds_one (ds_ret (de_op opd_mod (de_op opd_mod (de_op opd_pow (de_op opd_addI (de_op opd_addI (de_op opd_mulI (de_var 3 rfl) de_int) (de_op opd_mulI (de_op opd_mulI de_int (de_ixL (de_var 0 rfl) de_int)) (de_ixL (de_var 0 rfl) de_int))) de_int) de_int) de_int) (de_var 1 rfl))))))))) ?_
  · exact FDraw.mono
  · exact FDraw.len
  · rintro ds μ Q E ⟨⟨ns, a, t, c⟩, m, rest, rfl, m0, m1, ⟨a0, t0, c0, c1⟩, tl, rfl, z⟩
    have pw18 : CPow 10 18 := ⟨by decide, by decide, by decide⟩
    have mm : ∀ i j : Int, i.natAbs < 2 ^ 64 → j.natAbs < 2 ^ 64 → CMulW i j := fun i j h1 h2 => wide_mul h1 h2 (by decide) (by decide) (by decide)
    simp only at a0 t0 c0 c1 tl
    -- stream[2] = stream[2] + 1
    refine ⟨_, rfl, _, _, _, rfl, rfl, rfl, _, _, rfl, rfl, _, rfl, _, _, _, _, rfl, rfl, rfl, rfl, ?_⟩
    -- behind the first choice
    dsimp only
    refine seq_cut (fun ρ' μ' => ρ' = startD nDraw.length [D.cell 1, D.int m] ∧ ∃ (ns' : List Int) (a' c' : Int), 0 ≤ a' ∧ 0 ≤ c' ∧ c' < 2147483647 ∧ μ' = CT.lst (ns'.map D.int) :: CT.lst [.cell 0, .int a', .int (t + 1), .int c'] :: rest) ?_ fun N hN => ?_
    · rintro _ _ ⟨rfl, ns', a', c', h1, h2, h3, rfl⟩
      refine seq_cut (fun ρ' μ' => ρ' = startD nDraw.length [D.cell 1, D.int m] ∧ μ' = CT.lst (ns'.map D.int) :: CT.lst [.cell 0, .int a', .int (t + 1), .int c'] :: rest) ?_ fun N hN => ?_
      · rintro _ _ ⟨rfl, rfl⟩
        -- the number is mixed
        have b1 : 0 ≤ (c' + 104729 * (t + 1) + 17) := by omega
        have b2 : (c' + 104729 * (t + 1) + 17) < 2 ^ 40 := by omega
        refine ⟨_, rfl, _, _, _, rfl, rfl, rfl, _, rfl, _, _, _, rfl, rfl, rfl, _, _, rfl, rfl, mm _ _ (by decide) (by omega), _, _, rfl, rfl, _, _, rfl, rfl, _, _, rfl, rfl, ⟨by decide, by decide, by omega⟩, _, _, rfl, rfl, by decide, ?_⟩
        generalize hx : (c' + 104729 * (t + 1) + 17) ^ (5 : Int).toNat % 2147483629 = x
        have x0 : 0 ≤ x := by rw [← hx]; exact Int.emod_nonneg _ (by decide)
        have x1 : x < 2147483629 := by rw [← hx]; exact Int.emod_lt_of_pos _ (by decide)
        have q0 : 0 ≤ (t + 1) * (t + 1) := Int.mul_nonneg (by omega) (by omega)
        have q1 : (t + 1) * (t + 1) ≤ 1000000 * 1000000 := Int.mul_le_mul (by omega) (by omega) (by omega) (by decide)
        have q2 : 40503 * (t + 1) * (t + 1) = 40503 * ((t + 1) * (t + 1)) := Int.mul_assoc _ _ _
        refine ⟨_, rfl, _, _, rfl, rfl, mm _ _ (by omega) (by decide), _, rfl, _, _, _, rfl, rfl, rfl, _, _, rfl, rfl, mm _ _ (by decide) (by omega), _, rfl, _, _, _, rfl, rfl, rfl, _, _, rfl, rfl, mm _ _ (by omega) (by omega), _, _, rfl, rfl, _, _, rfl, rfl,
          _, _, rfl, rfl, ⟨by decide, by decide, by omega⟩, _, _, rfl, rfl, by decide, _, rfl, _, _, rfl, rfl, m0, ?_⟩
        exact ⟨_, _, .refl, z _ ⟨ns', a', t + 1, c'⟩ (Int.emod_nonneg _ (by omega)) (Int.emod_lt_of_pos _ m0) ⟨h1, by show 0 ≤ t + 1; omega, h2, h3⟩ rfl⟩
      · refine ⟨_, rfl, _, _, _, rfl, rfl, rfl, _, _, rfl, rfl, _, rfl, ?_⟩
        refine ite_b (fun h => ?_) (fun h => ?_)
        · refine ⟨_, rfl, _, _, _, rfl, rfl, rfl, .inl ⟨_, rfl, _, rfl, _, _, rfl, rfl, m0, ?_⟩⟩
          refine ⟨_, rfl, _, _, _, rfl, rfl, rfl, _, rfl, _, _, rfl, rfl, ⟨m0, ?_⟩, _, rfl, _, _, _, _, rfl, rfl, rfl, rfl, _, rfl, ?_⟩
          · have : m.natAbs < 2 ^ 128 := by omega
            have := (Nat.log2_lt (by omega)).mpr this
            omega
          · exact ⟨_, _, .refl, z _ ⟨ns', a' / m, t + 1, c'⟩ (Int.emod_nonneg _ (by omega)) (Int.emod_lt_of_pos _ m0) ⟨Int.ediv_nonneg h1 (by omega), by show 0 ≤ t + 1; omega, h2, h3⟩ rfl⟩
        · exact hN _ _ ⟨rfl, rfl⟩
    · refine ⟨_, rfl, _, _, _, rfl, rfl, rfl, _, _, rfl, rfl, _, rfl, ?_⟩
      refine ite_b (fun h => ?_) (fun h => ?_)
      · refine ⟨_, rfl, _, _, _, rfl, rfl, rfl, by decide, .list (ns.map .int), .list [], ?_, rfl, shaped_ints ns, rfl, _, rfl, ?_⟩
        · show (pyAll (ns.map D.int)).map PyData.list = _
          rw [pyAll_ints]; rfl
        refine ite_c (fun h2 => ?_) (fun h2 => ?_)
        · cases ns with
          | nil => simp [PyData.eqv, PyData.eqvAll] at h2
          | cons n ns =>
            have hs0 : seqIndex? 0 ((n :: ns).map D.int).length = some 0 := by simp [seqIndex?]; try omega
            refine ⟨_, rfl, _, _, _, rfl, rfl, rfl, ⟨_, rfl⟩, _, (n :: ns).map D.int, _, 0, .int n, rfl, rfl, rfl, by decide, by decide, hs0, rfl, _, rfl, _, _, _, _, rfl, rfl, rfl, rfl, ?_⟩
            refine ⟨_, rfl, _, _, _, rfl, rfl, rfl, _, _, rfl, rfl, pw18, _, rfl, ?_⟩
            refine ite_b (fun h3 => ?_) (fun h3 => ?_)
            · refine ⟨_, rfl, _, _, _, rfl, rfl, rfl, _, _, rfl, rfl, mm _ _ (by omega) (by decide), _, rfl, _, _, _, rfl, rfl, rfl, _, _, rfl, rfl, _, _, rfl, rfl, .inl ⟨_, rfl, _, _, rfl, rfl, by decide, _, rfl, _, _, _, _, rfl, rfl, rfl, rfl, ?_⟩⟩
              refine ⟨_, rfl, _, _, _, _, rfl, rfl, rfl, rfl, ?_⟩
              exact hN _ _ ⟨rfl, ns, 0, _, Int.le_refl _, Int.emod_nonneg _ (by decide), Int.emod_lt_of_pos _ (by decide), rfl⟩
            · have e18 : (10 : Int) ^ (18 : Int).toNat = 1000000000000000000 := by decide
              exact hN _ _ ⟨rfl, ns, n, c, by omega, c0, c1, rfl⟩
        · exact hN _ _ ⟨rfl, ns, a, c, a0, c0, c1, rfl⟩
      · exact hN _ _ ⟨rfl, ns, a, c, a0, c0, c1, rfl⟩

abbrev sPick : Stmt := top 23
abbrev nPick : List Str := ["_law_stream", "_law_some"]
theorem scPick : FnScope nPick ["_law_stream", "_law_some"] (defScope sPick) := ⟨rfl, rfl, rfl, by decide +kernel, rfl, by decide +kernel, by decide +kernel⟩
/-- one of some things -/
inductive FPick (ds : List D) (μ : Sto) (Q : QD) (E : XD) : Prop
  | mk (S : Dr) (xs : List D) (rest : Sto) (a1 : ds = [.cell 1, .lst xs]) (a2 : xs ≠ []) (a3 : xs.length ≤ 1000) (a4 : S.ok) (a5 : S.t < 1000000) (a6 : μ = S.sto rest) (a7 : ∀ (x : D) (S' : Dr), x ∈ xs → S'.ok → S'.t = S.t + 1 → Q x (S'.sto rest)) : FPick ds μ Q E
theorem FPick.mono  : MonF (FPick) := fun ds μ Q Q' E E' h he q => match q with | .mk S xs rest a1 a2 a3 a4 a5 a6 a7 => .mk S xs rest a1 a2 a3 a4 a5 a6 (by intros; apply h; apply a7 <;> assumption)
theorem FPick.len  : ∀ ds μ Q E, FPick ds μ Q E → ds.length = 2 := fun ds μ Q E q => by obtain ⟨_, _, _, e, _, _, _, _, _, _⟩ := q; rw [e]; rfl
theorem cal_pick (cD : Cal P w K mg base 1 "_law_draw" FDraw []) {f : Addr} {fd : FuncData} {qual : Str} (T : NoB mg) (Fu : Fun K "_law_pick" qual sPick f fd) (hm : mg "_law_pick" = some (.ref f)) (hk : PySem.W.keepIn K (.ref f) = true) (hb : L2.Binds K fd ["_law_stream", "_law_some"] []) : Cal P w K mg base 2 "_law_pick" FPick [] := by
  have nd := scPick.nd
  refine cal_fun Fu scPick hm hk hb ?_ ?_ (fun cdv A outer s H E hG hr =>
    have hu : (cxOf (L2.CX P w) P w K mg base nPick qual (defScope sPick) f cdv A outer s H E).A.units + 64 < cLine := by have := hr.un; show (A.deeper _).units + 64 < _; omega
    have hv : (cxOf (L2.CX P w) P w K mg base nPick qual (defScope sPick) f cdv A outer s H E).A.units + 1 < cLine := by omega
    have tk := takes_of (X := cxOf (L2.CX P w) P w K mg base nPick qual (defScope sPick) f cdv A outer s H E) (E := E) rfl rfl rfl rfl
    have pw := passes_of (X := cxOf (L2.CX P w) P w K mg base nPick qual (defScope sPick) f cdv A outer s H E) rfl
    (ds_one (ds_ret (de_ixL (de_var 1 rfl) (de_call cD hG hr (by decide) (by rfl) tk (da_cons (de_var 0 rfl) (da_cons (de_callB cad_len (by rfl) T.len (by decide +kernel) (da_cons (de_var 1 rfl) da_nil)) da_nil))))))) ?_
  · exact FPick.mono
  · exact FPick.len
  · rintro ds μ Q E ⟨S, xs, rest, rfl, hne, hl, ok, tl, rfl, z⟩
    have pos : 0 < xs.length := List.length_pos_iff.mpr hne
    refine ⟨_, rfl, _, rfl, _, rfl, .inr ⟨_, xs, rfl, rfl, S, _, rest, rfl, by omega, by omega, ok, tl, rfl, fun r S' r0 r1 ok' t' => ?_⟩⟩
    have hr : r.toNat < xs.length := by omega
    refine ⟨xs, _, xs[r.toNat], rfl, rfl, by rw [atI_nn _ r0]; exact List.getElem?_eq_getElem hr, _, _, .refl, z _ S' (List.getElem_mem hr) ok' t'⟩

abbrev sSame : Stmt := top 24
abbrev nSame : List Str := ["_law_found", "_law_due"]
theorem scSame : FnScope nSame ["_law_found", "_law_due"] (defScope sSame) := ⟨rfl, rfl, rfl, by decide +kernel, rfl, by decide +kernel, by decide +kernel⟩
inductive FSame (ds : List D) (μ : Sto) (Q : QD) (E : XD) : Prop
  | mk (x) (y) (p) (a1 : ds = [x, y]) (a2 : pyT μ x = some p) (a3 : pyT μ y = some p) (a4 : okR p) (a5 : Q (.bl true) μ) : FSame ds μ Q E
theorem FSame.mono  : MonF (FSame) := fun ds μ Q Q' E E' h he q => match q with | .mk x y p a1 a2 a3 a4 a5 => .mk x y p a1 a2 a3 a4 (h _ _ a5)
theorem FSame.len  : ∀ ds μ Q E, FSame ds μ Q E → ds.length = 2 := fun ds μ Q E q => by obtain ⟨_, _, _, e, _, _, _, _⟩ := q; rw [e]; rfl
theorem cal_same {f : Addr} {fd : FuncData} {qual : Str} (T : NoB mg) (Fu : Fun K "_law_same" qual sSame f fd) (hm : mg "_law_same" = some (.ref f)) (hk : PySem.W.keepIn K (.ref f) = true) (hb : L2.Binds K fd ["_law_found", "_law_due"] []) : Cal P w K mg base 1 "_law_same" FSame [] := by
  have nd := scSame.nd
  refine cal_fun Fu scSame hm hk hb ?_ ?_ (fun cdv A outer s H E hG hr =>
    have hu : (cxOf (L2.CX P w) P w K mg base nSame qual (defScope sSame) f cdv A outer s H E).A.units + 64 < cLine := by have := hr.un; show (A.deeper _).units + 64 < _; omega
    have hv : (cxOf (L2.CX P w) P w K mg base nSame qual (defScope sSame) f cdv A outer s H E).A.units + 1 < cLine := by omega
    have tk := takes_of (X := cxOf (L2.CX P w) P w K mg base nSame qual (defScope sSame) f cdv A outer s H E) (E := E) rfl rfl rfl rfl
    have pw := passes_of (X := cxOf (L2.CX P w) P w K mg base nSame qual (defScope sSame) f cdv A outer s H E) rfl
    (ds_one (ds_ret (de_cmp opd_eqS (de_callB (cad_reprT hG hu) (by rfl) T.repr (by decide +kernel) (da_cons (de_var 0 rfl) da_nil)) (de_callB (cad_reprT hG hu) (by rfl) T.repr (by decide +kernel) (da_cons (de_var 1 rfl) da_nil)))))) ?_
  · exact FSame.mono
  · exact FSame.len
  · rintro ds μ Q E ⟨x, y, p, rfl, e2, e3, e4, z⟩
    refine ⟨_, rfl, _, p, rfl, e2, e4, _, rfl, _, p, rfl, e3, e4, _, _, rfl, rfl, _, _, .refl, ?_⟩
    rw [decide_eq_true rfl]; exact z

abbrev sName : Stmt := top 25
abbrev nName : List Str := ["_law_stream", "_law_taken", "_law_size", "_law_name_here", "_law_k", "_law_one", "_law_letter"]
theorem scName : FnScope nName ["_law_stream", "_law_taken"] (defScope sName) := ⟨rfl, rfl, rfl, by decide +kernel, rfl, by decide +kernel, by decide +kernel⟩
inductive FName (ds : List D) (μ : Sto) (Q : QD) (E : XD) : Prop
  | mk (S : Dr) (tk : List Str) (rest : Sto) (a1 : ds = [.cell 1, .lst (tk.map .str)]) (a2 : tk.length ≤ 15) (a3 : S.ok) (a4 : S.t + 10 < 1000000) (a5 : okRest rest) (a6 : μ = S.sto rest) (a7 : ∀ (s : Str) (S' : Dr), NameOk s → s ∉ tk → S'.ok → S.t ≤ S'.t → S'.t ≤ S.t + 9 → Q (.str s) (S'.sto rest)) : FName ds μ Q E
theorem FName.mono  : MonF (FName) := fun ds μ Q Q' E E' h he q => match q with | .mk S tk rest a1 a2 a3 a4 a5 a6 a7 => .mk S tk rest a1 a2 a3 a4 a5 a6 (by intros; apply h; apply a7 <;> assumption)
theorem FName.len  : ∀ ds μ Q E, FName ds μ Q E → ds.length = 2 := fun ds μ Q E q => by obtain ⟨_, _, _, e, _, _, _, _, _, _⟩ := q; rw [e]; rfl
theorem cal_name (cD : Cal P w K mg base 1 "_law_draw" FDraw []) {f : Addr} {fd : FuncData} {qual : Str} (T : NoB mg) (Fu : Fun K "_law_name" qual sName f fd) (hm : mg "_law_name" = some (.ref f)) (hk : PySem.W.keepIn K (.ref f) = true) (hb : L2.Binds K fd ["_law_stream", "_law_taken"] []) : Cal P w K mg base 2 "_law_name" FName [] := by
  have nd := scName.nd
  refine cal_fun Fu scName hm hk hb ?_ ?_ (fun cdv A outer s H E hG hr =>
    have hu : (cxOf (L2.CX P w) P w K mg base nName qual (defScope sName) f cdv A outer s H E).A.units + 64 < cLine := by have := hr.un; show (A.deeper _).units + 64 < _; omega
    have hv : (cxOf (L2.CX P w) P w K mg base nName qual (defScope sName) f cdv A outer s H E).A.units + 1 < cLine := by omega
    have tk := takes_of (X := cxOf (L2.CX P w) P w K mg base nName qual (defScope sName) f cdv A outer s H E) (E := E) rfl rfl rfl rfl
    have pw := passes_of (X := cxOf (L2.CX P w) P w K mg base nName qual (defScope sName) f cdv A outer s H E) rfl
    (ds_cons (ds_set (i := 2) nd rfl (by first | exact .inl rfl | exact .inr rfl) (de_ixL (de_lstD (da_cons de_int (da_cons de_int (da_cons de_int (da_cons de_int (da_cons de_int (da_cons de_int da_nil))))))) (de_call cD hG hr (by decide) (by rfl) tk (da_cons (de_var 0 rfl) (da_cons de_int da_nil)))))
      (ds_cons (ds_set (i := 3) nd rfl (by first | exact .inl rfl | exact .inr rfl) (de_join de_str (de_lc (own := [("_law_k", 4)]) rfl nd (di_rng1 (by rfl) T.range (da_cons (de_var 2 rfl) da_nil)) (blkOk_by (N := nName) (sc := defScope sName) (by decide +kernel)) (fun _ _ _ _ _ => (dgw_name (i := 4) nd rfl (Or.inl rfl) (by decide))) (fun _ _ _ _ _ => dts_nil) (fun _ _ _ _ _ => (de_ixT de_str (de_call cD hG hr (by decide) (by rfl) takesNW (da_cons (de_var 0 rfl) (da_cons de_int da_nil))))))))
      (ds_cons (ds_if (DW.pt (dw_or (dt_cmp opd_in (de_var 3 rfl) (de_var 1 rfl)) (dw_or1 (dt_cmp opd_in (de_var 3 rfl) (de_lstD (da_cons de_str (da_cons de_str (da_cons de_str (da_cons de_str (da_cons de_str da_nil)))))))))) (ds_one (ds_ret (de_ixL (de_lc (own := [("_law_one", 5)]) rfl nd (di_seq (de_lc (own := [("_law_letter", 6)]) rfl nd (di_str de_str) (blkOk_by (N := nName) (sc := defScope sName) (by decide +kernel)) (fun _ _ _ _ _ => (dgw_name (i := 6) nd rfl (Or.inl rfl) (by decide))) (fun _ _ _ _ _ => dts_nil) (fun _ _ _ _ _ => (de_op strAdd_ok de_str (de_var 6 rfl))))) (blkOk_by (N := nName) (sc := defScope sName) (by decide +kernel)) (fun _ _ _ _ _ => (dgw_name (i := 5) nd rfl (Or.inl rfl) (by decide))) (fun _ _ _ _ _ => (dts_one (dt_cmp opd_notin (de_var 5 rfl) (de_var 1 rfl)))) (fun _ _ _ _ _ => (de_var 5 rfl))) de_int))) ds_nil)
      (ds_one (ds_ret (de_var 3 rfl))))))) ?_
  · exact FName.mono
  · exact FName.len
  · rintro ds μ Q E ⟨S, tk, rest, rfl, hl, ok, tl, okr, rfl, z⟩
    have sz := sizeLine_eq
    refine ⟨by decide, _, rfl, S, 6, rest, rfl, by decide, by decide, ok, by omega, rfl, fun r S1 r0 r1 ok1 t1 => ?_⟩
    have hk : ∃ k : Nat, atI [D.int 1, .int 1, .int 2, .int 3, .int 5, .int 8] r = some (.int k) ∧ 1 ≤ k ∧ k ≤ 8 := by
      rw [atI_nn _ r0]
      have : r.toNat = 0 ∨ r.toNat = 1 ∨ r.toNat = 2 ∨ r.toNat = 3 ∨ r.toNat = 4 ∨ r.toNat = 5 := by omega
      rcases this with h | h | h | h | h | h <;> rw [h]
      · exact ⟨1, rfl, by decide, by decide⟩
      · exact ⟨1, rfl, by decide, by decide⟩
      · exact ⟨2, rfl, by decide, by decide⟩
      · exact ⟨3, rfl, by decide, by decide⟩
      · exact ⟨5, rfl, by decide, by decide⟩
      · exact ⟨8, rfl, by decide, by decide⟩
    obtain ⟨k, hk, k1, k8⟩ := hk
    refine ⟨_, _, _, rfl, rfl, hk, ?_⟩
    -- the letters
    refine ⟨_, rfl, _, rfl, _, rfl, by omega, by omega, lc_draw 1 (fun i acc => ∃ cs : List Nat, acc = cs.map (fun c => D.str ⟨#[c]⟩) ∧ cs.length = i ∧ ∀ c ∈ cs, c ∈ abc) ok1 okr (fun _ _ => trivial) ⟨[], rfl, rfl, fun c h => absurd h (by simp)⟩ ?_ (fun i acc ⟨cs, e, h, _⟩ => by rw [e, List.length_map, h]; exact Nat.le_refl _) (by simp; omega) (fun acc ⟨cs, e, _⟩ => by rw [e]; exact bdL_all.mpr fun d hd => by obtain ⟨c, _, rfl⟩ := List.mem_map.mp hd; rfl) ?_⟩
    · rintro i x acc S' hx hi ok' t1' t2' ⟨cs, rfl, h1, h2⟩ NX N0 hN hN0
      simp at hi
      refine ⟨_, rfl, S', 26, _, rfl, by decide, by decide, ok', by omega, rfl, fun r2 S2 q0 q1 ok2 u2 => ?_⟩
      have hr : r2.toNat < abc.length := by rw [abc_len]; omega
      refine ⟨_, r2, abc[r2.toNat], rfl, rfl, by decide +kernel, ?_, hN _ S2 ok2 (by omega) (by omega) ⟨cs ++ [abc[r2.toNat]], by simp, by simp [h1], fun c hc => ?_⟩⟩
      · rw [atI_nn _ q0]; exact List.getElem?_eq_getElem hr
      · rcases List.mem_append.mp hc with hc | hc
        · exact h2 c hc
        · rw [List.mem_singleton.mp hc]; exact List.getElem_mem hr
    · rintro acc S' ⟨cs, rfl, h1, hcs⟩ ok' u1 u2
      simp at h1 u2
      have e : (cs.map fun c => D.str ⟨#[c]⟩) = (cs.map fun c => (⟨#[c]⟩ : Str)).map D.str := by rw [List.map_map]; rfl
      refine ⟨cs.map fun c => (⟨#[c]⟩ : Str), congrArg some e, ?_, ?_⟩
      · have := sum_ones cs
        have e0 : (Str.ofString "").length = 0 := by decide
        show _ + _ * (Str.ofString "").length ≤ _
        rw [this, e0]; omega
      have hc := join_chars cs
      generalize Txt.join (Str.ofString "") (cs.map fun c => (⟨#[c]⟩ : Str)) = nm at hc
      have hs : nm.cps.toList.length = k := by rw [hc]; exact h1
      refine ⟨_, rfl, _, rfl, tk.map .str, rfl, rfl, flat_strs tk, _, rfl, ite_c (fun h => ite_c (fun _ => ?_) (fun h => nomatch h)) (fun h => ⟨_, rfl, by decide, Reserved.map .str, rfl, rfl, rfl, _, rfl, ite_c (fun h2 => ?_) (fun h2 => ?_)⟩)⟩
      case refine_3 =>
        have n1 : nm ∉ tk := fun z => by
          have h' : inDD (.str nm) (tk.map .str) = false := h
          rw [inDD_strs] at h'
          exact absurd (decide_eq_true z) (by rw [h']; simp)
        have n2 : nm ∉ Reserved := fun z => by
          have h' : inDD (.str nm) (Reserved.map .str) = false := h2
          rw [inDD_strs] at h'
          exact absurd (decide_eq_true z) (by rw [h']; simp)
        exact ⟨_, rfl, _, _, .refl, z nm S' ⟨by omega, by omega, fun c hm => abc_low c (hcs c (hc ▸ hm)), n2⟩ n1 ok' (by omega) (by omega)⟩
      all_goals
        refine ⟨_, rfl, lc_pure pQ (fun _ => trivial) ?_ (by decide +kernel) (bdL_strs qs) okr.sto ⟨qs.map .str, rfl, lc_pure (pN tk) (fun _ => rfl) ?_ (by rw [List.length_map, qs_len]; omega) (by rw [pN_map]; exact bdL_strs _) okr.sto ?_⟩⟩
        · intro x hx acc NX N0 hN hN0
          obtain ⟨c, _, rfl⟩ := List.mem_map.mp hx
          exact ⟨_, rfl, _, _, rfl, rfl, (by show 1 + 1 ≤ sizeLine; omega), hN _ rfl⟩
        · intro x hx acc NX N0 hN hN0
          obtain ⟨s, _, rfl⟩ := List.mem_map.mp hx
          refine ⟨_, rfl, _, rfl, tk.map .str, rfl, rfl, flat_strs tk, _, rfl, ite_c (fun h3 => ?_) (fun h3 => ?_)⟩
          · have h3' : (!inDD (.str s) (tk.map .str)) = true := h3
            rw [inDD_strs] at h3'
            exact ⟨_, rfl, hN _ (by simp at h3'; simp [pN, h3'])⟩
          · have h3' : (!inDD (.str s) (tk.map .str)) = false := h3
            rw [inDD_strs] at h3'
            exact hN0 (by simp at h3'; simp [pN, h3'])
        · obtain ⟨s, l, e4, hs1, hs2⟩ := qs_some hl
          exact ⟨_, 0, .str s, rfl, rfl, by rw [pN_map, e4]; exact atI_0 _, _, _, .refl, z s S' (qs_ok s hs1) hs2 ok' (by omega) (by omega)⟩

abbrev sNames : Stmt := top 26
abbrev nNames : List Str := ["_law_stream", "_law_many", "_law_taken", "_law_found", "_law_k"]
theorem scNames : FnScope nNames ["_law_stream", "_law_many", "_law_taken"] (defScope sNames) := ⟨rfl, rfl, rfl, by decide +kernel, rfl, by decide +kernel, by decide +kernel⟩
inductive FNames (ds : List D) (μ : Sto) (Q : QD) (E : XD) : Prop
  | mk (S : Dr) (k : Nat) (tk : List Str) (rest : Sto) (a1 : ds = [.cell 1, .int k, .lst (tk.map .str)]) (a2 : k + tk.length ≤ 15) (a3 : S.ok) (a4 : S.t + 10 * k + 10 < 1000000) (a5 : okRest rest) (a6 : μ = S.sto rest) (a7 : ∀ (ss : List Str) (S' : Dr), ss.length = k → (∀ s ∈ ss, NameOk s) → ss.Nodup → (∀ s ∈ ss, s ∉ tk) → S'.ok → S.t ≤ S'.t → S'.t ≤ S.t + 9 * k → Q (.lst (ss.map .str)) (S'.sto rest)) : FNames ds μ Q E
theorem FNames.mono  : MonF (FNames) := fun ds μ Q Q' E E' h he q => match q with | .mk S k tk rest a1 a2 a3 a4 a5 a6 a7 => .mk S k tk rest a1 a2 a3 a4 a5 a6 (by intros; apply h; apply a7 <;> assumption)
theorem FNames.len  : ∀ ds μ Q E, FNames ds μ Q E → ds.length = 3 := fun ds μ Q E q => by obtain ⟨_, _, _, _, e, _, _, _, _, _, _⟩ := q; rw [e]; rfl
theorem cal_names (cN : Cal P w K mg base 2 "_law_name" FName []) {f : Addr} {fd : FuncData} {qual : Str} (T : NoB mg) (Fu : Fun K "_law_names" qual sNames f fd) (hm : mg "_law_names" = some (.ref f)) (hk : PySem.W.keepIn K (.ref f) = true) (hb : L2.Binds K fd ["_law_stream", "_law_many", "_law_taken"] []) : Cal P w K mg base 3 "_law_names" FNames [] := by
  have nd := scNames.nd
  refine cal_fun Fu scNames hm hk hb ?_ ?_ (fun cdv A outer s H E hG hr =>
    have hu : (cxOf (L2.CX P w) P w K mg base nNames qual (defScope sNames) f cdv A outer s H E).A.units + 64 < cLine := by have := hr.un; show (A.deeper _).units + 64 < _; omega
    have hv : (cxOf (L2.CX P w) P w K mg base nNames qual (defScope sNames) f cdv A outer s H E).A.units + 1 < cLine := by omega
    have tk := takes_of (X := cxOf (L2.CX P w) P w K mg base nNames qual (defScope sNames) f cdv A outer s H E) (E := E) rfl rfl rfl rfl
    have pw := passes_of (X := cxOf (L2.CX P w) P w K mg base nNames qual (defScope sNames) f cdv A outer s H E) rfl
    (ds_cons (ds_set (i := 3) nd rfl (by first | exact .inl rfl | exact .inr rfl) (de_lstC da_nil))
      (ds_cons (ds_for pw rfl (di_rng1 (by rfl) T.range (da_cons (de_var 1 rfl) da_nil)) (dg_name (i := 4) nd rfl (by first | exact .inl rfl | exact .inr rfl)) (ds_one (ds_expr (de_bmL PySem.F.plainAttrs_list PySem.F.slot_list_append PySem.F.type_list_append mtd_append (de_var 3 rfl) (da_cons (de_call cN hG hr (by decide) (by rfl) tk (da_cons (de_var 0 rfl) (da_cons (de_op opd_catD (de_var 2 rfl) (de_var 3 rfl)) da_nil))) da_nil)))))
      (ds_one (ds_ret (de_var 3 rfl)))))) ?_
  · exact FNames.mono
  · exact FNames.len
  · rintro ds μ Q E ⟨S, k, tk, rest, rfl, hl, ok, tl, okr, rfl, z⟩
    have sz := sizeLine_eq
    refine ⟨by decide, _, rfl, _, rfl, by omega, by omega, fun i ρ' μ' => ∃ (v : Option D) (S' : Dr) (ss : List Str), ρ' = [some (.cell 1), some (.int k), some (.lst (tk.map .str)), some (.cell (rest.length + 2)), v] ∧ ss.length = i ∧ (∀ s ∈ ss, NameOk s) ∧ ss.Nodup ∧ (∀ s ∈ ss, s ∉ tk) ∧ S'.ok ∧ S.t ≤ S'.t ∧ S'.t ≤ S.t + 9 * i ∧ μ' = S'.sto (rest ++ [.lst (ss.map .str)]), ?_, fun _ _ _ _ => trivial, ?_, ?_⟩
    · exact ⟨none, S, [], rfl, rfl, fun s h => absurd h (by simp), List.nodup_nil, fun s h => absurd h (by simp), ok, Int.le_refl _, by simp, rfl⟩
    · rintro i x ρ' μ' hx ⟨v, S', ss, rfl, l1, a1, a2, a3, ok', t1, t2, rfl⟩
      have hi : i < k := by
        have := (List.getElem?_eq_some_iff.mp hx).1
        simpa using this
      refine ⟨_, rfl, ⟨ss.map .str, asL_of (get_a rfl)⟩, _, rfl, _, rfl, _, rfl, tk.map .str, ss.map .str, rfl, asL_of (get_a rfl), by simp; omega, S', tk ++ ss, _, by simp, by simp; omega, ok', by omega, okr.add (c := .lst (ss.map .str)) (bdL_strs ss), rfl, fun s S2 hs hn ok2 u1 u2 => ?_⟩
      refine ⟨_, ss.map .str, .str s, rfl, rfl, get_a rfl, by simp; omega, ?_⟩
      have e := set_a (S := S2) (rest := rest) (a := .lst (ss.map .str)) (c := .lst (ss.map .str ++ [.str s])) (n := rest.length + 2) rfl
      refine ⟨_, S2, ss ++ [s], rfl, by simp [l1], ?_, ?_, ?_, ok2, by omega, by omega, by rw [e, List.map_append]; rfl⟩
      · intro y hy
        rcases List.mem_append.mp hy with hy | hy
        · exact a1 y hy
        · rw [List.mem_singleton.mp hy]; exact hs
      · rw [List.nodup_append]
        refine ⟨a2, by simp, fun y hy y' hy' e' => ?_⟩
        rw [List.mem_singleton.mp hy'] at e'
        exact hn (List.mem_append_right _ (e' ▸ hy))
      · intro y hy
        rcases List.mem_append.mp hy with hy | hy
        · exact a3 y hy
        · rw [List.mem_singleton.mp hy]; exact fun h => hn (List.mem_append_left _ h)
    · rintro ρ' μ' ⟨v, S', ss, rfl, l1, a1, a2, a3, ok', t1, t2, rfl⟩
      simp at l1 t2
      exact ⟨_, rfl, _, _, .lst (μ := S'.sto rest) (by rw [sto_len, sto_len]; exact Nat.le_refl _) (bdL_strs ss) okr.sto .refl, z ss S' l1 a1 a2 a3 ok' t1 t2⟩

/-! ### names -/
abbrev sLet : Stmt := top 6
abbrev nLet : List Str := ["sign"]
theorem scLet : FnScope nLet ["sign"] (defScope sLet) := ⟨rfl, rfl, rfl, by decide +kernel, rfl, by decide +kernel, by decide +kernel⟩
def lowS (c : Nat) : Bool := decide (97 ≤ c ∧ c ≤ 122)
inductive FLet (ds : List D) (μ : Sto) (Q : QD) (E : XD) : Prop
  | mk (c : Nat) (a1 : ds = [.str ⟨#[c]⟩]) (a2 : Q (.bl (lowS c)) μ) : FLet ds μ Q E
theorem FLet.mono  : MonF (FLet) := fun ds μ Q Q' E E' h he q => match q with | .mk c a1 a2 => .mk c a1 (h _ _ a2)
theorem FLet.len  : ∀ ds μ Q E, FLet ds μ Q E → ds.length = 1 := fun ds μ Q E q => by obtain ⟨_, e, _⟩ := q; rw [e]; rfl
theorem cal_let {f : Addr} {fd : FuncData} {qual : Str} (T : NoB mg) (Fu : Fun K "is_letter" qual sLet f fd) (hm : mg "is_letter" = some (.ref f)) (hk : PySem.W.keepIn K (.ref f) = true) (hb : L2.Binds K fd ["sign"] []) : Cal P w K mg base 1 "is_letter" FLet [] := by
  have nd := scLet.nd
  refine cal_fun Fu scLet hm hk hb ?_ ?_ (fun cdv A outer s H E hG hr =>
    have hu : (cxOf (L2.CX P w) P w K mg base nLet qual (defScope sLet) f cdv A outer s H E).A.units + 64 < cLine := by have := hr.un; show (A.deeper _).units + 64 < _; omega
    have hv : (cxOf (L2.CX P w) P w K mg base nLet qual (defScope sLet) f cdv A outer s H E).A.units + 1 < cLine := by omega
    have tk := takes_of (X := cxOf (L2.CX P w) P w K mg base nLet qual (defScope sLet) f cdv A outer s H E) (E := E) rfl rfl rfl rfl
    have pw := passes_of (X := cxOf (L2.CX P w) P w K mg base nLet qual (defScope sLet) f cdv A outer s H E) rfl
    (ds_one (ds_ret (de_chain opd_le opd_le de_str (de_var 0 rfl) de_str)))) ?_
  · exact FLet.mono
  · exact FLet.len
  · rintro ds μ Q E ⟨c, rfl, z⟩
    have lt1 : ∀ a b : Nat, ([a] < [b]) ↔ a < b := fun a b => by simp [List.cons_lt_cons_iff]
    have ea : (Str.ofString "a").cps.toList = [97] := by decide +kernel
    have ez : (Str.ofString "z").cps.toList = [122] := by decide +kernel
    have h1 : (!decide ((⟨#[c]⟩ : Str).cps.toList < (Str.ofString "a").cps.toList)) = decide (97 ≤ c) := by
      rw [ea]; show (!decide ([c] < [97])) = _; have e : decide ([c] < [97]) = decide (c < 97) := decide_eq_decide.mpr (lt1 c 97); rw [e]; by_cases h : c < 97 <;> simp [h] <;> omega
    have h2 : (!decide ((Str.ofString "z").cps.toList < (⟨#[c]⟩ : Str).cps.toList)) = decide (c ≤ 122) := by
      rw [ez]; show (!decide ([122] < [c])) = _; have e : decide ([122] < [c]) = decide (122 < c) := decide_eq_decide.mpr (lt1 122 c); rw [e]; by_cases h : 122 < c <;> simp [h] <;> omega
    refine ⟨_, rfl, _, rfl, ?_⟩
    rw [h1]
    by_cases hc : 97 ≤ c
    · rw [if_pos (by simpa using hc)]
      refine ⟨_, _, .refl, ?_⟩
      rw [h2]
      have e : lowS c = decide (c ≤ 122) := by simp [lowS, hc]
      rw [← e]; exact z
    · rw [if_neg (by simpa using hc)]
      have e : lowS c = false := by simp [lowS, hc]
      rw [e] at z
      exact ⟨_, _, .refl, z⟩



abbrev sIsN : Stmt := top 7
abbrev nIsN : List Str := ["value", "sign"]
theorem scIsN : FnScope nIsN ["value"] (defScope sIsN) := ⟨rfl, rfl, rfl, by decide +kernel, rfl, by decide +kernel, by decide +kernel⟩
def nameB (s : Str) : Bool := !(decide (s ∈ Reserved)) && (decide (1 ≤ s.cps.toList.length) && decide (s.cps.toList.length ≤ 8) && s.cps.toList.all lowS)
/-- a text of any kind, or an integer -/
def isNameD : D → Bool
  | .str s => nameB s
  | _ => false
def pLet : D → Option D
  | .str x => some (.bl (x.cps.toList.all lowS))
  | _ => none
theorem pLet_map (l : List Nat) : (l.map fun c => D.str ⟨#[c]⟩).filterMap pLet = (l.map lowS).map D.bl := by
  induction l with
  | nil => rfl
  | cons c l ih => simp [pLet, ih]
inductive FIsN (ds : List D) (μ : Sto) (Q : QD) (E : XD) : Prop
  | mk (d) (a1 : ds = [d]) (a2 : ((∃ s, d = .str s ∧ s.cps.toList.length ≤ sizeLine) ∨ ∃ i, d = .int i)) (a3 : bdS μ.length μ = true) (a4 : Q (.bl (isNameD d)) μ) : FIsN ds μ Q E
theorem FIsN.mono  : MonF (FIsN) := fun ds μ Q Q' E E' h he q => match q with | .mk d a1 a2 a3 a4 => .mk d a1 a2 a3 (h _ _ a4)
theorem FIsN.len  : ∀ ds μ Q E, FIsN ds μ Q E → ds.length = 1 := fun ds μ Q E q => by obtain ⟨_, e, _, _, _⟩ := q; rw [e]; rfl
theorem cal_isn (cLet : Cal P w K mg base 1 "is_letter" FLet []) {TR_RESERVED : Addr} {tc_LONGEST : Tok} (hm_RESERVED : mg "RESERVED" = some (.ref TR_RESERVED)) (l_RESERVED : ∀ H0 : Hp, SqT K H0 TR_RESERVED (Reserved.map V.str)) (hm_LONGEST : mg "LONGEST" = some (.int 8 tc_LONGEST)) {f : Addr} {fd : FuncData} {qual : Str} (T : NoB mg) (Fu : Fun K "is_name" qual sIsN f fd) (hm : mg "is_name" = some (.ref f)) (hk : PySem.W.keepIn K (.ref f) = true) (hb : L2.Binds K fd ["value"] []) : Cal P w K mg base 2 "is_name" FIsN [] := by
  have nd := scIsN.nd
  refine cal_fun Fu scIsN hm hk hb ?_ ?_ (fun cdv A outer s H E hG hr =>
    have hu : (cxOf (L2.CX P w) P w K mg base nIsN qual (defScope sIsN) f cdv A outer s H E).A.units + 64 < cLine := by have := hr.un; show (A.deeper _).units + 64 < _; omega
    have hv : (cxOf (L2.CX P w) P w K mg base nIsN qual (defScope sIsN) f cdv A outer s H E).A.units + 1 < cLine := by omega
    have tk := takes_of (X := cxOf (L2.CX P w) P w K mg base nIsN qual (defScope sIsN) f cdv A outer s H E) (E := E) rfl rfl rfl rfl
    have pw := passes_of (X := cxOf (L2.CX P w) P w K mg base nIsN qual (defScope sIsN) f cdv A outer s H E) rfl
    (ds_cons (ds_if (DW.pt (dw_or (dt_not (dt_val (de_callB cad_isi (by rfl) T.isinstance (by decide +kernel) (da_cons (de_var 0 rfl) (da_cons (de_ty (n := "str") (by rfl) T.str (by decide +kernel)) da_nil))))) (dw_or1 (dt_cmp opd_in (de_var 0 rfl) (de_mt (by rfl) hm_RESERVED l_RESERVED))))) (ds_one (ds_ret de_bl)) ds_nil)
      (ds_one (ds_ret (de_and (de_chain opd_le opd_le de_int (de_callB cad_len (by rfl) T.len (by decide +kernel) (da_cons (de_var 0 rfl) da_nil)) (de_mi (by rfl) hm_LONGEST)) (de_one (de_callB (cad_all rfl) (by rfl) T.all (by decide +kernel) (da_cons (de_lc (own := [("sign", 1)]) rfl nd (di_str (de_var 0 rfl)) (blkOk_by (N := nIsN) (sc := defScope sIsN) (by decide +kernel)) (fun _ _ _ _ _ => (dgw_name (i := 1) nd rfl (Or.inl rfl) (by decide))) (fun _ _ _ _ _ => dts_nil) (fun _ _ _ _ _ => (de_call cLet hG hr (by decide) (by rfl) takesNW (da_cons (de_var 1 rfl) da_nil)))) da_nil)))))))) ?_
  · exact FIsN.mono
  · exact FIsN.len
  · rintro ds μ Q E ⟨d, rfl, hd, hb', z⟩
    rcases hd with ⟨s, rfl, hs⟩ | ⟨i, rfl⟩
    · refine seq_cut (fun ρ' μ' => ρ' = startD nIsN.length [D.str s] ∧ μ' = μ ∧ s ∉ Reserved) ?_ fun N hN => ?_
      · rintro _ _ ⟨rfl, rfl, hr⟩
        have len : s.length = s.cps.toList.length := by simp [Str.length]
        refine ⟨_, rfl, .inl ⟨s, rfl, by rw [len]; exact hs, _, rfl, ite_b (fun h1 => ?_) (fun h1 => ?_)⟩⟩
        · refine ⟨_, rfl, ite_b (fun h2 => ?_) (fun h2 => ?_)⟩
          · refine ⟨_, rfl, s, rfl, lc_pure pLet (fun _ => trivial) (fun x hx acc NX N0 n1 n2 => ?_) (by rw [List.length_map]; exact hs) ?_ hb' ?_⟩
            · obtain ⟨c, hc, rfl⟩ := List.mem_map.mp hx
              exact ⟨_, rfl, c, rfl, n1 _ (by simp [pLet])⟩
            · rw [pLet_map]
              exact bdL_all.mpr fun d hd => by obtain ⟨b, _, rfl⟩ := List.mem_map.mp hd; rfl
            · rw [pLet_map]
              refine ⟨_, s.cps.toList.map lowS, rfl, rfl, _, _, .refl, ?_⟩
              have e : isNameD (.str s) = (s.cps.toList.map lowS).all id := by
                have a1 : 1 ≤ s.cps.toList.length := by rw [← len]; omega
                have a2 : s.cps.toList.length ≤ 8 := by rw [← len]; omega
                simp only [isNameD, nameB, hr, a1, a2, decide_false, decide_true, Bool.not_false, Bool.true_and, List.all_map]
                rfl
              rw [← e]; exact z
          · have e : isNameD (.str s) = false := by
              have a2 : ¬ s.cps.toList.length ≤ 8 := by rw [← len]; omega
              simp only [isNameD, nameB, a2, decide_false, Bool.false_and, Bool.and_false]
            rw [e] at z
            exact ⟨_, _, .refl, z⟩
        · have e : isNameD (.str s) = false := by
            have a2 : ¬ 1 ≤ s.cps.toList.length := by rw [← len]; omega
            simp only [isNameD, nameB, a2, decide_false, Bool.false_and, Bool.and_false]
          rw [e] at z
          exact ⟨_, rfl, _, _, .refl, z⟩
      · refine ⟨_, rfl, _, _, .type "str", .type "str", true, rfl, .inr ⟨_, rfl, rfl⟩, .str s, rfl, _, rfl, ?_⟩
        refine ⟨_, rfl, Reserved.map .str, rfl, rfl, flat_strs _, _, rfl, ite_c (fun h5 => ?_) (fun h5 => ?_)⟩
        · have h5' : inDD (.str s) (Reserved.map .str) = true := h5
          rw [inDD_strs, decide_eq_true_eq] at h5'
          have e : isNameD (.str s) = false := by simp [isNameD, nameB, h5']
          rw [e] at z
          exact ⟨_, _, .refl, z⟩
        · have h5' : inDD (.str s) (Reserved.map .str) = false := h5
          rw [inDD_strs, decide_eq_false_iff_not] at h5'
          exact hN _ _ ⟨rfl, rfl, h5'⟩
    · exact ⟨_, rfl, _, _, .type "int", .type "str", false, rfl, .inr ⟨_, rfl, rfl⟩, .int i, rfl, _, rfl, _, _, .refl, z⟩

/-- only for what is a name -/
inductive FChN (ds : List D) (μ : Sto) (Q : QD) (E : XD) : Prop
  | mk (s : Str) (a1 : ds = [.str s]) (a2 : nameB s = true) (a3 : s.cps.toList.length ≤ sizeLine) (a4 : bdS μ.length μ = true) (a5 : Q .non μ) : FChN ds μ Q E
theorem FChN.mono  : MonF (FChN) := fun ds μ Q Q' E E' h he q => match q with | .mk s a1 a2 a3 a4 a5 => .mk s a1 a2 a3 a4 (h _ _ a5)
theorem FChN.len  : ∀ ds μ Q E, FChN ds μ Q E → ds.length = 1 := fun ds μ Q E q => by obtain ⟨_, e, _, _, _, _⟩ := q; rw [e]; rfl
end
end Dl

namespace Dl
open PySem PySem.Spec L2
open PyProof.Rows hiding St Binds
def Asc (s : Str) : Prop := ∀ c ∈ s.cps.toList, c < 16 ^ 8
theorem Asc.app {a b : Str} (ha : Asc a) (hb : Asc b) : Asc (a ++ b) := fun c hc => by
  have e : (a ++ b).cps.toList = a.cps.toList ++ b.cps.toList := by show (a.cps ++ b.cps).toList = _; rw [Array.toList_append]
  rw [e] at hc
  rcases List.mem_append.mp hc with h | h
  · exact ha c h
  · exact hb c h
theorem asc_name {s : Str} (h : NameOk s) : Asc s := fun c hc => by
  have := (h.low c hc).2
  have : (16 : Nat) ^ 8 = 4294967296 := by decide
  omega
theorem fitW {p : PyData} (h : p.leavesShort 40 = true) (w : p.weight ≤ 300000) : p.shown.length ≤ sizeLine := by
  have := PyData.shown_le 40 (by decide) p h
  have := sizeLine_eq
  omega
theorem leaf_asc {s : Str} (h : Asc s) : PyData.leavesShort 40 (.str s) = true := List.all_eq_true.mpr fun c hc => decide_eq_true (h c hc)
theorem okR_s {s : Str} (h : Asc s) (l : s.length ≤ 300000) : okR (.str s) := by
  refine ⟨rfl, rfl, fitW (leaf_asc h) ?_, by simp [PyData.depth]⟩
  show s.cps.size ≤ 300000
  have : s.length = s.cps.size := rfl
  omega
theorem py_strs : ∀ ss : List Str, pyAll (ss.map D.str) = some (ss.map PyData.str)
  | [] => rfl
  | s :: ss => by rw [List.map_cons]; unfold pyAll; rw [py_strs ss]; rfl
theorem okR_of {p : PyData} (h1 : p.showable = true) (h2 : p.hasDict = false) (h3 : p.leavesShort 40 = true) (h4 : p.weight ≤ 300000) (h5 : p.depth ≤ 10) : okR p := ⟨h1, h2, fitW h3 h4, by omega⟩
structure Itm (n : Nat) (p : PyData) : Prop where
  sh : p.showable = true
  nd : p.hasDict = false
  lv : p.leavesShort 40 = true
  w : p.weight ≤ n
  d : p.depth ≤ 5
theorem itm_all {n : Nat} : ∀ {ps : List PyData}, (∀ p ∈ ps, Itm n p) → PyData.showableAll ps = true ∧ PyData.hasDictAll ps = false ∧ PyData.leavesShortAll 40 ps = true ∧ PyData.weightAll ps ≤ (n + 1) * ps.length ∧ PyData.depthAll ps ≤ 6
  | [], _ => ⟨rfl, rfl, rfl, Nat.le_refl _, Nat.zero_le _⟩
  | p :: ps, h => by
    obtain ⟨i1, i2, i3, i4, i5⟩ := itm_all (ps := ps) fun x hx => h x (List.mem_cons_of_mem _ hx)
    obtain ⟨a1, a2, a3, a4, a5⟩ := h p List.mem_cons_self
    refine ⟨by simp [PyData.showableAll, a1, i1], by simp [PyData.hasDictAll, a2, i2], by show (_ && _) = true; rw [a3, i3]; rfl, ?_, ?_⟩
    · simp only [PyData.weightAll, List.length_cons, Nat.mul_succ]
      omega
    · simp only [PyData.depthAll]
      omega
theorem okR_items {n : Nat} {ps : List PyData} (h : ∀ p ∈ ps, Itm n p) (w : (n + 1) * ps.length ≤ 300000) : okR (.list ps) := by
  obtain ⟨i1, i2, i3, i4, i5⟩ := itm_all h
  exact okR_of i1 i2 i3 (Nat.le_trans i4 w) (by simp only [PyData.depth]; omega)
theorem itm_bl {n : Nat} (b : Bool) : Itm (n + 1) (.bool b) := ⟨rfl, rfl, rfl, by simp [PyData.weight], by simp [PyData.depth]⟩
end Dl

namespace Dl
open PySem PySem.Spec L2
open PyProof.Rows hiding St Binds
section
variable {P : Program} {w : World} {K : PySem.W.Frag} {mg : Str → Option Value} {base : Heap} 
end
end Dl


namespace Dl
open PySem PySem.Spec L2
open PyProof.Rows hiding St Binds
section
variable {P : Program} {w : World} {K : PySem.W.Frag} {mg : Str → Option Value} {base : Heap} {C_BadName : Addr}
abbrev sE_BadName : Stmt := inCls (top 2) 0
abbrev eOk_BadName : List D → Sto → Prop := okX 1 [.arg 0, .txt " is no name"]
abbrev eFl_BadName : List D → List (Str × D) := flX [("name", 0)]
theorem scE_BadName : SupScope ["self", "name"] ["self", "name"] (defScope sE_BadName) := ⟨rfl, rfl, rfl, by decide +kernel, rfl, by decide +kernel, by decide +kernel, by decide +kernel, by decide +kernel, by decide +kernel⟩
theorem erc_BadName {k : Nat} {C f cda cc : Addr} {kV doc pm ct oc : Value} {an od : Option Addr} {osl : Array (Option Value)} (T : SupK P K mg C cda cc)
    (lk : K.lookup f = some ⟨oc, od, .func (PySem.W.ksFn "__init__" "BadName.__init__" (defArgs sE_BadName) (defBody sE_BadName) (defScope sE_BadName) .none kV doc pm an (.ref cda) ct cc), osl⟩)
    (hcd : PySem.W.codeIn K (.ref cda) "BadName.__init__" = true) (tI : PySem.W.typeIn K (.ref f) = some (.type "function")) (iC : PySem.W.findIn K (.ref C) "__init__" = some (some (.ref f))) (hm : mg "BadName" = some (.ref C))
    (f0 : PySem.W.findIn K (.ref C) "name" = some none) : Erc P w K mg base (k + 1) "BadName" C eOk_BadName eFl_BadName := by
  refine ⟨f, _, ["self", "name"], erc_mk 1 [.arg 0, .txt " is no name"] [("name", 0)] T lk hcd scE_BadName rfl rfl (fun env => rfl) (fun env => rfl) rfl (by simp) (fun p hp => ?_) (by simp) (fun A outer s H E hG hr => ⟨?_, ?_⟩), T.cls, iC, tI, hm, ?_⟩
  · simp only [List.mem_cons, List.not_mem_nil, or_false] at hp
    rcases hp with rfl
    · exact ⟨f0, by decide⟩
  · have hu : (cxS (L2.CX P w) P w K mg base ["self", "name"] "BadName.__init__" (defScope sE_BadName) f (.ref cda) cc A outer s H E).A.units + 64 < cLine := by have := hr.un; show (A.deeper _).units + 64 < _; omega
    exact (.cons (pe_fmtRD hG hu (pe_var (i := 1) rfl (.inl rfl))) (.cons pe_str .nil))
  · exact (pss_cons (ps_ost (pe_var (i := 0) rfl (.inl rfl)) (pe_var (i := 1) rfl (.inl rfl))) pss_nil)
  · exact .all fun us hl => match us, hl with | [_, _], _ => rfl
theorem bn_ok {s : Str} {μ : Sto} (ha : Asc s) (hl : s.length ≤ 100) : eOk_BadName [.str s] μ := by
  have h := PyData.shown_le 40 (by decide) (.str s) (leaf_asc ha)
  have sz := sizeLine_eq
  have e0 : (" is no name" : Str).length = 11 := by decide
  have w : PyData.weight (.str s) ≤ 100 := hl
  have h2 : (Str.empty ++ (PyData.str s).shown).length ≤ sizeLine - 11 := by
    rw [Str.length_append]
    show 0 + _ ≤ _
    omega
  exact ⟨rfl, .str s, .str s, rfl, rfl, okR_s ha (by omega), by omega, by rw [Str.length_append, e0]; omega, trivial⟩
abbrev sChE : Stmt := top 8
abbrev nChE : List Str := ["name"]
theorem scChE : FnScope nChE ["name"] (defScope sChE) := ⟨rfl, rfl, rfl, by decide +kernel, rfl, by decide +kernel, by decide +kernel⟩
/-- a text of any kind -/
inductive FChE (C_BadName : Addr) (ds : List D) (μ : Sto) (Q : QD) (E : XD) : Prop
  | mk (s : Str) (a1 : ds = [.str s]) (a2 : Asc s) (a3 : s.length ≤ 100) (a4 : bdS μ.length μ = true) (a5 : (nameB s = true → Q .non μ)) (a6 : (nameB s = false → E (.ref C_BadName) [("name", .str s)] μ)) : FChE C_BadName ds μ Q E
theorem FChE.mono {C_BadName : Addr} : MonF (FChE C_BadName) := fun ds μ Q Q' E E' h he q => match q with | .mk s a1 a2 a3 a4 a5 a6 => .mk s a1 a2 a3 a4 (by intros; apply h; apply a5 <;> assumption) (by intros; apply he; apply a6 <;> assumption)
theorem FChE.len {C_BadName : Addr} : ∀ ds μ Q E, FChE C_BadName ds μ Q E → ds.length = 1 := fun ds μ Q E q => by obtain ⟨_, e, _, _, _, _, _⟩ := q; rw [e]; rfl
theorem cal_che (cIsN : Cal P w K mg base 2 "is_name" FIsN []) (erc_BadName : Erc P w K mg base 1 "BadName" C_BadName eOk_BadName eFl_BadName) {f : Addr} {fd : FuncData} {qual : Str} (T : NoB mg) (Fu : Fun K "check_name" qual sChE f fd) (hm : mg "check_name" = some (.ref f)) (hk : PySem.W.keepIn K (.ref f) = true) (hb : L2.Binds K fd ["name"] []) : Cal P w K mg base 3 "check_name" (FChE C_BadName) [] := by
  have nd := scChE.nd
  refine cal_fun Fu scChE hm hk hb ?_ ?_ (fun cdv A outer s H E hG hr =>
    have hu : (cxOf (L2.CX P w) P w K mg base nChE qual (defScope sChE) f cdv A outer s H E).A.units + 64 < cLine := by have := hr.un; show (A.deeper _).units + 64 < _; omega
    have hv : (cxOf (L2.CX P w) P w K mg base nChE qual (defScope sChE) f cdv A outer s H E).A.units + 1 < cLine := by omega
    have tk := takes_of (X := cxOf (L2.CX P w) P w K mg base nChE qual (defScope sChE) f cdv A outer s H E) (E := E) rfl rfl rfl rfl
    have pw := passes_of (X := cxOf (L2.CX P w) P w K mg base nChE qual (defScope sChE) f cdv A outer s H E) rfl
    (ds_one (ds_if (dt_not (dt_val (de_call cIsN hG hr (by decide) (by rfl) tk (da_cons (de_var 0 rfl) da_nil)))) (ds_one (ds_raise erc_BadName rfl hG hr (by decide) (by rfl) tk passL (da_cons (de_var 0 rfl) da_nil))) ds_nil))) ?_
  · exact FChE.mono
  · exact FChE.len
  · rintro ds μ Q E ⟨s, rfl, ha, hl, hb', z, z2⟩
    have sz := sizeLine_eq
    refine ⟨_, rfl, .str s, rfl, .inl ⟨s, rfl, by have : s.length = s.cps.toList.length := by simp [Str.length]
                                                  omega⟩, hb', _, rfl, ?_⟩
    show (if (!nameB s) = true then _ else _)
    cases hn : nameB s with
    | true => exact ⟨_, _, .refl, z hn⟩
    | false => exact ⟨_, rfl, by show 1 ≤ 1000; omega, bn_ok ha hl, _, [], (List.append_nil _).symm, Nat.le_refl _, rfl, hb', z2 hn⟩

end
end Dl

namespace Dl
open PySem PySem.Spec L2
open PyProof.Rows hiding St Binds
section
variable {X : Cx} {W : WX} {kx vx tg iter : Expr} {ifs : List Expr} {scope : Scope} {own : List (Str × Nat)} {pos : Pos} {fi : FI} {tgf : FG} {ft : FT} {fk fv : FE} {vs : List Nat}
/-- y = {k: v for ..} on one line, y a local -/
theorem ps_setDc {i : Nat} {y : Str} {py spos : Pos} {wi : TI} {g : TG} {tt : TT} {tk tv : TE} (hc : X.calm = true) (hN : X.N.Nodup) (hy : X.N[i]? = some y) (hyl : X.env.scope.names.lookup y = some .local) (hsw : swapsWith (.DictComp kx vx [⟨tg, iter, ifs, 0⟩] scope pos) (some (.Name y py)) spos.line X.env = pure true)
    (hi : PI X tg iter wi) (ok : BlkOk X.N X.env.scope scope own) (hg : ∀ (s : Shared) (H : Hp) (C : Addr) (cl : List (Str × Addr)) (fp : List Addr), PG (X.blk s H scope (compEnvC scope cl C X.env) fp) tg g)
    (ht : ∀ (s : Shared) (H : Hp) (C : Addr) (cl : List (Str × Addr)) (fp : List Addr), PTs (X.blk s H scope (compEnvC scope cl C X.env) fp) ifs tt) (hk : ∀ (s : Shared) (H : Hp) (C : Addr) (cl : List (Str × Addr)) (fp : List Addr), PE (X.blk s H scope (compEnvC scope cl C X.env) fp) kx tk)
    (he : ∀ (s : Shared) (H : Hp) (C : Addr) (cl : List (Str × Addr)) (fp : List Addr), PE (X.blk s H scope (compEnvC scope cl C X.env) fp) vx tv) (hs : ∀ x, foldedSetIterable iter X.env x = pure x := by intro _; rfl) :
    PS X (.Assign [.Name y py] (.DictComp kx vx [⟨tg, iter, ifs, 0⟩] scope pos) spos) (tAsg (tDc wi g tt tk tv (own.map (·.2))) (gName i)) := ⟨fun pins s σ H De I h => by
  rw [exec_Assign_Name_used _ _ _ _ hsw]
  have h : tDc wi g tt tk tv (own.map (·.2)) σ H (fun x H1 => gName i x σ H1 De.nx) := h
  refine wpAny_bind (wpAny_standAt (wpAny_bind (show wpAny _ X.A (comprehension (.DictComp kx vx [⟨tg, iter, ifs, 0⟩] scope pos) scope X.env (firstIterPos [⟨tg, iter, ifs, 0⟩] pos) newDict false (eval iter X.env) (some (assign (.Name y py) X.env)) >>= fun _ => _) _ _ s from ?_)))
  refine wpAny_bind (thn (dc_core (Qf := fun _ z => SP X pins De .next z) hc hN I hi ok hg ht hk he hs h fun L C z m H' J q hn fp => ?_) fun _ z hz => wpAny_pure (wpAny_pure hz))
  refine wpAny_assign_Name (store_ok2 (v := V.ref L) J hN hy (.inl hyl) rfl (fun z2 J2 ⟨a, sb, ha⟩ => ?_) (.inr hyl))
  obtain ⟨f0, f1, f2, f3, f4, f5⟩ := fp
  have ne : C ≠ a := ha.elim (fun e => e ▸ f1) fun e z => f4 y a e z.symm
  exact ⟨m, hn.sameBut sb ne, fun h3 sb3 => ⟨_, H', J2.turned (t' := z2.toks) (fun b o hb e => (sb3.2 b hb).trans e) f0 f1 f3 f4 f5, q⟩⟩⟩
end
def putAll (kd : List (Key × D)) (ps : List (Key × D)) : List (Key × D) := ps.foldl (fun acc p => putKD acc p.1 p.2) kd
theorem putKD_len (kd : List (Key × D)) (k : Key) (d : D) : (putKD kd k d).length ≤ kd.length + 1 := by
  unfold putKD
  split <;> simp
theorem putAll_len : ∀ (ps kd : List (Key × D)), (putAll kd ps).length ≤ kd.length + ps.length
  | [], kd => Nat.le_refl _
  | p :: ps, kd => by
    have h := putAll_len ps (putKD kd p.1 p.2)
    have h2 := putKD_len kd p.1 p.2
    show (putAll (putKD kd p.1 p.2) ps).length ≤ _
    simp only [List.length_cons]; omega
section
variable {g : FG} {ft : FT} {fk fv : FE} {ρ : Rho} {vs : List Nat} {Q : QD}
/-- a dict comprehension that leaves the store alone; keys may come again -/
theorem dc_fold {xs : List D} {st : Sto → Prop} {m : Sto} (p : D → Option (Key × D)) (hst : ∀ c, st (m ++ [.dct c]))
    (turn : ∀ x, x ∈ xs → ∀ (acc : List (Key × D)) (NX : D → D → Sto → Prop) (N0 : Sto → Prop), (∀ k y z, p x = some (k, z) → kD y = some k → NX y z (m ++ [.dct acc])) → (p x = none → N0 (m ++ [.dct acc])) →
      g x (wipeD ρ vs) (m ++ [.dct acc]) (fun ρ2 μ2 => ft ρ2 μ2 (fun b m3 => if b = true then fk ρ2 m3 (fun y m4 => fv ρ2 m4 (fun z m5 => NX y z m5) NE) NE else N0 m3) NE))
    (hl : xs.length ≤ sizeLine) (q : ∃ d2 μ2, Fz m.length (.cell m.length) (m ++ [.dct (putAll [] (xs.filterMap p))]) d2 μ2 ∧ Q d2 μ2) :
    DcI g ft fk fv vs xs st ρ m Q := by
  have fl : ∀ l : List D, (l.filterMap p).length ≤ l.length := fun l => List.length_filterMap_le p l
  refine ⟨fun i μ' => μ' = m ++ [.dct (putAll [] ((xs.take i).filterMap p))], rfl, fun i μ' e => by rw [e]; exact hst _, ?_, ?_⟩
  · rintro i x μ' hx rfl
    have ht : xs.take (i + 1) = xs.take i ++ [x] := by rw [List.take_add_one, hx]; rfl
    refine turn x (List.mem_of_getElem? hx) _ _ _ (fun k y0 y hy hk => ⟨putAll [] ((xs.take i).filterMap p), k, hk, by simp, ?_, ?_⟩) (fun hn => ?_)
    · have h1 := fl (xs.take i)
      have h2 : (xs.take i).length ≤ i := by rw [List.length_take]; omega
      have h3 := (List.getElem?_eq_some_iff.mp hx).1
      have h4 := putAll_len ((xs.take i).filterMap p) []
      simp only [List.length_nil] at h4
      omega
    · dsimp only
      rw [List.set_append_right _ _ (Nat.le_refl _), Nat.sub_self, ht, List.filterMap_append]
      simp [hy, putAll]
    · dsimp only
      rw [ht, List.filterMap_append]
      simp [hn]
  · rintro μ' rfl
    rw [List.take_length]; exact q
end
end Dl

namespace Dl
open PySem PySem.Spec L2
open PyProof.Rows hiding St Binds
/-! conditions worked out over numbers that stand for words -/
abbrev alw : Str := "always"
abbrev nev : Str := "never"
def stepN (f : Str → Nat) (w : Str) (st : List Nat) : Option (List Nat) :=
  if w = ("not" : Str) then (match st with | x :: st => some ((f alw ^^^ x) :: st) | [] => none)
  else if w = ("and" : Str) then (match st with | r :: l :: st => some ((r &&& l) :: st) | _ => none)
  else if w = ("or" : Str) then (match st with | r :: l :: st => some ((r ||| l) :: st) | _ => none)
  else some (f w :: st)
def runN (f : Str → Nat) : List Str → List Nat → Option (List Nat)
  | [], st => some st
  | w :: ws, st => (stepN f w st).bind (runN f ws)
theorem runN_app (f : Str → Nat) : ∀ (ws vs : List Str) (st : List Nat), runN f (ws ++ vs) st = (runN f ws st).bind (runN f vs)
  | [], vs, st => rfl
  | w :: ws, vs, st => by
    show (stepN f w st).bind (runN f (ws ++ vs)) = ((stepN f w st).bind (runN f ws)).bind (runN f vs)
    cases stepN f w st with
    | none => rfl
    | some s => exact runN_app f ws vs s
def Tr.val (f : Str → Nat) : Tr → Nat
  | .is s => f s | .al => f alw | .nv => f nev | .no t => f alw ^^^ t.val f | .an a b => b.val f &&& a.val f | .or a b => b.val f ||| a.val f
theorem Tr.runN {f : Str → Nat} : ∀ {t : Tr}, t.ok → ∀ st, Dl.runN f t.words st = some (t.val f :: st)
  | .is s, h, st => by
    obtain ⟨a, b, c⟩ := not_and_or (show NameOk s from h)
    show (stepN f s st).bind (Dl.runN f []) = _
    unfold stepN
    rw [if_neg a, if_neg b, if_neg c]; rfl
  | .al, h, st => by
    show (stepN f alw st).bind (Dl.runN f []) = _
    unfold stepN
    rw [if_neg (by decide +kernel), if_neg (by decide +kernel), if_neg (by decide +kernel)]; rfl
  | .nv, h, st => by
    show (stepN f nev st).bind (Dl.runN f []) = _
    unfold stepN
    rw [if_neg (by decide +kernel), if_neg (by decide +kernel), if_neg (by decide +kernel)]; rfl
  | .no t, h, st => by
    show Dl.runN f (t.words ++ [_]) st = _
    rw [runN_app, Tr.runN (t := t) h]
    show (stepN f ("not" : Str) (t.val f :: st)).bind (Dl.runN f []) = _
    unfold stepN
    rw [if_pos rfl]; rfl
  | .an a b, h, st => by
    show Dl.runN f (a.words ++ b.words ++ [_]) st = _
    rw [runN_app, runN_app, Tr.runN h.1]
    show ((Dl.runN f b.words (a.val f :: st)).bind _) = _
    rw [Tr.runN h.2]
    show (stepN f ("and" : Str) (b.val f :: a.val f :: st)).bind (Dl.runN f []) = _
    unfold stepN
    rw [if_neg (by decide +kernel), if_pos rfl]; rfl
  | .or a b, h, st => by
    show Dl.runN f (a.words ++ b.words ++ [_]) st = _
    rw [runN_app, runN_app, Tr.runN h.1]
    show ((Dl.runN f b.words (a.val f :: st)).bind _) = _
    rw [Tr.runN h.2]
    show (stepN f ("or" : Str) (b.val f :: a.val f :: st)).bind (Dl.runN f []) = _
    unfold stepN
    rw [if_neg (by decide +kernel), if_neg (by decide +kernel), if_pos rfl]; rfl
theorem runN_step {f : Str → Nat} {ws : List Str} {n : List Nat} (h : runN f ws [] = some n) {i : Nat} {w : Str} (hw : ws[i]? = some w) {st : List Nat} (hs : runN f (ws.take i) [] = some st) :
    ∃ st2, stepN f w st = some st2 ∧ runN f (ws.take (i + 1)) [] = some st2 := by
  have e : ws = ws.take i ++ (w :: ws.drop (i + 1)) := by
    have hi := (List.getElem?_eq_some_iff.mp hw).1
    have := (List.getElem?_eq_some_iff.mp hw).2
    rw [← this, List.getElem_cons_drop hi, List.take_append_drop]
  rw [e, runN_app, hs] at h
  have h : (stepN f w st).bind (runN f (ws.drop (i + 1))) = some n := h
  cases q : stepN f w st with
  | none => rw [q] at h; cases h
  | some st2 =>
    refine ⟨st2, rfl, ?_⟩
    rw [List.take_add_one, hw, runN_app, hs]
    show (stepN f w st).bind (runN f []) = _
    rw [q]; rfl
/-- the stack as it lies -/
def stN (st : List Nat) : List D := st.reverse.map fun n => D.int (n : Nat)
theorem stN_cons (n : Nat) (st : List Nat) : stN (n :: st) = stN st ++ [.int (n : Nat)] := by simp [stN]
theorem stN_len (st : List Nat) : (stN st).length = st.length := by simp [stN]
/-- what a dict says of words -/
structure Wor (kd : List (Key × D)) (f : Str → Nat) (ws : List Str) : Prop where
  al : valD kd (.inr alw) = some (.int (f alw : Nat))
  at_ : ∀ w ∈ ws, w ≠ ("not" : Str) → w ≠ ("and" : Str) → w ≠ ("or" : Str) → valD kd (.inr w) = some (.int (f w : Nat))
theorem Tr.words_mem : ∀ {t : Tr} {w : Str}, t.ok → w ∈ t.words → NameOk w ∨ w ∈ Reserved
  | .is s, w, h, m => by cases List.mem_singleton.mp m; exact .inl h
  | .al, w, h, m => by cases List.mem_singleton.mp m; exact .inr (by decide +kernel)
  | .nv, w, h, m => by cases List.mem_singleton.mp m; exact .inr (by decide +kernel)
  | .no t, w, h, m => by
    rcases List.mem_append.mp m with m | m
    · exact Tr.words_mem (t := t) h m
    · cases List.mem_singleton.mp m; exact .inr (by decide +kernel)
  | .an a b, w, h, m => by
    rcases List.mem_append.mp m with m | m
    · rcases List.mem_append.mp m with m | m
      · exact Tr.words_mem h.1 m
      · exact Tr.words_mem h.2 m
    · cases List.mem_singleton.mp m; exact .inr (by decide +kernel)
  | .or a b, w, h, m => by
    rcases List.mem_append.mp m with m | m
    · rcases List.mem_append.mp m with m | m
      · exact Tr.words_mem h.1 m
      · exact Tr.words_mem h.2 m
    · cases List.mem_singleton.mp m; exact .inr (by decide +kernel)
/-- the names of a tree, from the left -/
def Tr.nms : Tr → List Str
  | .is s => [s] | .al => [] | .nv => [] | .no t => t.nms | .an a b => a.nms ++ b.nms | .or a b => a.nms ++ b.nms
theorem Tr.nms_eq : ∀ {t : Tr}, t.ok → t.words.filter (fun w => decide (w ∉ Reserved)) = t.nms
  | .is s, h => by
    show [s].filter _ = [s]
    simp [(show NameOk s from h).res]
  | .al, _ => by decide +kernel
  | .nv, _ => by decide +kernel
  | .no t, h => by
    show (t.words ++ [_]).filter _ = _
    rw [List.filter_append, Tr.nms_eq (t := t) h, show [("not" : Str)].filter (fun w => decide (w ∉ Reserved)) = [] by decide +kernel, List.append_nil]; rfl
  | .an a b, h => by
    show (a.words ++ b.words ++ [_]).filter _ = _
    rw [List.filter_append, List.filter_append, Tr.nms_eq h.1, Tr.nms_eq h.2, show [("and" : Str)].filter (fun w => decide (w ∉ Reserved)) = [] by decide +kernel, List.append_nil]; rfl
  | .or a b, h => by
    show (a.words ++ b.words ++ [_]).filter _ = _
    rw [List.filter_append, List.filter_append, Tr.nms_eq h.1, Tr.nms_eq h.2, show [("or" : Str)].filter (fun w => decide (w ∉ Reserved)) = [] by decide +kernel, List.append_nil]; rfl
/-! texts in order -/
end Dl

namespace Dl
open PySem PySem.Spec L2
open PyProof.Rows hiding St Binds
/-! what stands in a dict behind a write -/
theorem bdK_of {n : Nat} : ∀ {kd : List (Key × D)}, (∀ p ∈ kd, p.2.bd n = true) → bdK n kd = true
  | [], _ => rfl
  | (k, d) :: kd, h => by
    unfold bdK
    rw [Bool.and_eq_true]
    exact ⟨h (k, d) List.mem_cons_self, bdK_of fun p hp => h p (List.mem_cons_of_mem _ hp)⟩
/-! whether a condition holds -/
def Tr.hold (S : Str → Bool) : Tr → Bool
  | .is s => S s | .al => true | .nv => false | .no t => !t.hold S | .an a b => a.hold S && b.hold S | .or a b => a.hold S || b.hold S
theorem Tr.hold_congr {S S' : Str → Bool} : ∀ {t : Tr}, (∀ s ∈ t.nms, S s = S' s) → t.hold S = t.hold S'
  | .is s, h => h s List.mem_cons_self
  | .al, _ => rfl
  | .nv, _ => rfl
  | .no t, h => by show (!_) = (!_); rw [Tr.hold_congr (t := t) h]
  | .an a b, h => by show (_ && _) = (_ && _); rw [Tr.hold_congr (t := a) fun s m => h s (List.mem_append_left _ m), Tr.hold_congr (t := b) fun s m => h s (List.mem_append_right _ m)]
  | .or a b, h => by show (_ || _) = (_ || _); rw [Tr.hold_congr (t := a) fun s m => h s (List.mem_append_left _ m), Tr.hold_congr (t := b) fun s m => h s (List.mem_append_right _ m)]
end Dl

namespace Dl
open PySem PySem.Spec L2
open PyProof.Rows hiding St Binds
section
variable {P : Program} {w : World} {K : PySem.W.Frag} {mg : Str → Option Value} {base : Heap} {C_Condition C_BadName : Addr} {TR_RESERVED : Addr}
theorem py_app_get {μ : Sto} {a : CT} : (μ ++ [a])[μ.length]? = some a := by simp
theorem py_app_set {μ : Sto} {a b : CT} : (μ ++ [a]).set μ.length b = μ ++ [b] := by rw [List.set_append_right _ _ (Nat.le_refl _), Nat.sub_self]; rfl
theorem py_app_asL {μ : Sto} {xs : List D} : asL (μ ++ [.lst xs]) (.cell μ.length) = some xs := by simp [asL]
abbrev sNmA : Stmt := top 11
abbrev nNmA : List Str := ["words", "word"]
theorem scNmA : FnScope nNmA ["words"] (defScope sNmA) := ⟨rfl, rfl, rfl, by decide +kernel, rfl, by decide +kernel, by decide +kernel⟩
def pNm : D → Option D
  | .str s => if s ∈ Reserved then none else some (.str s)
  | _ => none
theorem pNm_map : ∀ ws : List Str, (ws.map D.str).filterMap pNm = (ws.filter fun w => decide (w ∉ Reserved)).map D.str
  | [] => rfl
  | w :: ws => by
    rw [List.map_cons, List.filterMap_cons, pNm_map ws, List.filter_cons]
    by_cases h : w ∈ Reserved <;> simp [pNm, h]
/-- the names among words that stem from conditions: some list in order that holds just them -/
inductive FNmA (ds : List D) (μ : Sto) (Q : QD) (E : XD) : Prop
  | mk (d : D) (ws : List Str) (ns : List Str) (a1 : ds = [d]) (a2 : asS μ d = some (ws.map .str)) (a3 : (∀ m, asS (μ ++ m) d = some (ws.map .str))) (a4 : ws.length < 1000) (a5 : ns.length < 64) (a6 : (∀ s ∈ ws, s ∉ Reserved → s ∈ ns)) (a7 : bdS μ.length μ = true) (a8 : ∀ ys : List Str, ys.Nodup → sortedS ys = true → (∀ y, y ∈ ys ↔ y ∈ ws ∧ y ∉ Reserved) → Q (.lst (ys.map .str)) μ) : FNmA ds μ Q E
theorem FNmA.mono  : MonF (FNmA) := fun ds μ Q Q' E E' h he q => match q with | .mk d ws ns a1 a2 a3 a4 a5 a6 a7 a8 => .mk d ws ns a1 a2 a3 a4 a5 a6 a7 (by intros; apply h; apply a8 <;> assumption)
theorem FNmA.len  : ∀ ds μ Q E, FNmA ds μ Q E → ds.length = 1 := fun ds μ Q E q => by obtain ⟨_, _, _, e, _, _, _, _, _, _, _⟩ := q; rw [e]; rfl
theorem cal_nma (hm_RESERVED : mg "RESERVED" = some (.ref TR_RESERVED)) (l_RESERVED : ∀ H0 : Hp, SqT K H0 TR_RESERVED (Reserved.map V.str)) {f : Addr} {fd : FuncData} {qual : Str} (T : NoB mg) (Fu : Fun K "names_among" qual sNmA f fd) (hm : mg "names_among" = some (.ref f)) (hk : PySem.W.keepIn K (.ref f) = true) (hb : L2.Binds K fd ["words"] []) : Cal P w K mg base 1 "names_among" FNmA [] := by
  have nd := scNmA.nd
  refine cal_fun Fu scNmA hm hk hb ?_ ?_ (fun cdv A outer s H E hG hr =>
    have hu : (cxOf (L2.CX P w) P w K mg base nNmA qual (defScope sNmA) f cdv A outer s H E).A.units + 64 < cLine := by have := hr.un; show (A.deeper _).units + 64 < _; omega
    have hv : (cxOf (L2.CX P w) P w K mg base nNmA qual (defScope sNmA) f cdv A outer s H E).A.units + 1 < cLine := by omega
    have tk := takes_of (X := cxOf (L2.CX P w) P w K mg base nNmA qual (defScope sNmA) f cdv A outer s H E) (E := E) rfl rfl rfl rfl
    have pw := passes_of (X := cxOf (L2.CX P w) P w K mg base nNmA qual (defScope sNmA) f cdv A outer s H E) rfl
    (ds_one (ds_ret (de_sortSet rfl (by rfl) T.sorted (by rfl) T.set (de_lc (own := [("word", 1)]) rfl nd (di_seq (de_var 0 rfl)) (blkOk_by (N := nNmA) (sc := defScope sNmA) (by decide +kernel)) (fun _ _ _ _ _ => (dgw_name (i := 1) nd rfl (Or.inl rfl) (by decide))) (fun _ _ _ _ _ => (dts_one (dt_cmp opd_notin (de_var 1 rfl) (de_mt (by rfl) hm_RESERVED l_RESERVED)))) (fun _ _ _ _ _ => (de_var 1 rfl))))))) ?_
  · exact FNmA.mono
  · exact FNmA.len
  · rintro ds μ Q E ⟨d, ws, ns, rfl, hd, hd', hl, n64, sub, hb', z⟩
    have sz := sizeLine_eq
    refine ⟨_, rfl, ws.map .str, hd, ?_⟩
    refine lc_pure pNm (fun c => hd' _) (fun x hx acc NX N0 n1 n2 => ?_) (by rw [List.length_map]; omega) (by rw [pNm_map]; exact bdL_strs _) hb' ?_
    · obtain ⟨s, _, rfl⟩ := List.mem_map.mp hx
      refine ⟨_, rfl, Reserved.map .str, rfl, rfl, flat_strs _, _, rfl, ite_c (fun h => ?_) (fun h => ?_)⟩
      · have h' : (!inDD (.str s) (Reserved.map .str)) = true := h
        rw [inDD_strs] at h'
        exact ⟨_, rfl, n1 _ (by simp at h'; simp [pNm, h'])⟩
      · have h' : (!inDD (.str s) (Reserved.map .str)) = false := h
        rw [inDD_strs] at h'
        exact n2 (by simp at h'; simp [pNm, h'])
    · rw [pNm_map]
      have mm : ∀ y, y ∈ ws.filter (fun w => decide (w ∉ Reserved)) ↔ y ∈ ws ∧ y ∉ Reserved := fun y => by simp [List.mem_filter]
      refine ⟨_, rfl, Nat.lt_of_le_of_lt (List.length_filter_le _ _) hl, ⟨ns, n64, fun y hy => sub y ((mm y).mp hy).1 ((mm y).mp hy).2⟩, fun ys h1 h2 h3 => ?_⟩
      exact ⟨_, _, .refl, z ys h1 h3 fun y => by rw [h2 y, mm y]⟩

abbrev sWo : Stmt := top 12
abbrev nWo : List Str := ["words", "worths", "stack", "word"]
theorem scWo : FnScope nWo ["words", "worths"] (defScope sWo) := ⟨rfl, rfl, rfl, by decide +kernel, rfl, by decide +kernel, by decide +kernel⟩
inductive FWo (ds : List D) (μ : Sto) (Q : QD) (E : XD) : Prop
  | mk (ws : List Str) (kd : List (Key × D)) (d : D) (f : Str → Nat) (n : Nat) (a1 : ds = [.tup (ws.map .str), d]) (a2 : (∀ m, asD (μ ++ m) d = some kd)) (a3 : Wor kd f ws) (a4 : runN f ws [] = some [n]) (a5 : ws.length < 10000) (a6 : bdS μ.length μ = true) (a7 : Q (.int (n : Nat)) μ) : FWo ds μ Q E
theorem FWo.mono  : MonF (FWo) := fun ds μ Q Q' E E' h he q => match q with | .mk ws kd d f n a1 a2 a3 a4 a5 a6 a7 => .mk ws kd d f n a1 a2 a3 a4 a5 a6 (h _ _ a7)
theorem FWo.len  : ∀ ds μ Q E, FWo ds μ Q E → ds.length = 2 := fun ds μ Q E q => by obtain ⟨_, _, _, _, _, e, _, _, _, _, _, _⟩ := q; rw [e]; rfl
theorem cal_wo {f : Addr} {fd : FuncData} {qual : Str} (T : NoB mg) (Fu : Fun K "work_out" qual sWo f fd) (hm : mg "work_out" = some (.ref f)) (hk : PySem.W.keepIn K (.ref f) = true) (hb : L2.Binds K fd ["words", "worths"] []) : Cal P w K mg base 1 "work_out" FWo [] := by
  have nd := scWo.nd
  refine cal_fun Fu scWo hm hk hb ?_ ?_ (fun cdv A outer s H E hG hr =>
    have hu : (cxOf (L2.CX P w) P w K mg base nWo qual (defScope sWo) f cdv A outer s H E).A.units + 64 < cLine := by have := hr.un; show (A.deeper _).units + 64 < _; omega
    have hv : (cxOf (L2.CX P w) P w K mg base nWo qual (defScope sWo) f cdv A outer s H E).A.units + 1 < cLine := by omega
    have tk := takes_of (X := cxOf (L2.CX P w) P w K mg base nWo qual (defScope sWo) f cdv A outer s H E) (E := E) rfl rfl rfl rfl
    have pw := passes_of (X := cxOf (L2.CX P w) P w K mg base nWo qual (defScope sWo) f cdv A outer s H E) rfl
    (ds_cons (ds_set (i := 2) nd rfl (by first | exact .inl rfl | exact .inr rfl) (de_lstC da_nil))
      (ds_cons (ds_for pw rfl (di_seq (de_var 0 rfl)) (dg_name (i := 3) nd rfl (by first | exact .inl rfl | exact .inr rfl)) (ds_one (ds_if (dt_cmp opd_eqS (de_var 3 rfl) de_str) (ds_one (ds_expr (de_bmL PySem.F.plainAttrs_list PySem.F.slot_list_append PySem.F.type_list_append mtd_append (de_var 2 rfl) (da_cons (de_op opd_bxor (de_dget hv (de_var 1 rfl) de_str (fun _ _ => rfl)) (de_bmL0 PySem.F.plainAttrs_list PySem.F.slot_list_pop PySem.F.type_list_pop mtd_pop (de_var 2 rfl))) da_nil)))) (ds_one (ds_if (dt_cmp opd_eqS (de_var 3 rfl) de_str) (ds_one (ds_expr (de_bmL PySem.F.plainAttrs_list PySem.F.slot_list_append PySem.F.type_list_append mtd_append (de_var 2 rfl) (da_cons (de_op opd_band (de_bmL0 PySem.F.plainAttrs_list PySem.F.slot_list_pop PySem.F.type_list_pop mtd_pop (de_var 2 rfl)) (de_bmL0 PySem.F.plainAttrs_list PySem.F.slot_list_pop PySem.F.type_list_pop mtd_pop (de_var 2 rfl))) da_nil)))) (ds_one (ds_if (dt_cmp opd_eqS (de_var 3 rfl) de_str) (ds_one (ds_expr (de_bmL PySem.F.plainAttrs_list PySem.F.slot_list_append PySem.F.type_list_append mtd_append (de_var 2 rfl) (da_cons (de_op opd_bor (de_bmL0 PySem.F.plainAttrs_list PySem.F.slot_list_pop PySem.F.type_list_pop mtd_pop (de_var 2 rfl)) (de_bmL0 PySem.F.plainAttrs_list PySem.F.slot_list_pop PySem.F.type_list_pop mtd_pop (de_var 2 rfl))) da_nil)))) (ds_one (ds_expr (de_bmL PySem.F.plainAttrs_list PySem.F.slot_list_append PySem.F.type_list_append mtd_append (de_var 2 rfl) (da_cons (de_dget hv (de_var 1 rfl) (de_var 3 rfl) (fun _ _ => rfl)) da_nil)))))))))))
      (ds_one (ds_ret (de_bmL0 PySem.F.plainAttrs_list PySem.F.slot_list_pop PySem.F.type_list_pop mtd_pop (de_var 2 rfl))))))) ?_
  · exact FWo.mono
  · exact FWo.len
  · rintro ds μ Q E ⟨ws, kd, d, f, n, rfl, hD, W, hr, hl, hb', z⟩
    have sz := sizeLine_eq
    refine ⟨by show 0 ≤ sizeLine; omega, ?_⟩
    dsimp only
    refine ⟨_, rfl, ws.map .str, rfl, fun i ρ' μ' => ∃ (v : Option D) (st : List Nat), ρ' = [some (.tup (ws.map .str)), some d, some (.cell μ.length), v] ∧ runN f (ws.take i) [] = some st ∧ st.length ≤ i ∧ μ' = μ ++ [.lst (stN st)], ⟨_, [], rfl, rfl, Nat.le_refl _, rfl⟩, fun _ _ _ _ => rfl, ?_, ?_⟩
    · rintro i x ρ' μ' hx ⟨v, st, rfl, hst, sl, rfl⟩
      rw [List.getElem?_map] at hx
      obtain ⟨w, hw, rfl⟩ := Option.map_eq_some_iff.mp hx
      have hi : i < ws.length := (List.getElem?_eq_some_iff.mp hw).1
      obtain ⟨st2, h1, h2⟩ := runN_step hr hw hst
      unfold stepN at h1
      refine ⟨_, rfl, _, _, rfl, rfl, _, rfl, ite_b (fun h => ?_) (fun h => ?_)⟩
      · rw [if_pos h] at h1
        cases st with
        | nil => cases h1
        | cons x st =>
          cases h1
          rw [stN_cons]
          refine ⟨_, rfl, ⟨_, py_app_asL⟩, _, rfl, kd, .inr alw, _, hD _, rfl, W.al, _, rfl, ⟨_, py_app_asL⟩, _, _, _, rfl, rfl, py_app_get, ?_⟩
          rw [py_app_set]
          refine ⟨_, x, rfl, rfl, _, _, _, rfl, rfl, py_app_get, by rw [stN_len]; simp at sl; omega, ?_⟩
          rw [py_app_set]
          exact ⟨_, _, rfl, h2, by simp at sl ⊢; omega, by rw [stN_cons]⟩
      · rw [if_neg h] at h1
        refine ⟨_, rfl, _, _, rfl, rfl, _, rfl, ite_b (fun h3 => ?_) (fun h3 => ?_)⟩
        · rw [if_pos h3] at h1
          match st, h1, sl with
          | r :: l :: st, h1, sl =>
            cases h1
            rw [stN_cons]
            refine ⟨_, rfl, ⟨_, py_app_asL⟩, _, rfl, ⟨_, py_app_asL⟩, _, _, _, rfl, rfl, py_app_get, ?_⟩
            rw [py_app_set, stN_cons]
            refine ⟨_, rfl, ⟨_, py_app_asL⟩, _, _, _, rfl, rfl, py_app_get, ?_⟩
            rw [py_app_set]
            refine ⟨r, l, rfl, rfl, _, _, _, rfl, rfl, py_app_get, by rw [stN_len]; simp at sl; omega, ?_⟩
            rw [py_app_set]
            exact ⟨_, _, rfl, h2, by simp at sl ⊢; omega, by rw [stN_cons]⟩
        · rw [if_neg h3] at h1
          refine ⟨_, rfl, _, _, rfl, rfl, _, rfl, ite_b (fun h4 => ?_) (fun h4 => ?_)⟩
          · rw [if_pos h4] at h1
            match st, h1, sl with
            | r :: l :: st, h1, sl =>
              cases h1
              rw [stN_cons]
              refine ⟨_, rfl, ⟨_, py_app_asL⟩, _, rfl, ⟨_, py_app_asL⟩, _, _, _, rfl, rfl, py_app_get, ?_⟩
              rw [py_app_set, stN_cons]
              refine ⟨_, rfl, ⟨_, py_app_asL⟩, _, _, _, rfl, rfl, py_app_get, ?_⟩
              rw [py_app_set]
              refine ⟨r, l, rfl, rfl, _, _, _, rfl, rfl, py_app_get, by rw [stN_len]; simp at sl; omega, ?_⟩
              rw [py_app_set]
              exact ⟨_, _, rfl, h2, by simp at sl ⊢; omega, by rw [stN_cons]⟩
          · rw [if_neg h4] at h1
            cases h1
            refine ⟨_, rfl, ⟨_, py_app_asL⟩, _, rfl, _, rfl, kd, .inr w, _, hD _, rfl, W.at_ w (List.mem_of_getElem? hw) h h3 h4, _, _, _, rfl, rfl, py_app_get, by rw [stN_len]; omega, ?_⟩
            rw [py_app_set]
            exact ⟨_, _, rfl, h2, by simp; omega, by rw [stN_cons]⟩
    · rintro ρ' μ' ⟨v, st, rfl, hst, sl, rfl⟩
      rw [List.length_map, List.take_length, hr] at hst
      cases hst
      refine ⟨_, rfl, ⟨_, py_app_asL⟩, _, [], .int (n : Nat), rfl, rfl, py_app_get, ?_⟩
      rw [py_app_set]
      exact ⟨_, _, .drop (Nat.le_refl _) rfl hb' .refl, z⟩

inductive FHf (ds : List D) (μ : Sto) (Q : QD) (E : XD) : Prop
  | mk (t : Tr) (e : D) (ns : List Str) (a1 : ds = [.tup (t.words.map .str), e]) (a2 : t.ok) (a3 : t.words.length < 1000) (a4 : (∀ m, asS (μ ++ m) e = some (ns.map .str))) (a5 : bdS μ.length μ = true) (a6 : Q (.bl (t.hold fun s => decide (s ∈ ns))) μ) : FHf ds μ Q E
theorem FHf.mono  : MonF (FHf) := fun ds μ Q Q' E E' h he q => match q with | .mk t e ns a1 a2 a3 a4 a5 a6 => .mk t e ns a1 a2 a3 a4 a5 (h _ _ a6)
theorem FHf.len  : ∀ ds μ Q E, FHf ds μ Q E → ds.length = 2 := fun ds μ Q E q => by obtain ⟨_, _, _, e, _, _, _, _, _⟩ := q; rw [e]; rfl
theorem bd_app1 {μ : Sto} {c : CT} (h : bdS μ.length μ = true) (hc : ∀ n, c.bd n = true) : bdS (μ ++ [c]).length (μ ++ [c]) = true := by
  rw [bdS_app, Bool.and_eq_true]
  refine ⟨bdS_mono (by simp) h, ?_⟩
  unfold bdS
  rw [List.all_cons, List.all_nil, Bool.and_true]
  exact hc _
end
end Dl

namespace Dl
open PySem PySem.Spec L2
open PyProof.Rows hiding St Binds
section
variable {P : Program} {w : World} {K : PySem.W.Frag} {mg : Str → Option Value} {base : Heap} {C_Condition C_BadName : Addr} {TR_RESERVED : Addr}
abbrev sIni : Stmt := inCls (top 20) 0
abbrev nIni : List Str := ["self", "words"]
theorem scIni : FnScope nIni ["self", "words"] (defScope sIni) := ⟨rfl, rfl, rfl, by decide +kernel, rfl, by decide +kernel, by decide +kernel⟩
inductive FIni (C_Condition : Addr) (ds : List D) (μ : Sto) (Q : QD) (E : XD) : Prop
  | mk (n : Nat) (d : D) (ws : List Str) (a1 : ds = [.cell n, d]) (a2 : μ[n]? = some (.ins C_Condition [])) (a3 : asS μ d = some (ws.map .str)) (a4 : bdS μ.length μ = true) (a5 : Q .non (μ.set n (.ins C_Condition (wdF ws)))) : FIni C_Condition ds μ Q E
theorem FIni.mono {C_Condition : Addr} : MonF (FIni C_Condition) := fun ds μ Q Q' E E' h he q => match q with | .mk n d ws a1 a2 a3 a4 a5 => .mk n d ws a1 a2 a3 a4 (h _ _ a5)
theorem FIni.len {C_Condition : Addr} : ∀ ds μ Q E, FIni C_Condition ds μ Q E → ds.length = 2 := fun ds μ Q E q => by obtain ⟨_, _, _, e, _, _, _, _⟩ := q; rw [e]; rfl
theorem mak_cond (cls_Condition : Cls K C_Condition) (na_words : NoAttr K C_Condition ("_words" : Str)) {f : Addr} {fd : FuncData} {qual : Str} (T : NoB mg) (Fu : FunA K "__init__" qual sIni f fd) (hm : mg "Condition" = some (.ref C_Condition)) (M : Mk K C_Condition f) (hb : L2.Binds K fd ["self", "words"] []) : Mak P w K mg base 1 "Condition" C_Condition (FIni C_Condition) [] := by
  have nd := scIni.nd
  refine mak_fun Fu scIni hm M hb ?_ ?_ (fun cdv A outer s H E hG hr =>
    have hu : (cxOf (L2.CX P w) P w K mg base nIni qual (defScope sIni) f cdv A outer s H E).A.units + 64 < cLine := by have := hr.un; show (A.deeper _).units + 64 < _; omega
    have hv : (cxOf (L2.CX P w) P w K mg base nIni qual (defScope sIni) f cdv A outer s H E).A.units + 1 < cLine := by omega
    have tk := takes_of (X := cxOf (L2.CX P w) P w K mg base nIni qual (defScope sIni) f cdv A outer s H E) (E := E) rfl rfl rfl rfl
    have pw := passes_of (X := cxOf (L2.CX P w) P w K mg base nIni qual (defScope sIni) f cdv A outer s H E) rfl
    (ds_one (ds_fld (de_var 0 rfl) (de_callTy cad_tuple (by rfl) T.tuple (by decide +kernel) (da_cons (de_var 1 rfl) da_nil))))) ?_
  · exact FIni.mono
  · exact FIni.len
  · rintro ds μ Q E ⟨n, d, ws, rfl, hn, hd, hb', z⟩
    exact ⟨_, rfl, d, ws.map .str, rfl, hd, _, rfl, n, C_Condition, [], rfl, hn, cls_Condition, na_words, by decide, _, _, .refl, z⟩

theorem cond_bd {μ : Sto} {C : Addr} (b : bdS μ.length μ = true) : bdS (μ ++ [CT.ins C []]).length (μ ++ [CT.ins C []]) = true := by
  rw [bdS_app, Bool.and_eq_true]
  exact ⟨bdS_mono (by simp) b, rfl⟩
theorem cond_get {μ : Sto} {C : Addr} : (μ ++ [CT.ins C []])[μ.length]? = some (.ins C []) := by simp
theorem cond_fz {μ : Sto} {C : Addr} {ws : List Str} (b : bdS μ.length μ = true) : Fz μ.length (.cell μ.length) ((μ ++ [CT.ins C []]).set μ.length (.ins C (wdF ws))) (cD C ws) μ := by
  rw [List.set_append_right _ _ (Nat.le_refl _), Nat.sub_self]
  refine .ins (Nat.le_refl _) ?_ b .refl
  show ((D.tup (ws.map .str)).bd _ && true) = true
  rw [Bool.and_true]
  exact bdL_strs ws
theorem NameOk.nameB {s : Str} (h : NameOk s) : nameB s = true := by
  have a1 := h.pos
  have a2 := h.le
  have a3 := h.res
  have a4 : s.cps.toList.all lowS = true := List.all_eq_true.mpr fun c hc => decide_eq_true (h.low c hc)
  simp only [Dl.nameB, a1, a2, a3, a4, decide_true, decide_false, Bool.not_false, Bool.and_self]
abbrev sOf : Stmt := inCls (top 20) 1
abbrev nOf : List Str := ["name"]
theorem scOf : FnScope nOf ["name"] (defScope sOf) := ⟨rfl, rfl, rfl, by decide +kernel, rfl, by decide +kernel, by decide +kernel⟩
inductive FOf (C_Condition C_BadName : Addr) (ds : List D) (μ : Sto) (Q : QD) (E : XD) : Prop
  | mk (s : Str) (a1 : ds = [.str s]) (a2 : Asc s) (a3 : s.length ≤ 100) (a4 : bdS μ.length μ = true) (a5 : (nameB s = true → Q (cD C_Condition [s]) μ)) (a6 : (nameB s = false → E (.ref C_BadName) [("name", .str s)] μ)) : FOf C_Condition C_BadName ds μ Q E
theorem FOf.mono {C_Condition C_BadName : Addr} : MonF (FOf C_Condition C_BadName) := fun ds μ Q Q' E E' h he q => match q with | .mk s a1 a2 a3 a4 a5 a6 => .mk s a1 a2 a3 a4 (by intros; apply h; apply a5 <;> assumption) (by intros; apply he; apply a6 <;> assumption)
theorem FOf.len {C_Condition C_BadName : Addr} : ∀ ds μ Q E, FOf C_Condition C_BadName ds μ Q E → ds.length = 1 := fun ds μ Q E q => by obtain ⟨_, e, _, _, _, _, _⟩ := q; rw [e]; rfl
theorem sta_Of (cChE : Cal P w K mg base 3 "check_name" (FChE C_BadName) []) (cCo : Mak P w K mg base 1 "Condition" C_Condition (FIni C_Condition) []) {f : Addr} {fd : FuncData} {qual : Str} (T : NoB mg) (Fu : FunA K "of" qual sOf f fd) (M : SMet K C_Condition "of" f) (hb : L2.Binds K fd ["name"] []) : Sta P w K mg base 4 C_Condition "of" (FOf C_Condition C_BadName) [] := by
  have nd := scOf.nd
  refine sta_fun Fu scOf M hb ?_ ?_ (fun cdv A outer s H E hG hr =>
    have hu : (cxOf (L2.CX P w) P w K mg base nOf qual (defScope sOf) f cdv A outer s H E).A.units + 64 < cLine := by have := hr.un; show (A.deeper _).units + 64 < _; omega
    have hv : (cxOf (L2.CX P w) P w K mg base nOf qual (defScope sOf) f cdv A outer s H E).A.units + 1 < cLine := by omega
    have tk := takes_of (X := cxOf (L2.CX P w) P w K mg base nOf qual (defScope sOf) f cdv A outer s H E) (E := E) rfl rfl rfl rfl
    have pw := passes_of (X := cxOf (L2.CX P w) P w K mg base nOf qual (defScope sOf) f cdv A outer s H E) rfl
    (ds_cons (ds_expr (de_call cChE hG hr (by decide) (by rfl) tk (da_cons (de_var 0 rfl) da_nil)))
      (ds_one (ds_ret (de_make cCo hG hr (by decide) (by rfl) tk (da_cons (de_lstD (da_cons (de_var 0 rfl) da_nil)) da_nil)))))) ?_
  · exact FOf.mono
  · exact FOf.len
  · rintro ds μ Q E ⟨s, rfl, ha, hl, hb', z, z2⟩
    have sz := sizeLine_eq
    refine ⟨_, rfl, s, rfl, ha, hl, hb', fun hn => ?_, fun hn => ?_⟩
    · exact ⟨_, rfl, by show 1 ≤ sizeLine; omega, _, _, [s], rfl, cond_get, rfl, cond_bd hb', rfl, _, _, cond_fz hb', _, _, .refl, z hn⟩
    · exact ⟨_, [], (List.append_nil _).symm, Nat.le_refl _, rfl, hb', z2 hn⟩
abbrev sAl : Stmt := inCls (top 20) 2
abbrev nAl : List Str := []
theorem scAl : FnScope nAl [] (defScope sAl) := ⟨rfl, rfl, rfl, by decide +kernel, rfl, by decide +kernel, by decide +kernel⟩
inductive FCon (C_Condition : Addr) (x : Str) (ds : List D) (μ : Sto) (Q : QD) (E : XD) : Prop
  | mk (a1 : ds = []) (a2 : bdS μ.length μ = true) (a3 : Q (cD C_Condition [x]) μ) : FCon C_Condition x ds μ Q E
theorem FCon.mono {C_Condition : Addr} {x : Str} : MonF (FCon C_Condition x) := fun ds μ Q Q' E E' h he q => match q with | .mk  a1 a2 a3 => .mk  a1 a2 (h _ _ a3)
theorem FCon.len {C_Condition : Addr} {x : Str} : ∀ ds μ Q E, FCon C_Condition x ds μ Q E → ds.length = 0 := fun ds μ Q E q => by obtain ⟨e, _, _⟩ := q; rw [e]; rfl
theorem sta_Al (cCo : Mak P w K mg base 1 "Condition" C_Condition (FIni C_Condition) []) {f : Addr} {fd : FuncData} {qual : Str} (T : NoB mg) (Fu : FunA K "always" qual sAl f fd) (M : SMet K C_Condition "always" f) (hb : L2.Binds K fd [] []) : Sta P w K mg base 3 C_Condition "always" (FCon C_Condition ("always" : Str)) [] := by
  have nd := scAl.nd
  refine sta_fun Fu scAl M hb ?_ ?_ (fun cdv A outer s H E hG hr =>
    have hu : (cxOf (L2.CX P w) P w K mg base nAl qual (defScope sAl) f cdv A outer s H E).A.units + 64 < cLine := by have := hr.un; show (A.deeper _).units + 64 < _; omega
    have hv : (cxOf (L2.CX P w) P w K mg base nAl qual (defScope sAl) f cdv A outer s H E).A.units + 1 < cLine := by omega
    have tk := takes_of (X := cxOf (L2.CX P w) P w K mg base nAl qual (defScope sAl) f cdv A outer s H E) (E := E) rfl rfl rfl rfl
    have pw := passes_of (X := cxOf (L2.CX P w) P w K mg base nAl qual (defScope sAl) f cdv A outer s H E) rfl
    (ds_one (ds_ret (de_make cCo hG hr (by decide) (by rfl) tk (da_cons (de_lstD (da_cons de_str da_nil)) da_nil))))) ?_
  · exact FCon.mono
  · exact FCon.len
  · rintro ds μ Q E ⟨rfl, hb', z⟩
    have sz := sizeLine_eq
    exact ⟨by show 1 ≤ sizeLine; omega, _, _, [("always" : Str)], rfl, cond_get, rfl, cond_bd hb', rfl, _, _, cond_fz hb', _, _, .refl, z⟩
abbrev sNv : Stmt := inCls (top 20) 3
abbrev nNv : List Str := []
theorem scNv : FnScope nNv [] (defScope sNv) := ⟨rfl, rfl, rfl, by decide +kernel, rfl, by decide +kernel, by decide +kernel⟩
theorem sta_Nv (cCo : Mak P w K mg base 1 "Condition" C_Condition (FIni C_Condition) []) {f : Addr} {fd : FuncData} {qual : Str} (T : NoB mg) (Fu : FunA K "never" qual sNv f fd) (M : SMet K C_Condition "never" f) (hb : L2.Binds K fd [] []) : Sta P w K mg base 3 C_Condition "never" (FCon C_Condition ("never" : Str)) [] := by
  have nd := scNv.nd
  refine sta_fun Fu scNv M hb ?_ ?_ (fun cdv A outer s H E hG hr =>
    have hu : (cxOf (L2.CX P w) P w K mg base nNv qual (defScope sNv) f cdv A outer s H E).A.units + 64 < cLine := by have := hr.un; show (A.deeper _).units + 64 < _; omega
    have hv : (cxOf (L2.CX P w) P w K mg base nNv qual (defScope sNv) f cdv A outer s H E).A.units + 1 < cLine := by omega
    have tk := takes_of (X := cxOf (L2.CX P w) P w K mg base nNv qual (defScope sNv) f cdv A outer s H E) (E := E) rfl rfl rfl rfl
    have pw := passes_of (X := cxOf (L2.CX P w) P w K mg base nNv qual (defScope sNv) f cdv A outer s H E) rfl
    (ds_one (ds_ret (de_make cCo hG hr (by decide) (by rfl) tk (da_cons (de_lstD (da_cons de_str da_nil)) da_nil))))) ?_
  · exact FCon.mono
  · exact FCon.len
  · rintro ds μ Q E ⟨rfl, hb', z⟩
    have sz := sizeLine_eq
    exact ⟨by show 1 ≤ sizeLine; omega, _, _, [("never" : Str)], rfl, cond_get, rfl, cond_bd hb', rfl, _, _, cond_fz hb', _, _, .refl, z⟩
/-- the names of a condition's words, in order -/
inductive FNms (C_Condition : Addr) (ds : List D) (μ : Sto) (Q : QD) (E : XD) : Prop
  | mk (t : Tr) (a1 : ds = [cD C_Condition t.words]) (a2 : t.ok) (a3 : t.words.length < 1000) (a4 : (∃ ns : List Str, ns.length < 64 ∧ ∀ s ∈ t.nms, s ∈ ns)) (a5 : bdS μ.length μ = true) (a6 : ∀ ys : List Str, ys.Nodup → sortedS ys = true → (∀ y, y ∈ ys ↔ y ∈ t.nms) → Q (.lst (ys.map .str)) μ) : FNms C_Condition ds μ Q E
theorem FNms.mono {C_Condition : Addr} : MonF (FNms C_Condition) := fun ds μ Q Q' E E' h he q => match q with | .mk t a1 a2 a3 a4 a5 a6 => .mk t a1 a2 a3 a4 a5 (by intros; apply h; apply a6 <;> assumption)
theorem FNms.len {C_Condition : Addr} : ∀ ds μ Q E, FNms C_Condition ds μ Q E → ds.length = 1 := fun ds μ Q E q => by obtain ⟨_, e, _, _, _, _, _⟩ := q; rw [e]; rfl
inductive FHo (C_Condition : Addr) (ds : List D) (μ : Sto) (Q : QD) (E : XD) : Prop
  | mk (t : Tr) (e : D) (ns : List Str) (a1 : ds = [cD C_Condition t.words, e]) (a2 : t.ok) (a3 : t.words.length < 1000) (a4 : (∀ m, asS (μ ++ m) e = some (ns.map .str))) (a5 : bdS μ.length μ = true) (a6 : Q (.bl (t.hold fun s => decide (s ∈ ns))) μ) : FHo C_Condition ds μ Q E
theorem FHo.mono {C_Condition : Addr} : MonF (FHo C_Condition) := fun ds μ Q Q' E E' h he q => match q with | .mk t e ns a1 a2 a3 a4 a5 a6 => .mk t e ns a1 a2 a3 a4 a5 (h _ _ a6)
theorem FHo.len {C_Condition : Addr} : ∀ ds μ Q E, FHo C_Condition ds μ Q E → ds.length = 2 := fun ds μ Q E q => by obtain ⟨_, _, _, e, _, _, _, _, _⟩ := q; rw [e]; rfl
end
end Dl

namespace Dl
open PySem PySem.Spec L2
open PyProof.Rows hiding St Binds
section
variable {X : Cx} {W : WX} {o : Expr} {pos : Pos} {fo : FE} {C : Addr} {F : FD} {j k : Nat}
end
section
variable {X : Cx} {W : WX} {a : Expr} {ta : TE} {p p2 q pos : Pos} {f : FE}
end
/-! lists of texts among data -/
theorem ite_nt {p q : Prop} {b : Bool} (hb : b = true) (h : p) : if (!b) = true then q else p := by rw [hb]; exact h
theorem ok_bools {bs : List Bool} (h : bs.length ≤ 1000) : okR (.list (bs.map .bool)) :=
  okR_items (n := 1) (fun p hp => by obtain ⟨b, _, rfl⟩ := List.mem_map.mp hp; exact itm_bl b) (by rw [List.length_map]; omega)
theorem bdL_bools {n : Nat} (bs : List Bool) : bdL n (bs.map D.bl) = true := bdL_all.mpr fun d hd => by obtain ⟨b, _, rfl⟩ := List.mem_map.mp hd; rfl
end Dl

/-! try with several clauses that name the error -/
namespace Dl
open PySem PySem.Spec L2
open PyProof.Rows hiding St Binds
structure Cl1 where
  x : Str
  n : Str
  np : Pos
  p : Pos
  c : Value
  i : Nat
  b0 : Stmt
  bs : List Stmt
  ts : Addr → Value → Option Addr → TS
def Cl1.h (q : Cl1) : ExceptHandler := .ExceptHandler (some (.Name q.x q.np)) (some q.n) (q.b0 :: q.bs) q.p
structure Cl1.ok (X : Cx) (q : Cl1) : Prop where
  ix : X.N[q.i]? = some q.n
  lo : X.env.kindOf q.n = some .local
  nm : Names X q.x q.c
  su : ∀ (a : Addr) (oe : Obj) (cls : Value) (d : Option Addr) (pn : List (Addr × Obj)), Zc cls d oe → (∃ vs, oe.data = .fields vs) → PSs (X.suite a ((a, oe) :: pn)) (q.b0 :: q.bs) (q.ts a cls d)
section
variable {X : Cx} {Wout : WX} {body : List Stmt} {pos : Pos} {tb : WX → TS} {pins : List (Addr × Obj)} {De : Ends} {B : Heap} {sI s' : Shared} {h3 : Heap} {σ' : L2.St} {H' : Hp} {cls : Value} {d : Option Addr} {a : Addr}
end
end Dl

namespace Dl
open PySem PySem.Spec L2
open PyProof.Rows hiding St Binds
/-- except C as e (slot i): return (word, e.f, ..), or slot j = (word, e.f, ..) -/
structure Cd where
  x : Str
  n : Str
  np : Pos
  p : Pos
  C : Addr
  i : Nat
  word : Str
  fs : List Str
  to : Option Nat
  b0 : Stmt
  bs : List Stmt
def cdT (q : Cd) (a : Addr) (cls : Value) (d : Option Addr) : TE := tTup (tCons (tC (.str q.word)) (tXfs a cls d q.C q.i q.fs))
def Cd.cl (q : Cd) : Cl1 := ⟨q.x, q.n, q.np, q.p, .ref q.C, q.i, q.b0, q.bs, fun a cls d => match q.to with
  | none => tSeq (tRet (cdT q a cls d)) tNext
  | some j => tSeq (tAsg (cdT q a cls d) (gName j)) tNext⟩
section
variable {X : Cx} {Wout : WX} {body : List Stmt} {pos : Pos} {fb : FS}
end
end Dl

/-! lists of lists in the store -/
namespace Dl
open PySem PySem.Spec L2
open PyProof.Rows hiding St Binds
/-- new cells behind -/
theorem okRest.more {rest ν : Sto} (h : okRest rest) (b : bdS (rest.length + ν.length + 2) ν = true) : okRest (rest ++ ν) := by
  unfold okRest at h ⊢
  rw [bdS_app, List.length_append, b, Bool.and_true]
  exact bdS_mono (by omega) h
section
variable {g : FG} {ft : FT} {fe : FE} {ρ : Rho} {vs : List Nat} {Q : QD} {NE : Value → List (Str × D) → Rho → Sto → Prop}
end
end Dl

/-! repr of lists and tuples whose items hold cells themselves -/
namespace Dl
open PySem PySem.Spec L2
open PyProof.Rows hiding St Binds
section
variable {K : PySem.W.Frag} {ι : Io} {H : Hp} {μ : Sto}
end
end Dl

/-! == and != of data with texts of any signs -/
namespace Dl
open PySem PySem.Spec L2
open PyProof.Rows hiding St Binds
section
variable {X : Cx}
def eqPl : G2 := fun x y μ Q => ∃ p q, pyS μ x = some p ∧ pyS μ y = some q ∧ p.plain = true ∧ q.plain = true ∧ p.depth ≤ 60 ∧ Q (.bl (PyData.eqv p q)) μ
theorem opd_eqPl (hu : X.A.units + 64 < cLine) : OpD X (compareOp .Eq) eqPl :=
  ⟨fun x y μ Q Q' h ⟨p, q, e1, e2, c1, c2, d1, z⟩ => ⟨p, q, e1, e2, c1, c2, d1, h _ _ z⟩,
    fun x y H Q => ∃ p q, Dp X.K H x p ∧ Dp X.K H y q ∧ p.plain = true ∧ q.plain = true ∧ p.depth ≤ 60 ∧ Q (.bl (PyData.eqv p q)) H,
    fun pins s σ H x y v u Q I rx ry ⟨p, q, hp, hq, c1, c2, d1, z⟩ => by
      obtain ⟨as, r1⟩ := Dp.reads I p x v hp rx
      obtain ⟨bs, r2⟩ := Dp.reads I q y u hq ry
      exact SeqAt.eq_plain r1 r2 c1 c2 (by omega) ⟨.bl _, H, I, rfl, z⟩,
    fun ι H μ x y dx dy Q r a b ⟨p, q, e1, e2, c1, c2, d1, z⟩ => ⟨p, q, dpS_of r a e1, dpS_of r b e2, c1, c2, d1, z ι H _ (Gr.refl _ _) r (.bl _)⟩⟩
theorem plain_strs : ∀ ss : List Str, (PyData.list (ss.map PyData.str)).plain = true := fun ss => by
  have h : PyData.plainAll (ss.map PyData.str) = true := by
    induction ss with
    | nil => rfl
    | cons s ss ih => simp [PyData.plainAll, PyData.plain, ih]
  simpa [PyData.plain] using h
end
end Dl

/-! sorted(texts, key=str) -/
namespace Dl
open PySem PySem.Spec L2
open PyProof.Rows hiding St Binds
section
variable {X : Cx}
end
end Dl

/-! a walk over a dict that is a cell, with errors that leave it -/
namespace Dl
open PySem PySem.Spec L2
open PyProof.Rows hiding St Binds
section
variable {X : Cx} {W : WX} {tg iter : Expr} {sb : List Stmt} {its : List (Key × D) → List D} {tgf : FG} {fb : FS} {pos : Pos} {i : Nat}
end
end Dl

/-! d.pop(k, other), d a dict that is a cell -/
namespace Dl
open PySem PySem.Spec L2
open PyProof.Rows hiding St Binds
section
variable {X : Cx} {W : WX} {o a b : Expr} {fo fa fb : FE} {apos cpos : Pos}
end
end Dl

/-! o[k] = v of a class of one's own, whose __setitem__ may raise -/
namespace Dl
open PySem PySem.Spec L2
open PyProof.Rows hiding St Binds
section
variable {X : Cx} {W : WX} {o a e : Expr} {fo fa fv : FE} {pos pos' : Pos} {C : Addr} {F : FD} {j k : Nat}
end
end Dl

/-! two dicts compared, values without dicts -/
namespace Dl
open PySem PySem.Spec L2
open PyProof.Rows hiding St Binds
/-- a dict's values read as data -/
inductive DpK (K : PySem.W.Frag) (H : Hp) : List (Key × V) → List (Key × PyData) → Prop
  | nil : DpK K H [] []
  | cons {k : Key} {v : V} {p : PyData} {kv : List (Key × V)} {la : List (Key × PyData)} : Dp K H v p → DpK K H kv la → DpK K H ((k, v) :: kv) ((k, p) :: la)
def lookP (l : List (Key × PyData)) (k : Key) : Option PyData := (l.find? fun q => decide (q.1 = k)).map (·.2)
section
variable {K : PySem.W.Frag} {H : Hp}
theorem DpK.length : ∀ {kv : List (Key × V)} {la : List (Key × PyData)}, DpK K H kv la → kv.length = la.length
  | _, _, .nil => rfl
  | _, _, .cons _ h => congrArg (· + 1) h.length
theorem DpK.val {k : Key} : ∀ {kv : List (Key × V)} {la : List (Key × PyData)}, DpK K H kv la → (valV kv k = none ∧ lookP la k = none) ∨ ∃ v p, valV kv k = some v ∧ lookP la k = some p ∧ Dp K H v p ∧ (k, p) ∈ la
  | _, _, .nil => .inl ⟨rfl, rfl⟩
  | _, _, .cons (k := g) (v := v) (p := p) (kv := kv) (la := la) d h => by
    by_cases e : g = k
    · exact .inr ⟨v, p, by simp [valV, e], by simp [lookP, e], d, by rw [e]; exact List.mem_cons_self ..⟩
    · rcases h.val (k := k) with ⟨h1, h2⟩ | ⟨v', p', h1, h2, h3, h4⟩
      · exact .inl ⟨by simpa [valV, e] using h1, by simpa [lookP, e] using h2⟩
      · exact .inr ⟨v', p', by simpa [valV, e] using h1, by simpa [lookP, e] using h2, h3, List.mem_cons_of_mem _ h4⟩
end
section
variable {X : Cx} {pins : List (Addr × Obj)} {σ : L2.St} {H : Hp} {s : Shared} {A : Around}
end
end Dl

/-! sorted(texts, key=str), a list that may be changed -/
namespace Dl
open PySem PySem.Spec L2
open PyProof.Rows hiding St Binds
section
variable {X : Cx}
end
end Dl

/-! {k: v, ..} with written keys -/
namespace Dl
open PySem PySem.Spec L2
open PyProof.Rows hiding St Binds
/-- the pairs, from the left -/
def fPs : List (FE × FE) → Rho → Sto → (List (D × D) → Sto → Prop) → ED → Prop
  | [], _, μ, Q, _ => Q [] μ
  | (fk, fv) :: r, ρ, μ, Q, E => fk ρ μ (fun x m1 => fv ρ m1 (fun y m2 => fPs r ρ m2 (fun ps m3 => Q ((x, y) :: ps) m3) E) E) E
def fDisp (l : List (FE × FE)) : FE := fun ρ μ Q E => fPs l ρ (μ ++ [.dct []]) (fun ps m => m[μ.length]? = some (.dct []) ∧ ∃ kd : List (Key × D), ps = kd.map (fun q => (kOf q.1, q.2)) ∧ kd.length ≤ 15 ∧
  ∃ d2 μ2, Fz μ.length (.cell μ.length) (m.set μ.length (.dct (mergeKD [] kd))) d2 μ2 ∧ Q d2 μ2) E
inductive DPs (X : Cx) (W : WX) : List (Option Expr) → List Expr → List (FE × FE) → Prop
  | nil : DPs X W [] [] []
  | cons {k v : Expr} {ks : List (Option Expr)} {vs : List Expr} {fk fv : FE} {l : List (FE × FE)} (hk : DE X W k fk) (hv : DE X W v fv) (r : DPs X W ks vs l) : DPs X W (some k :: ks) (v :: vs) ((fk, fv) :: l)
section
variable {X : Cx} {W : WX} {ks : List (Option Expr)} {vs : List Expr} {l : List (FE × FE)} {pos : Pos}
theorem DPs.mono (h : DPs X W ks vs l) : ∀ ρ μ (Q Q' : List (D × D) → Sto → Prop) (E E' : ED), (∀ d m, Q d m → Q' d m) → (∀ c a m, E c a ρ m → E' c a ρ m) → fPs l ρ μ Q E → fPs l ρ μ Q' E' := by
  induction h with
  | nil => intro ρ μ Q Q' E E' h _ q; exact h _ _ q
  | cons hk hv r ih =>
    intro ρ μ Q Q' E E' h he q
    exact hk.mono ρ μ _ _ E E' (fun x m1 z => hv.mono ρ m1 _ _ E E' (fun y m2 z => ih ρ m2 _ _ E E' (fun ps m3 z => h _ _ z) he z) he z) he q
abbrev trsOf (K : PySem.W.Frag) (W : WX) (l : List (FE × FE)) : List (TE × TE) := l.map fun p => (rdE K W p.1, rdE K W p.2)
theorem DPs.pps (h : DPs X W ks vs l) : PPs X pos ks vs (trsOf X.K W l) := by
  induction h with
  | nil => exact pps_nil
  | cons hk hv r ih => exact pps_cons hk.run hv.run ih
def PA2 (K : PySem.W.Frag) (ι : Io) (H : Hp) (us : List (V × V)) (ps : List (D × D)) : Prop := Ats K ι H (us.map (·.1)) (ps.map (·.1)) ∧ Ats K ι H (us.map (·.2)) (ps.map (·.2))
theorem DPs.chain (h : DPs X W ks vs l) : ∀ {K : PySem.W.Frag} (hK : K = X.K) {ι : Io} {H : Hp} {σ : L2.St} {ρ : Rho} {μ : Sto} {R : List (V × V) → Hp → Prop} {Pq : List (D × D) → Sto → Prop}, Rep K ι μ H → Loc K ι H σ ρ → fPs l ρ μ Pq (EW K ι H W σ) →
    (∀ ps μ1 ι1 H1 us, Pq ps μ1 → Gr ι H ι1 H1 → Rep K ι1 μ1 H1 → Loc K ι1 H1 σ ρ → PA2 K ι1 H1 us ps → R us H1) → tPairs (trsOf K W l) σ H R := by
  induction h with
  | nil => intro K hK ι H σ ρ μ R Pq r lo q k; exact k [] μ ι H [] q (Gr.refl _ _) r lo ⟨Ats.nil, Ats.nil⟩
  | cons hk hv rr ih =>
    intro K hK ι H σ ρ μ R Pq r lo q k
    refine chain1 hk.mono r lo q fun x μ1 ι1 H1 u z g1 r1 l1 a1 => ?_
    refine chain1 hv.mono r1 l1 (hv.mono ρ μ1 _ _ _ _ (fun _ _ z => z) (fun _ _ _ z => EW.gr g1 z) z) fun y μ2 ι2 H2 w z g2 r2 l2 a2 => ?_
    refine ih hK r2 l2 (rr.mono ρ μ2 _ _ _ _ (fun _ _ z => z) (fun _ _ _ z => EW.gr (g1.trans g2) z) z) fun ps μ3 ι3 H3 us z g3 r3 l3 a3 => ?_
    exact k _ μ3 ι3 H3 _ z ((g1.trans g2).trans g3) r3 l3 ⟨Ats.cons ((a1.gr g2).gr g3) a3.1, Ats.cons (a2.gr g3) a3.2⟩
theorem kD_kOf (k : Key) : kD (kOf k) = some k := by cases k <;> rfl
theorem pa2_kd {K : PySem.W.Frag} {ι : Io} {H : Hp} : ∀ {kd : List (Key × D)} {us : List (V × V)}, PA2 K ι H us (kd.map fun q => (kOf q.1, q.2)) → ∃ kvs : List (Key × V), us = kvs.map (fun kv => (kV kv.1, kv.2)) ∧ Pts K ι H kvs kd
  | [], us, h => by
    have := h.1.1
    have e : us = [] := by simpa using this
    subst e
    exact ⟨[], rfl, Pts.nil⟩
  | q :: kd, us, h => by
    cases us with
    | nil => have := h.1.1; simp at this
    | cons u us =>
      obtain ⟨v1, vs1, e1, a1, r1⟩ := h.1.uncons
      obtain ⟨v2, vs2, e2, a2, r2⟩ := h.2.uncons
      simp only [List.map_cons, List.cons.injEq] at e1 e2
      obtain ⟨e1, e1'⟩ := e1
      obtain ⟨e2, e2'⟩ := e2
      subst e1 e1' e2 e2'
      obtain ⟨kvs, h1, h2⟩ := pa2_kd (kd := kd) (us := us) ⟨r1, r2⟩
      have hk := kD_at a1 (kD_kOf q.1)
      exact ⟨(q.1, u.2) :: kvs, by rw [List.map_cons, ← h1]; exact congrArg (· :: us) (by rw [← hk]), Pts.cons a2 h2⟩
theorem de_disp (h : DPs X W ks vs l) (hall : ks.all (·.isSome) = true := by rfl) (hl : ks.length = vs.length := by rfl) (h0 : ks ≠ [] := by exact fun e => nomatch e) (h15 : ks.length ≤ 15 := by decide) : DE X W (.Dict ks vs pos) (fDisp l) :=
  ⟨fun ρ μ Q Q' E E' hq he q => h.mono ρ _ _ _ E E' (fun ps m ⟨e1, kd, e2, e3, d2, μ2, fz, z⟩ => ⟨e1, kd, e2, e3, d2, μ2, fz, hq _ _ z⟩) he q,
   PE.imp (pe_disp h.pps hall hl h0 h15) fun σ H Q ⟨ι, ρ, μ, r, lo, q⟩ => fun p hp => by
    have n1 := r.free hp
    have g1 := Gr.cellNew (o := .dK []) hp n1
    have r1 := r.cellNew (o := .dK []) (c := .dct []) hp ⟨[], upd_same, Pts.nil⟩
    have at1 : (ι ++ [p])[μ.length]? = some p := by rw [List.getElem?_append_right (by rw [r.len]; exact Nat.le_refl _), r.len, Nat.sub_self]; rfl
    refine h.chain rfl r1 (lo.gr g1) (h.mono ρ _ _ _ _ _ (fun _ _ z => z) (fun _ _ _ z => EW.gr g1 z) q) fun ps μ1 ι1 H1 us z g2 r2 l2 a2 => ?_
    obtain ⟨e1, kd, rfl, l15, d2, μ2, fz, zz⟩ := z
    have at2 := g2.pre _ _ at1
    obtain ⟨kv0, hp1, p0⟩ := r2.at_ _ _ _ at2 e1
    cases nil_pts p0
    obtain ⟨kvs, rfl, pt⟩ := pa2_kd a2
    refine ⟨hp1, kvs, rfl, by rw [pt.length]; exact l15, ?_⟩
    have m1 := pt.merge Pts.nil
    have gc := Gr.chg (H := H1) (o := .dK (mergeK [] kvs)) (List.mem_of_getElem? at2)
    have r3 := r2.chg (c := .dct (mergeKD [] kd)) at2 ⟨_, upd_same, m1.gr gc⟩
    obtain ⟨ι', s1, s2, s3⟩ := fz.sound (ι0 := ι) (H0 := H) r.len r3 (.cell at2) ((g1.trans g2).trans gc)
    exact zz ι' _ _ s3 s1 s2⟩
end
end Dl

/-! a < b < c as a test -/
namespace Dl
open PySem PySem.Spec L2
open PyProof.Rows hiding St Binds
section
variable {X : Cx} {W : WX} {a b c : Expr} {fa fb fc : FE} {pos : Pos}
end
end Dl

/-! a, b, .. = a list -/
namespace Dl
open PySem PySem.Spec L2
open PyProof.Rows hiding St Binds
section
variable {X : Cx} {pos : Pos}
end
end Dl

/-! len(set(texts)) -/
namespace Dl
open PySem PySem.Spec L2
open PyProof.Rows hiding St Binds
section
variable {P : Program} {w : World} {A : Around} {E : Value → Shared → Prop} {s : Shared}
end
section
variable {X : Cx} {a : Expr} {ta : TE} {p p2 q pos : Pos} {W : WX} {f : FE}
end
end Dl

/-! xs[::-1]; del d[k] -/
namespace Dl
open PySem PySem.Spec L2
open PyProof.Rows hiding St Binds
section
variable {X : Cx} {W : WX} {e o i : Expr} {f fo fi : FE} {k : Nat} {p1 p2 p3 pos tpos : Pos}
end
end Dl

/-! xs != [], xs == [], whatever xs holds; [x] * n -/
namespace Dl
open PySem PySem.Spec L2
open PyProof.Rows hiding St Binds
section
variable {X : Cx}
end
end Dl

namespace Dl
open PySem PySem.Spec L2
open PyProof.Rows hiding St Binds
section
variable {X : Cx}
/-- i << j, small -/
def shlI : G2 := fun x y μ Q => ∃ i j : Nat, x = .int i ∧ y = .int j ∧ j ≤ 1000000 ∧ i < 2 ^ 64 ∧ Q (.int ((i * 2 ^ j : Nat) : Int)) μ
theorem opd_shl : OpD X (binaryOp .LShift) shlI := (opd_ii (gd := fun i j => .int (i * 2 ^ j.toNat)) op_shl fun _ _ _ _ _ => .int _).imp (fun x y μ Q Q' h ⟨i, j, e1, e2, c1, c2, q⟩ => ⟨i, j, e1, e2, c1, c2, h _ _ q⟩) fun x y μ Q ⟨i, j, e1, e2, c1, c2, q⟩ => ⟨(i : Int), (j : Int), e1, e2, ⟨by omega, by omega, by omega⟩, by
  have e : ((i : Int) * 2 ^ (j : Int).toNat) = ((i * 2 ^ j : Nat) : Int) := by rw [Int.toNat_natCast]; push_cast; rfl
  show Q (.int ((i : Int) * 2 ^ (j : Int).toNat)) μ
  rw [e]; exact q⟩
end
section
variable {X : Cx} {W : WX} {kx vx tg iter : Expr} {ifs : List Expr} {scope : Scope} {own : List (Str × Nat)} {pos : Pos} {fi : FI} {tgf : FG} {ft : FT} {fk fv : FE} {vs : List Nat} {i : Nat} {its : List (Key × D) → List D}
/-- y = {k: v for .. in a dict cell} on one line, y a local -/
theorem ds_setDcC {iy : Nat} {y : Str} {py spos : Pos} (hc : X.calm = true) (hN : X.N.Nodup) (hy : X.N[iy]? = some y) (hyl : X.env.scope.names.lookup y = some .local) (hsw : swapsWith (.DictComp kx vx [⟨tg, iter, ifs, 0⟩] scope pos) (some (.Name y py)) spos.line X.env = pure true)
    (wc : WC X tg iter i its) (ok : BlkOk X.N X.env.scope scope own)
    (hg : ∀ (s : Shared) (H : Hp) (C : Addr) (cl : List (Str × Addr)) (fp : List Addr), DGw (X.blk s H scope (compEnvC scope cl C X.env) fp) tg (own.map (·.2)) tgf)
    (ht : ∀ (s : Shared) (H : Hp) (C : Addr) (cl : List (Str × Addr)) (fp : List Addr), DTs (X.blk s H scope (compEnvC scope cl C X.env) fp) ifs ft)
    (hk : ∀ (s : Shared) (H : Hp) (C : Addr) (cl : List (Str × Addr)) (fp : List Addr), DE (X.blk s H scope (compEnvC scope cl C X.env) fp) NW kx fk)
    (he : ∀ (s : Shared) (H : Hp) (C : Addr) (cl : List (Str × Addr)) (fp : List Addr), DE (X.blk s H scope (compEnvC scope cl C X.env) fp) NW vx fv)
    (hs : ∀ x, foldedSetIterable iter X.env x = pure x := by intro _; rfl) : DS X W (.Assign [.Name y py] (.DictComp kx vx [⟨tg, iter, ifs, 0⟩] scope pos) spos) (sAsg (fDcC i its tgf ft fk fv (own.map (·.2))) (tgName iy)) := by
  obtain ⟨wi, J, hi, hw, wk⟩ := wc.run
  have base := ps_setDc (g := rdG X.K (own.map (·.2)) tgf) (tt := rdT X.K NW ft) (tk := rdE X.K NW fk) (tv := rdE X.K NW fv) hc hN hy hyl hsw hi ok (fun s H C cl fp => (hg s H C cl fp).run) (fun s H C cl fp => (ht s H C cl fp).run) (fun s H C cl fp => (hk s H C cl fp).run) (fun s H C cl fp => (he s H C cl fp).run) hs
  refine ⟨mAsg mDcC (fun d ρ μ N N' h q => h _ _ q), PS.imp (ps_lock base) fun De σ H ⟨ι, ρ, μ, r, l, n, kd, e1, e2, z⟩ => ?_⟩
  obtain ⟨v, ev, av⟩ := l.2 i _ e1
  obtain ⟨a, rfl, hn⟩ := cell_at av
  obtain ⟨kv, h1, h2⟩ := r.at_ n a _ hn e2
  have m : a ∈ ι := List.mem_of_getElem? hn
  refine ⟨a, .dK kv, h1, trivial, fun od => hw σ H a od kv _ ev ?_⟩
  have gc := Gr.chg (H := H) (o := .frz od (.dK kv)) m
  refine dc_core2 (Q := fun x H1 => gName iy x σ H1 fun σ' H' => H' a = some (.frz od (.dK kv)) ∧ De.nx σ' (upd H' a (.dK kv))) (hg X.s_0 X.H_0 0 [] []).mono (ht X.s_0 X.H_0 0 [] []).mono (hk X.s_0 X.H_0 0 [] []).mono (he X.s_0 X.H_0 0 [] []).mono (r.chg (c := .lck od kv kd) hn ⟨upd_same, h2.gr gc⟩) (l.gr gc) (wk hn) (fun d μ' q => ?_) (z od kv)
  intro ι' H' v' g' r' a'
  have hn' := g'.pre n a hn
  obtain ⟨e3, p3⟩ := r'.at_ n a _ hn' q.1
  have gc' := Gr.chg (H := H') (o := .dK kv) (List.mem_of_getElem? hn')
  exact ⟨e3, q.2 ι' _ _ (g'.unlockC m) (r'.chg (c := .dct kd) hn' ⟨kv, upd_same, p3.gr gc'⟩) ((l.gr (g'.unlockC m)).set (a'.gr gc') iy)⟩
end
end Dl

namespace Dl
open PySem PySem.Spec L2
open PyProof.Rows hiding St Binds
/-! columns of a truth table, as whole numbers -/
def colS (s : Nat) (n : Str) (f : Str → Nat) : Str → Nat := fun w => if w = n then f alw * 2 ^ s else f w ||| f w * 2 ^ s
def colA (a : Nat × (Str → Nat)) (n : Str) : Nat × (Str → Nat) := (a.1 + 1, colS (2 ^ a.1) n a.2)
def colF (ns : List Str) : Str → Nat := (ns.foldl colA (0, fun w => if w = alw then 1 else 0)).2
theorem colA_len : ∀ (ns : List Str) (a : Nat × (Str → Nat)), (ns.foldl colA a).1 = a.1 + ns.length
  | [], _ => rfl
  | n :: ns, a => by
    rw [List.foldl_cons, colA_len ns]
    show a.1 + 1 + ns.length = a.1 + (ns.length + 1)
    omega
theorem colF_snoc (ns : List Str) (n : Str) : colF (ns ++ [n]) = colS (2 ^ ns.length) n (colF ns) := by
  unfold colF
  rw [List.foldl_append]
  show colS (2 ^ (ns.foldl colA _).1) n _ = _
  rw [colA_len, Nat.zero_add]
/-- where a name stands -/
def posN : List Str → Str → Nat
  | [], _ => 0
  | n :: ns, w => if w = n then 0 else posN ns w + 1
theorem posN_lt : ∀ {ns : List Str} {w : Str}, w ∈ ns → posN ns w < ns.length
  | n :: ns, w, h => by
    unfold posN
    by_cases e : w = n
    · rw [if_pos e]; simp
    · rw [if_neg e]
      have := posN_lt (ns := ns) (w := w) (by rcases List.mem_cons.mp h with h | h; exact absurd h e; exact h)
      simp only [List.length_cons]; omega
theorem posN_app : ∀ {ns : List Str} {w : Str} (ms : List Str), w ∈ ns → posN (ns ++ ms) w = posN ns w
  | n :: ns, w, ms, h => by
    show posN (n :: (ns ++ ms)) w = _
    unfold posN
    by_cases e : w = n
    · rw [if_pos e, if_pos e]
    · rw [if_neg e, if_neg e, posN_app ms (by rcases List.mem_cons.mp h with h | h; exact absurd h e; exact h)]
theorem posN_end : ∀ {ns : List Str} {w : Str}, w ∉ ns → posN (ns ++ [w]) w = ns.length
  | [], w, _ => by show (if w = w then 0 else _) = _; rw [if_pos rfl]; rfl
  | n :: ns, w, h => by
    show (if w = n then 0 else posN (ns ++ [w]) w + 1) = _
    rw [if_neg (fun e => h (by rw [e]; simp)), posN_end (fun m => h (List.mem_cons_of_mem _ m))]; rfl
def envB (ns : List Str) (b : Nat) (w : Str) : Bool := if w = alw then true else if w = nev then false else b.testBit (posN ns w)
structure ColOk (ns : List Str) (f : Str → Nat) : Prop where
  lt : ∀ w, w = alw ∨ w = nev ∨ w ∈ ns → f w < 2 ^ 2 ^ ns.length
  bit : ∀ w, w = alw ∨ w = nev ∨ w ∈ ns → ∀ b, b < 2 ^ ns.length → (f w).testBit b = envB ns b w
theorem an_ne : alw ≠ nev := by decide +kernel
theorem colOk : ∀ (k : Nat) {ns : List Str}, ns.length = k → ns.Nodup → alw ∉ ns → nev ∉ ns → ColOk ns (colF ns)
  | 0, ns, hk, _, _, _ => by
    cases List.eq_nil_of_length_eq_zero hk
    refine ⟨fun w hw => ?_, fun w hw b hb => ?_⟩
    · show (if w = alw then 1 else 0) < 2
      split <;> omega
    · have : b = 0 := by simp at hb; exact hb
      subst this
      show (if w = alw then 1 else 0 : Nat).testBit 0 = _
      unfold envB
      rcases hw with rfl | rfl | h
      · rw [if_pos rfl, if_pos rfl]; rfl
      · rw [if_neg (Ne.symm an_ne), if_neg (Ne.symm an_ne), if_pos rfl]; rfl
      · cases h
  | k + 1, ns, hk, nd, h1, h2 => by
    obtain ⟨ms, n, rfl⟩ : ∃ ms n, ns = ms ++ [n] := by
      rcases List.eq_nil_or_concat ns with h | ⟨ms, n, h⟩
      · rw [h] at hk; cases hk
      · exact ⟨ms, n, by rw [h, List.concat_eq_append]⟩
    have lk : ms.length = k := by rw [List.length_append] at hk; simpa using hk
    have nd' := List.nodup_append.mp nd
    have nn : n ∉ ms := fun m => nd'.2.2 n m n (by simp) rfl
    have ih := colOk k lk nd'.1 (fun m => h1 (by simp [m])) (fun m => h2 (by simp [m]))
    have na : n ≠ alw := fun e => h1 (by simp [e])
    have nv : n ≠ nev := fun e => h2 (by simp [e])
    rw [colF_snoc]
    have ll : (ms ++ [n]).length = ms.length + 1 := by simp
    have p2 : 2 ^ (ms.length + 1) = 2 ^ ms.length + 2 ^ ms.length := by rw [Nat.pow_succ]; omega
    have p0 : 0 < 2 ^ ms.length := Nat.two_pow_pos _
    have mul_lt : ∀ v, v < 2 ^ 2 ^ ms.length → v * 2 ^ 2 ^ ms.length < 2 ^ 2 ^ (ms.length + 1) := fun v hv => by
      rw [p2, Nat.pow_add]
      exact Nat.mul_lt_mul_of_pos_right hv (Nat.two_pow_pos _)
    have up : ∀ v, v < 2 ^ 2 ^ ms.length → v < 2 ^ 2 ^ (ms.length + 1) := fun v hv => Nat.lt_of_lt_of_le hv (Nat.pow_le_pow_right (by omega) (by omega))
    have al := ih.lt alw (.inl rfl)
    have dom : ∀ w, w ≠ n → (w = alw ∨ w = nev ∨ w ∈ ms ++ [n]) → (w = alw ∨ w = nev ∨ w ∈ ms) := fun w ne h => by
      rcases h with h | h | h
      · exact .inl h
      · exact .inr (.inl h)
      · rcases List.mem_append.mp h with h | h
        · exact .inr (.inr h)
        · exact absurd (List.mem_singleton.mp h) ne
    refine ⟨fun w hw => ?_, fun w hw b hb => ?_⟩
    · rw [ll]
      unfold colS
      by_cases e : w = n
      · rw [if_pos e]; exact mul_lt _ al
      · rw [if_neg e]
        exact Nat.or_lt_two_pow (up _ (ih.lt w (dom w e hw))) (mul_lt _ (ih.lt w (dom w e hw)))
    · rw [ll] at hb
      unfold colS
      by_cases hs : b < 2 ^ ms.length
      · by_cases e : w = n
        · rw [if_pos e, Nat.testBit_mul_two_pow]
          subst e
          unfold envB
          rw [if_neg na, if_neg nv, posN_end nn, Nat.testBit_lt_two_pow hs, decide_eq_false (by omega)]
          rfl
        · rw [if_neg e, Nat.testBit_or, Nat.testBit_mul_two_pow, decide_eq_false (by omega), Bool.false_and, Bool.or_false, ih.bit w (dom w e hw) b hs]
          unfold envB
          rcases dom w e hw with h | h | h
          · rw [if_pos h, if_pos h]
          · have : w ≠ alw := fun z => an_ne (z.symm.trans h)
            rw [if_neg this, if_neg this, if_pos h, if_pos h]
          · rw [posN_app [n] h]
      · obtain ⟨c, rfl⟩ : ∃ c, b = 2 ^ ms.length + c := ⟨b - 2 ^ ms.length, by omega⟩
        have hc : c < 2 ^ ms.length := by omega
        have e1 : 2 ^ ms.length + c - 2 ^ ms.length = c := by omega
        by_cases e : w = n
        · rw [if_pos e, Nat.testBit_mul_two_pow, decide_eq_true (by omega), Bool.true_and, e1, ih.bit alw (.inl rfl) c hc]
          subst e
          unfold envB
          rw [if_pos rfl, if_neg na, if_neg nv, posN_end nn, Nat.testBit_two_pow_add_eq, Nat.testBit_lt_two_pow hc]; rfl
        · have hw' := dom w e hw
          rw [if_neg e, Nat.testBit_or, Nat.testBit_mul_two_pow, decide_eq_true (by omega), Bool.true_and, e1, ih.bit w hw' c hc, Nat.testBit_lt_two_pow (Nat.lt_of_lt_of_le (ih.lt w hw') (Nat.pow_le_pow_right (by omega) (by omega))), Bool.false_or]
          unfold envB
          rcases hw' with h | h | h
          · rw [if_pos h, if_pos h]
          · have : w ≠ alw := fun z => an_ne (z.symm.trans h)
            rw [if_neg this, if_neg this, if_pos h, if_pos h]
          · rw [posN_app [n] h, Nat.testBit_two_pow_add_gt (posN_lt h)]
/-- every choice is some set -/
theorem set_of : ∀ (k : Nat) {ns : List Str} (g : Str → Bool), ns.length = k → ns.Nodup → ∃ b, b < 2 ^ ns.length ∧ ∀ w ∈ ns, b.testBit (posN ns w) = g w
  | 0, ns, g, hk, _ => by
    cases List.eq_nil_of_length_eq_zero hk
    exact ⟨0, by simp, fun w h => absurd h (by simp)⟩
  | k + 1, ns, g, hk, nd => by
    obtain ⟨ms, n, rfl⟩ : ∃ ms n, ns = ms ++ [n] := by
      rcases List.eq_nil_or_concat ns with h | ⟨ms, n, h⟩
      · rw [h] at hk; cases hk
      · exact ⟨ms, n, by rw [h, List.concat_eq_append]⟩
    have lk : ms.length = k := by rw [List.length_append] at hk; simpa using hk
    have nd' := List.nodup_append.mp nd
    have nn : n ∉ ms := fun m => nd'.2.2 n m n (by simp) rfl
    obtain ⟨c, hc, hg⟩ := set_of k g lk nd'.1
    have p2 : 2 ^ (ms.length + 1) = 2 ^ ms.length + 2 ^ ms.length := by rw [Nat.pow_succ]; omega
    have ll : (ms ++ [n]).length = ms.length + 1 := by simp
    refine ⟨if g n then 2 ^ ms.length + c else c, ?_, fun w hw => ?_⟩
    · rw [ll]; split <;> omega
    · rcases List.mem_append.mp hw with h | h
      · rw [posN_app [n] h]
        split
        · rw [Nat.testBit_two_pow_add_gt (posN_lt h)]; exact hg w h
        · exact hg w h
      · cases List.mem_singleton.mp h
        rw [posN_end nn]
        cases e : g n
        · rw [if_neg (by simp)]; exact Nat.testBit_lt_two_pow hc
        · rw [if_pos rfl, Nat.testBit_two_pow_add_eq, Nat.testBit_lt_two_pow hc]; rfl
theorem Tr.val_bits {ns : List Str} {f : Str → Nat} (c : ColOk ns f) (h1 : alw ∉ ns) (h2 : nev ∉ ns) : ∀ {t : Tr}, (∀ s ∈ t.nms, s ∈ ns) → t.val f < 2 ^ 2 ^ ns.length ∧ ∀ b, b < 2 ^ ns.length → (t.val f).testBit b = t.hold (fun s => b.testBit (posN ns s))
  | .is s, h => by
    have m := h s (by simp [Tr.nms])
    refine ⟨c.lt s (.inr (.inr m)), fun b hb => ?_⟩
    show (f s).testBit b = _
    rw [c.bit s (.inr (.inr m)) b hb]
    unfold envB
    rw [if_neg (fun e : s = alw => h1 (e ▸ m)), if_neg (fun e : s = nev => h2 (e ▸ m))]; rfl
  | .al, _ => by
    refine ⟨c.lt alw (.inl rfl), fun b hb => ?_⟩
    show (f alw).testBit b = true
    rw [c.bit alw (.inl rfl) b hb]; unfold envB; rw [if_pos rfl]
  | .nv, _ => by
    refine ⟨c.lt nev (.inr (.inl rfl)), fun b hb => ?_⟩
    show (f nev).testBit b = false
    rw [c.bit nev (.inr (.inl rfl)) b hb]; unfold envB; rw [if_neg (Ne.symm an_ne), if_pos rfl]
  | .no t, h => by
    obtain ⟨i1, i2⟩ := Tr.val_bits c h1 h2 (t := t) h
    refine ⟨Nat.xor_lt_two_pow (c.lt alw (.inl rfl)) i1, fun b hb => ?_⟩
    show (f alw ^^^ t.val f).testBit b = !_
    rw [Nat.testBit_xor, c.bit alw (.inl rfl) b hb, i2 b hb]
    unfold envB; rw [if_pos rfl, Bool.true_xor]
  | .an x y, h => by
    obtain ⟨i1, i2⟩ := Tr.val_bits c h1 h2 (t := x) fun s m => h s (List.mem_append_left _ m)
    obtain ⟨j1, j2⟩ := Tr.val_bits c h1 h2 (t := y) fun s m => h s (List.mem_append_right _ m)
    refine ⟨Nat.and_lt_two_pow _ i1, fun b hb => ?_⟩
    show (y.val f &&& x.val f).testBit b = (_ && _)
    rw [Nat.testBit_and, i2 b hb, j2 b hb, Bool.and_comm]
  | .or x y, h => by
    obtain ⟨i1, i2⟩ := Tr.val_bits c h1 h2 (t := x) fun s m => h s (List.mem_append_left _ m)
    obtain ⟨j1, j2⟩ := Tr.val_bits c h1 h2 (t := y) fun s m => h s (List.mem_append_right _ m)
    refine ⟨Nat.or_lt_two_pow j1 i1, fun b hb => ?_⟩
    show (y.val f ||| x.val f).testBit b = (_ || _)
    rw [Nat.testBit_or, i2 b hb, j2 b hb, Bool.or_comm]
section
variable {ns : List Str} {t u : Tr}
/-- what holds for each set holds for each choice -/
theorem hold_all (nd : ns.Nodup) (ht : ∀ s ∈ t.nms, s ∈ ns) (hu : ∀ s ∈ u.nms, s ∈ ns) {R : Bool → Bool → Prop} (h : ∀ b, b < 2 ^ ns.length → R (t.hold fun s => b.testBit (posN ns s)) (u.hold fun s => b.testBit (posN ns s))) (g : Str → Bool) : R (t.hold g) (u.hold g) := by
  obtain ⟨b, hb, e⟩ := set_of ns.length g rfl nd
  have := h b hb
  rwa [Tr.hold_congr (S := fun s => b.testBit (posN ns s)) (S' := g) (t := t) fun s m => e s (ht s m), Tr.hold_congr (S := fun s => b.testBit (posN ns s)) (S' := g) (t := u) fun s m => e s (hu s m)] at this
theorem val_eq (nd : ns.Nodup) (h1 : alw ∉ ns) (h2 : nev ∉ ns) (ht : ∀ s ∈ t.nms, s ∈ ns) (hu : ∀ s ∈ u.nms, s ∈ ns) : (t.val (colF ns) = u.val (colF ns)) ↔ ∀ g : Str → Bool, t.hold g = u.hold g := by
  have c := colOk ns.length (ns := ns) rfl nd h1 h2
  obtain ⟨t1, t2⟩ := Tr.val_bits c h1 h2 ht
  obtain ⟨u1, u2⟩ := Tr.val_bits c h1 h2 hu
  refine ⟨fun e g => hold_all nd ht hu (R := fun a b => a = b) (fun b hb => ?_) g, fun h => Nat.eq_of_testBit_eq fun b => ?_⟩
  · rw [← t2 b hb, ← u2 b hb, e]
  · by_cases hb : b < 2 ^ ns.length
    · rw [t2 b hb, u2 b hb, h]
    · have p : 2 ^ 2 ^ ns.length ≤ 2 ^ b := Nat.pow_le_pow_right (by omega) (by omega)
      rw [Nat.testBit_lt_two_pow (Nat.lt_of_lt_of_le t1 p), Nat.testBit_lt_two_pow (Nat.lt_of_lt_of_le u1 p)]
theorem val_le (nd : ns.Nodup) (h1 : alw ∉ ns) (h2 : nev ∉ ns) (ht : ∀ s ∈ t.nms, s ∈ ns) (hu : ∀ s ∈ u.nms, s ∈ ns) : (t.val (colF ns) &&& u.val (colF ns) = t.val (colF ns)) ↔ ∀ g : Str → Bool, t.hold g = true → u.hold g = true := by
  have c := colOk ns.length (ns := ns) rfl nd h1 h2
  obtain ⟨t1, t2⟩ := Tr.val_bits c h1 h2 ht
  obtain ⟨u1, u2⟩ := Tr.val_bits c h1 h2 hu
  refine ⟨fun e g => hold_all nd ht hu (R := fun a b => a = true → b = true) (fun b hb => ?_) g, fun h => Nat.eq_of_testBit_eq fun b => ?_⟩
  · rw [← t2 b hb, ← u2 b hb]
    intro z
    have e2 := congrArg (fun n : Nat => n.testBit b) e
    have e3 : (t.val (colF ns) &&& u.val (colF ns)).testBit b = (t.val (colF ns)).testBit b := e2
    rw [Nat.testBit_and, z, Bool.true_and] at e3
    exact e3
  · rw [Nat.testBit_and]
    by_cases hb : b < 2 ^ ns.length
    · rw [t2 b hb, u2 b hb]
      have := h fun s => b.testBit (posN ns s)
      cases q : t.hold fun s => b.testBit (posN ns s)
      · rfl
      · rw [this q]; rfl
    · have p : 2 ^ 2 ^ ns.length ≤ 2 ^ b := Nat.pow_le_pow_right (by omega) (by omega)
      rw [Nat.testBit_lt_two_pow (Nat.lt_of_lt_of_le t1 p)]; rfl
end
/-! the table as a dict -/
def kdOf (f : Str → Nat) (ws : List Str) : List (Key × D) := ws.map fun w => (.inr w, .int (f w : Nat))
theorem valD_kdOf {f : Str → Nat} : ∀ {ws : List Str} {w : Str}, w ∈ ws → valD (kdOf f ws) (.inr w) = some (.int (f w : Nat))
  | v :: ws, w, h => by
    unfold valD kdOf
    rw [List.map_cons, List.find?_cons]
    by_cases e : v = w
    · rw [decide_eq_true (by rw [e])]
      subst e; rfl
    · rw [decide_eq_false (fun z => e (Sum.inr.inj z))]
      exact valD_kdOf (ws := ws) (by rcases List.mem_cons.mp h with h | h; exact absurd h.symm e; exact h)
theorem put_kdOf {f : Str → Nat} {ws : List Str} {n : Str} (h : n ∉ ws) (v : Nat) : putKD (kdOf f ws) (.inr n) (.int (v : Nat)) = kdOf f ws ++ [(.inr n, .int (v : Nat))] := by
  unfold putKD
  rw [if_neg]
  intro z
  obtain ⟨q, hq, e⟩ := List.any_eq_true.mp z
  obtain ⟨w, hw, rfl⟩ := List.mem_map.mp hq
  exact h (Sum.inr.inj (of_decide_eq_true e) ▸ hw)
theorem putAll_kdOf {f : Str → Nat} : ∀ {ws vs : List Str}, (vs ++ ws).Nodup → putAll (kdOf f vs) (kdOf f ws) = kdOf f (vs ++ ws)
  | [], vs, _ => by rw [List.append_nil]; rfl
  | w :: ws, vs, nd => by
    show putAll (putKD (kdOf f vs) (.inr w) (.int (f w : Nat))) (kdOf f ws) = _
    have nn : w ∉ vs := fun m => (List.nodup_append.mp nd).2.2 w m w (by simp) rfl
    rw [put_kdOf nn]
    have : kdOf f vs ++ [(.inr w, .int (f w : Nat))] = kdOf f (vs ++ [w]) := by unfold kdOf; rw [List.map_append]; rfl
    rw [this, putAll_kdOf (by rw [List.append_assoc]; exact nd), List.append_assoc]; rfl
theorem kdOf_congr {f g : Str → Nat} {ws : List Str} (h : ∀ w ∈ ws, f w = g w) : kdOf f ws = kdOf g ws := List.map_congr_left fun w m => by rw [h w m]
end Dl

namespace Dl
open PySem PySem.Spec L2
open PyProof.Rows hiding St Binds
section
theorem py_app_asD {μ : Sto} {xs : List (Key × D)} : asD (μ ++ [.dct xs]) (.cell μ.length) = some xs := by simp [asD]
variable {P : Program} {w : World} {K : PySem.W.Frag} {mg : Str → Option Value} {base : Heap} {C_Condition C_BadName : Addr}

abbrev sTc : Stmt := top 14
abbrev nTc : List Str := ["names", "worths", "sets", "name", "full", "word", "bits"]
theorem scTc : FnScope nTc ["names"] (defScope sTc) := ⟨rfl, rfl, rfl, by decide +kernel, rfl, by decide +kernel, by decide +kernel⟩
def pTc (s : Nat) : D → Option (Key × D)
  | .tup [.str w, .int v] => some (.inr w, .int ((v.toNat ||| v.toNat * 2 ^ s : Nat)))
  | _ => none
theorem pTc_map (s : Nat) (f : Str → Nat) : ∀ ws : List Str, ((kdOf f ws).map fun q => D.tup [kOf q.1, q.2]).filterMap (pTc s) = kdOf (fun w => f w ||| f w * 2 ^ s) ws
  | [] => rfl
  | w :: ws => by
    have ih := pTc_map s f ws
    unfold kdOf at ih ⊢
    rw [List.map_cons, List.map_cons, List.filterMap_cons, ih]
    rfl
theorem kdOf_snoc (f : Str → Nat) (ws : List Str) (n : Str) : kdOf f (ws ++ [n]) = kdOf f ws ++ [(.inr n, .int (f n : Nat))] := by unfold kdOf; rw [List.map_append]; rfl
theorem kdOf_bd (f : Str → Nat) (ws : List Str) (n : Nat) : bdK n (kdOf f ws) = true := bdK_of fun p hp => by obtain ⟨w, _, rfl⟩ := List.mem_map.mp hp; rfl
/-- the columns of a truth table over names -/
inductive FTc (ds : List D) (μ : Sto) (Q : QD) (E : XD) : Prop
  | mk (ns : List Str) (a1 : ds = [.lst (ns.map .str)]) (a2 : ns.Nodup) (a3 : ns.length ≤ 7) (a4 : alw ∉ ns) (a5 : nev ∉ ns) (a6 : bdS μ.length μ = true) (a7 : Q (.dct (kdOf (colF ns) ([alw, nev] ++ ns))) μ) : FTc ds μ Q E
theorem FTc.mono  : MonF (FTc) := fun ds μ Q Q' E E' h he q => match q with | .mk ns a1 a2 a3 a4 a5 a6 a7 => .mk ns a1 a2 a3 a4 a5 a6 (h _ _ a7)
theorem FTc.len  : ∀ ds μ Q E, FTc ds μ Q E → ds.length = 1 := fun ds μ Q E q => by obtain ⟨_, e, _, _, _, _, _, _⟩ := q; rw [e]; rfl
theorem cal_tc {f : Addr} {fd : FuncData} {qual : Str} (T : NoB mg) (Fu : Fun K "truth_columns" qual sTc f fd) (hm : mg "truth_columns" = some (.ref f)) (hk : PySem.W.keepIn K (.ref f) = true) (hb : L2.Binds K fd ["names"] []) : Cal P w K mg base 1 "truth_columns" FTc [] := by
  have nd := scTc.nd
  refine cal_fun Fu scTc hm hk hb ?_ ?_ (fun cdv A outer s H E hG hr =>
    have hu : (cxOf (L2.CX P w) P w K mg base nTc qual (defScope sTc) f cdv A outer s H E).A.units + 64 < cLine := by have := hr.un; show (A.deeper _).units + 64 < _; omega
    have hv : (cxOf (L2.CX P w) P w K mg base nTc qual (defScope sTc) f cdv A outer s H E).A.units + 1 < cLine := by omega
    have tk := takes_of (X := cxOf (L2.CX P w) P w K mg base nTc qual (defScope sTc) f cdv A outer s H E) (E := E) rfl rfl rfl rfl
    have pw := passes_of (X := cxOf (L2.CX P w) P w K mg base nTc qual (defScope sTc) f cdv A outer s H E) rfl
    (ds_cons (ds_set (i := 1) nd rfl (by first | exact .inl rfl | exact .inr rfl) (de_disp (DPs.cons de_str de_int (DPs.cons de_str de_int DPs.nil))))
      (ds_cons (ds_set (i := 2) nd rfl (by first | exact .inl rfl | exact .inr rfl) de_int)
      (ds_cons (ds_for pw rfl (di_seq (de_var 0 rfl)) (dg_name (i := 3) nd rfl (by first | exact .inl rfl | exact .inr rfl)) (ds_cons (ds_set (i := 4) nd rfl (by first | exact .inl rfl | exact .inr rfl) (de_dget hv (de_var 1 rfl) de_str (fun _ _ => rfl)))
      (ds_cons (ds_setDcC (iy := 1) (own := [("word", 5), ("bits", 6)]) rfl nd rfl rfl rfl (wc_items 1) (blkOk_by (N := nTc) (sc := defScope sTc) (by decide +kernel)) (fun _ _ _ _ _ => (dgw_tup (n := 2) rfl (dgsw_cons (dgw_name (i := 5) nd rfl (Or.inl rfl) (by decide)) (dgsw_cons (dgw_name (i := 6) nd rfl (Or.inl rfl) (by decide)) dgsw_nil)))) (fun _ _ _ _ _ => dts_nil) (fun _ _ _ _ _ => (de_var 5 rfl)) (fun _ _ _ _ _ => (de_op opd_bor (de_var 6 rfl) (de_op opd_shl (de_var 6 rfl) (de_var 2 rfl)))))
      (ds_cons (ds_dput hv (de_var 1 rfl) (de_var 3 rfl) (de_op opd_shl (de_var 4 rfl) (de_var 2 rfl)))
      (ds_one (ds_set (i := 2) nd rfl (by first | exact .inl rfl | exact .inr rfl) (de_op opd_mulI (de_var 2 rfl) de_int)))))))
      (ds_one (ds_ret (de_var 1 rfl))))))) ?_
  · exact FTc.mono
  · exact FTc.len
  · rintro ds μ Q E ⟨ns, rfl, nd0, hl, h1, h2, hb', z⟩
    have sz := sizeLine_eq
    refine ⟨py_app_get, [(.inr alw, .int 1), (.inr nev, .int 0)], rfl, by decide, _, _, .refl, ?_⟩
    rw [py_app_set]
    refine ⟨_, rfl, ns.map .str, rfl, fun i ρ' μ' => ∃ (v3 v4 : Option D) (ν : Sto), ρ' = [some (.lst (ns.map .str)), some (.cell ν.length), some (.int ((2 ^ i : Nat) : Int)), v3, v4, none, none] ∧ (∃ js, ν = μ ++ js) ∧ bdS ν.length ν = true ∧ μ' = ν ++ [.dct (kdOf (colF (ns.take i)) ([alw, nev] ++ ns.take i))], ⟨_, _, μ, rfl, ⟨[], (List.append_nil _).symm⟩, hb', rfl⟩, fun _ _ _ _ => rfl, ?_, ?_⟩
    · rintro i x ρ' μ' hx ⟨v3, v4, ν, rfl, ⟨js, hν⟩, hbν, rfl⟩
      rw [List.getElem?_map] at hx
      obtain ⟨n, hn, rfl⟩ := Option.map_eq_some_iff.mp hx
      have hi : i < ns.length := (List.getElem?_eq_some_iff.mp hn).1
      have ht : ns.take (i + 1) = ns.take i ++ [n] := by rw [List.take_add_one, hn]; rfl
      have lt : (ns.take i).length = i := by rw [List.length_take]; omega
      have ndt : (ns.take (i + 1)).Nodup := nd0.sublist (List.take_sublist _ _)
      have nni : n ∉ ns.take i := fun m => by rw [ht] at ndt; exact (List.nodup_append.mp ndt).2.2 n m n (by simp) rfl
      have mem : n ∈ ns := List.mem_of_getElem? hn
      have c := colOk (ns.take i).length (ns := ns.take i) rfl (nd0.sublist (List.take_sublist _ _)) (fun m => h1 (List.mem_of_mem_take m)) (fun m => h2 (List.mem_of_mem_take m))
      have small : ∀ w, w = alw ∨ w = nev ∨ w ∈ ns.take i → colF (ns.take i) w < 2 ^ 64 := fun w m => Nat.lt_of_lt_of_le (c.lt w m) (by rw [lt]; exact Nat.pow_le_pow_right (by omega) (Nat.le_trans (Nat.pow_le_pow_right (by omega) (show i ≤ 6 by omega)) (by decide)))
      have si : 2 ^ i ≤ 1000000 := Nat.le_trans (Nat.pow_le_pow_right (by omega) (show i ≤ 6 by omega)) (by decide)
      have dom : ∀ w, w ∈ [alw, nev] ++ ns.take i → w = alw ∨ w = nev ∨ w ∈ ns.take i := fun w m => by simpa [or_assoc] using m
      refine ⟨_, rfl, _, .inr alw, _, py_app_asD, rfl, valD_kdOf (by simp), _, _, rfl, py_app_get, fun ob kv => ?_⟩
      rw [py_app_set]
      refine dc_fold (pTc (2 ^ i)) (fun c => by simp) (fun x hx acc NX N0 n1 n2 => ?_) ?_ ⟨_, _, .refl, by simp, ?_⟩
      · obtain ⟨q, hq, rfl⟩ := List.mem_map.mp hx
        obtain ⟨w, hw, rfl⟩ := List.mem_map.mp hq
        refine ⟨_, rfl, rfl, ?_⟩
        refine ⟨_, _, rfl, _, _, rfl, rfl, ?_⟩
        exact ⟨_, rfl, _, rfl, _, rfl, _, rfl, _, _, rfl, rfl, si, small w (dom w hw), _, _, rfl, rfl, n1 (.inr w) _ _ rfl rfl⟩
      · show (((kdOf _ _).map _).length) ≤ _
        unfold kdOf
        simp only [List.length_map, List.length_append, List.length_cons, List.length_nil, lt]
        omega
      · have ndd : ([alw, nev] ++ ns.take i).Nodup := by
          refine List.nodup_append.mpr ⟨by decide +kernel, nd0.sublist (List.take_sublist _ _), fun a ha b hb e => ?_⟩
          have hb2 := List.mem_of_mem_take hb
          rcases List.mem_cons.mp ha with ha | ha
          · exact h1 (ha ▸ e ▸ hb2)
          · exact h2 (List.mem_singleton.mp ha ▸ e ▸ hb2)
        have pe : putAll [] ((((kdOf (colF (ns.take i)) ([alw, nev] ++ ns.take i)).map fun q => D.tup [kOf q.1, q.2])).filterMap (pTc (2 ^ i))) = kdOf (fun w => colF (ns.take i) w ||| colF (ns.take i) w * 2 ^ 2 ^ i) ([alw, nev] ++ ns.take i) := by
          rw [pTc_map]; exact putAll_kdOf (vs := []) ndd
        rw [pe]
        have el : (ν ++ [CT.lck ob kv (kdOf (colF (ns.take i)) ([alw, nev] ++ ns.take i))]).length = (ν ++ [CT.dct (kdOf (colF (ns.take i)) ([alw, nev] ++ ns.take i))]).length := by simp
        have es : ∀ X, (ν ++ [CT.lck ob kv (kdOf (colF (ns.take i)) ([alw, nev] ++ ns.take i))] ++ [CT.dct X]).set ν.length (CT.dct (kdOf (colF (ns.take i)) ([alw, nev] ++ ns.take i))) = (ν ++ [CT.dct (kdOf (colF (ns.take i)) ([alw, nev] ++ ns.take i))]) ++ [CT.dct X] := fun X => by
          rw [List.append_assoc, List.set_append_right _ _ (Nat.le_refl _), Nat.sub_self, List.append_assoc]; rfl
        rw [el, es]
        refine ⟨_, rfl, _, rfl, _, _, rfl, rfl, si, small alw (.inl rfl), _, rfl, _, rfl, _, _, .inr n, rfl, py_app_get, rfl, ?_, ?_⟩
        · unfold kdOf
          simp only [List.length_map, List.length_append, List.length_cons, List.length_nil, lt]
          omega
        rw [py_app_set]
        have nd2 : n ∉ [alw, nev] ++ ns.take i := fun m => by
          rcases List.mem_append.mp m with m | m
          · rcases List.mem_cons.mp m with m | m
            · exact h1 (m ▸ mem)
            · exact h2 (List.mem_singleton.mp m ▸ mem)
          · exact nni m
        rw [put_kdOf nd2]
        refine ⟨_, rfl, _, _, rfl, rfl, wide_mul (a := 64) (b := 64) (by show (2 ^ i : Nat) < _; omega) (by decide) (by omega) (by omega) (by omega), some (.str n), some (.int (colF (ns.take i) alw : Nat)), ν ++ [CT.dct (kdOf (colF (ns.take i)) ([alw, nev] ++ ns.take i))], ?_, ⟨js ++ [_], by rw [hν, List.append_assoc]⟩, bd_app1 hbν fun m => kdOf_bd _ _ _, ?_⟩
        · have e : (((2 ^ i : Nat) : Int) * 2) = ((2 ^ (i + 1) : Nat) : Int) := by rw [Nat.pow_succ]; push_cast; rfl
          rw [← e]; rfl
        · rw [ht, ← List.append_assoc, kdOf_snoc, colF_snoc, lt]
          have e1 : kdOf (colS (2 ^ i) n (colF (ns.take i))) ([alw, nev] ++ ns.take i) = kdOf (fun w => colF (ns.take i) w ||| colF (ns.take i) w * 2 ^ 2 ^ i) ([alw, nev] ++ ns.take i) := kdOf_congr fun w hw => by
            unfold colS; rw [if_neg (fun e : w = n => nd2 (e ▸ hw))]
          have e2 : colS (2 ^ i) n (colF (ns.take i)) n = colF (ns.take i) alw * 2 ^ 2 ^ i := by unfold colS; rw [if_pos rfl]
          rw [e1, e2]
    · rintro ρ' μ' ⟨v3, v4, ν, rfl, ⟨js, hν⟩, hbν, rfl⟩
      rw [List.length_map, List.take_length]
      refine ⟨_, rfl, _, _, .dct (by rw [hν]; simp) (kdOf_bd _ _ _) hbν ?_, z⟩
      rw [hν]
      exact .drop (Nat.le_refl _) (kdOf_bd _ _ _) hb' .refl

/-- two trees and few names -/
def FewN (t u : Tr) : Prop := t.ok ∧ u.ok ∧ t.words.length < 450 ∧ u.words.length < 450 ∧ ∃ ns : List Str, ns.length ≤ 7 ∧ (∀ s ∈ t.nms, s ∈ ns) ∧ ∀ s ∈ u.nms, s ∈ ns
theorem wor_tc {ys : List Str} {t : Tr} (ht : t.ok) (sub : ∀ s ∈ t.nms, s ∈ ys) : Wor (kdOf (colF ys) ([alw, nev] ++ ys)) (colF ys) t.words := by
  refine ⟨valD_kdOf (by simp), fun w hw a b c => valD_kdOf ?_⟩
  rcases Tr.words_mem ht hw with h | h
  · have : w ∈ t.nms := by rw [← Tr.nms_eq ht]; exact List.mem_filter.mpr ⟨hw, decide_eq_true h.res⟩
    exact List.mem_append_right _ (sub w this)
  · have : w = ("and" : Str) ∨ w = ("or" : Str) ∨ w = ("not" : Str) ∨ w = alw ∨ w = nev := by simpa [Reserved] using h
    rcases this with h | h | h | h | h
    · exact absurd h b
    · exact absurd h c
    · exact absurd h a
    · rw [h]; simp
    · rw [h]; simp
theorem few_ys {t u : Tr} (h : FewN t u) {ys : List Str} (nd : ys.Nodup) (e : ∀ y, y ∈ ys ↔ y ∈ t.words ++ u.words ∧ y ∉ Reserved) : ys.length ≤ 7 ∧ alw ∉ ys ∧ nev ∉ ys ∧ (∀ s ∈ t.nms, s ∈ ys) ∧ ∀ s ∈ u.nms, s ∈ ys := by
  obtain ⟨ht, hu, l1, l2, ns, n7, s1, s2⟩ := h
  have mt : ∀ y, y ∈ t.nms ↔ y ∈ t.words ∧ y ∉ Reserved := fun y => by rw [← Tr.nms_eq ht]; simp [List.mem_filter]
  have mu : ∀ y, y ∈ u.nms ↔ y ∈ u.words ∧ y ∉ Reserved := fun y => by rw [← Tr.nms_eq hu]; simp [List.mem_filter]
  have sub : ∀ y ∈ ys, y ∈ ns := fun y hy => by
    obtain ⟨h1, h2⟩ := (e y).mp hy
    rcases List.mem_append.mp h1 with h | h
    · exact s1 y ((mt y).mpr ⟨h, h2⟩)
    · exact s2 y ((mu y).mpr ⟨h, h2⟩)
  refine ⟨Nat.le_trans (nodup_le nd sub) n7, fun m => ((e _).mp m).2 (by decide +kernel), fun m => ((e _).mp m).2 (by decide +kernel), fun s m => ?_, fun s m => ?_⟩
  · have := (mt s).mp m; exact (e s).mpr ⟨List.mem_append_left _ this.1, this.2⟩
  · have := (mu s).mp m; exact (e s).mpr ⟨List.mem_append_right _ this.1, this.2⟩
theorem few_sub {t u : Tr} (h : FewN t u) : ∃ ns : List Str, ns.length < 64 ∧ ∀ s ∈ t.words ++ u.words, s ∉ Reserved → s ∈ ns := by
  obtain ⟨ht, hu, l1, l2, ns, n7, s1, s2⟩ := h
  refine ⟨ns, by omega, fun s m r => ?_⟩
  rcases List.mem_append.mp m with h | h
  · exact s1 s (by rw [← Tr.nms_eq ht]; simp [List.mem_filter, h, r])
  · exact s2 s (by rw [← Tr.nms_eq hu]; simp [List.mem_filter, h, r])
abbrev sAe : Stmt := top 15
abbrev nAe : List Str := ["one", "other", "worths"]
theorem scAe : FnScope nAe ["one", "other"] (defScope sAe) := ⟨rfl, rfl, rfl, by decide +kernel, rfl, by decide +kernel, by decide +kernel⟩
inductive FAe (ds : List D) (μ : Sto) (Q : QD) (E : XD) : Prop
  | mk (t : Tr) (u : Tr) (a1 : ds = [.tup (t.words.map .str), .tup (u.words.map .str)]) (a2 : FewN t u) (a3 : bdS μ.length μ = true) (a4 : ∀ b : Bool, (b = true ↔ ∀ g : Str → Bool, t.hold g = u.hold g) → Q (.bl b) μ) : FAe ds μ Q E
theorem FAe.mono  : MonF (FAe) := fun ds μ Q Q' E E' h he q => match q with | .mk t u a1 a2 a3 a4 => .mk t u a1 a2 a3 (by intros; apply h; apply a4 <;> assumption)
theorem FAe.len  : ∀ ds μ Q E, FAe ds μ Q E → ds.length = 2 := fun ds μ Q E q => by obtain ⟨_, _, e, _, _, _⟩ := q; rw [e]; rfl
theorem cal_ae (cnma : Cal P w K mg base 1 "names_among" FNmA []) (ctc : Cal P w K mg base 1 "truth_columns" FTc []) (cwo : Cal P w K mg base 1 "work_out" FWo []) {f : Addr} {fd : FuncData} {qual : Str} (T : NoB mg) (Fu : Fun K "are_equal" qual sAe f fd) (hm : mg "are_equal" = some (.ref f)) (hk : PySem.W.keepIn K (.ref f) = true) (hb : L2.Binds K fd ["one", "other"] []) : Cal P w K mg base 2 "are_equal" FAe [] := by
  have nd := scAe.nd
  refine cal_fun Fu scAe hm hk hb ?_ ?_ (fun cdv A outer s H E hG hr =>
    have hu : (cxOf (L2.CX P w) P w K mg base nAe qual (defScope sAe) f cdv A outer s H E).A.units + 64 < cLine := by have := hr.un; show (A.deeper _).units + 64 < _; omega
    have hv : (cxOf (L2.CX P w) P w K mg base nAe qual (defScope sAe) f cdv A outer s H E).A.units + 1 < cLine := by omega
    have tk := takes_of (X := cxOf (L2.CX P w) P w K mg base nAe qual (defScope sAe) f cdv A outer s H E) (E := E) rfl rfl rfl rfl
    have pw := passes_of (X := cxOf (L2.CX P w) P w K mg base nAe qual (defScope sAe) f cdv A outer s H E) rfl
    (ds_cons (ds_set (i := 2) nd rfl (by first | exact .inl rfl | exact .inr rfl) (de_call ctc hG hr (by decide) (by rfl) tk (da_cons (de_call cnma hG hr (by decide) (by rfl) tk (da_cons (de_lstD (da_star (de_var 0 rfl) (da_star (de_var 1 rfl) da_nil))) da_nil)) da_nil)))
      (ds_one (ds_ret (de_cmp opd_eqI (de_call cwo hG hr (by decide) (by rfl) tk (da_cons (de_var 0 rfl) (da_cons (de_var 2 rfl) da_nil))) (de_call cwo hG hr (by decide) (by rfl) tk (da_cons (de_var 1 rfl) (da_cons (de_var 2 rfl) da_nil)))))))) ?_
  · exact FAe.mono
  · exact FAe.len
  · rintro ds μ Q E ⟨t, u, rfl, few, hb', z⟩
    have sz := sizeLine_eq
    obtain ⟨ns, n64, sub⟩ := few_sub few
    have e1 : t.words.map D.str ++ (u.words.map D.str ++ []) = (t.words ++ u.words).map D.str := by simp
    have l1 := few.2.2.1
    have l2 := few.2.2.2.1
    refine ⟨_, rfl, t.words.map .str, rfl, _, rfl, u.words.map .str, rfl, ?_⟩
    refine ⟨by simp; omega, ?_⟩
    refine ⟨_, t.words ++ u.words, ns, rfl, congrArg some e1, fun _ => congrArg some e1, by simp; omega, n64, sub, hb', fun ys h1 h2 h3 => ?_⟩
    obtain ⟨y7, ya, yn, f1, f2⟩ := few_ys few h1 h3
    refine ⟨ys, rfl, h1, y7, ya, yn, hb', ?_⟩
    refine ⟨_, rfl, _, rfl, t.words, _, _, colF ys, _, rfl, fun m => rfl, wor_tc few.1 f1, Tr.runN few.1 [], by omega, hb', ?_⟩
    refine ⟨_, rfl, _, rfl, u.words, _, _, colF ys, _, rfl, fun m => rfl, wor_tc few.2.1 f2, Tr.runN few.2.1 [], by omega, hb', ?_⟩
    refine ⟨_, _, rfl, rfl, _, _, .refl, z _ ?_⟩
    rw [decide_eq_true_iff, Int.ofNat_inj]
    exact val_eq h1 ya yn f1 f2

abbrev sIw : Stmt := top 16
abbrev nIw : List Str := ["one", "other", "worths", "bits"]
theorem scIw : FnScope nIw ["one", "other"] (defScope sIw) := ⟨rfl, rfl, rfl, by decide +kernel, rfl, by decide +kernel, by decide +kernel⟩
inductive FIw (ds : List D) (μ : Sto) (Q : QD) (E : XD) : Prop
  | mk (t : Tr) (u : Tr) (a1 : ds = [.tup (t.words.map .str), .tup (u.words.map .str)]) (a2 : FewN t u) (a3 : bdS μ.length μ = true) (a4 : ∀ b : Bool, (b = true ↔ ∀ g : Str → Bool, t.hold g = true → u.hold g = true) → Q (.bl b) μ) : FIw ds μ Q E
theorem FIw.mono  : MonF (FIw) := fun ds μ Q Q' E E' h he q => match q with | .mk t u a1 a2 a3 a4 => .mk t u a1 a2 a3 (by intros; apply h; apply a4 <;> assumption)
theorem FIw.len  : ∀ ds μ Q E, FIw ds μ Q E → ds.length = 2 := fun ds μ Q E q => by obtain ⟨_, _, e, _, _, _⟩ := q; rw [e]; rfl
theorem cal_iw (cnma : Cal P w K mg base 1 "names_among" FNmA []) (ctc : Cal P w K mg base 1 "truth_columns" FTc []) (cwo : Cal P w K mg base 1 "work_out" FWo []) {f : Addr} {fd : FuncData} {qual : Str} (T : NoB mg) (Fu : Fun K "is_within" qual sIw f fd) (hm : mg "is_within" = some (.ref f)) (hk : PySem.W.keepIn K (.ref f) = true) (hb : L2.Binds K fd ["one", "other"] []) : Cal P w K mg base 2 "is_within" FIw [] := by
  have nd := scIw.nd
  refine cal_fun Fu scIw hm hk hb ?_ ?_ (fun cdv A outer s H E hG hr =>
    have hu : (cxOf (L2.CX P w) P w K mg base nIw qual (defScope sIw) f cdv A outer s H E).A.units + 64 < cLine := by have := hr.un; show (A.deeper _).units + 64 < _; omega
    have hv : (cxOf (L2.CX P w) P w K mg base nIw qual (defScope sIw) f cdv A outer s H E).A.units + 1 < cLine := by omega
    have tk := takes_of (X := cxOf (L2.CX P w) P w K mg base nIw qual (defScope sIw) f cdv A outer s H E) (E := E) rfl rfl rfl rfl
    have pw := passes_of (X := cxOf (L2.CX P w) P w K mg base nIw qual (defScope sIw) f cdv A outer s H E) rfl
    (ds_cons (ds_set (i := 2) nd rfl (by first | exact .inl rfl | exact .inr rfl) (de_call ctc hG hr (by decide) (by rfl) tk (da_cons (de_call cnma hG hr (by decide) (by rfl) tk (da_cons (de_lstD (da_star (de_var 0 rfl) (da_star (de_var 1 rfl) da_nil))) da_nil)) da_nil)))
      (ds_cons (ds_set (i := 3) nd rfl (by first | exact .inl rfl | exact .inr rfl) (de_call cwo hG hr (by decide) (by rfl) tk (da_cons (de_var 0 rfl) (da_cons (de_var 2 rfl) da_nil))))
      (ds_one (ds_ret (de_cmp opd_eqI (de_op opd_band (de_var 3 rfl) (de_call cwo hG hr (by decide) (by rfl) tk (da_cons (de_var 1 rfl) (da_cons (de_var 2 rfl) da_nil)))) (de_var 3 rfl))))))) ?_
  · exact FIw.mono
  · exact FIw.len
  · rintro ds μ Q E ⟨t, u, rfl, few, hb', z⟩
    have sz := sizeLine_eq
    obtain ⟨ns, n64, sub⟩ := few_sub few
    have e1 : t.words.map D.str ++ (u.words.map D.str ++ []) = (t.words ++ u.words).map D.str := by simp
    have l1 := few.2.2.1
    have l2 := few.2.2.2.1
    refine ⟨_, rfl, t.words.map .str, rfl, _, rfl, u.words.map .str, rfl, ?_⟩
    refine ⟨by simp; omega, ?_⟩
    refine ⟨_, t.words ++ u.words, ns, rfl, congrArg some e1, fun _ => congrArg some e1, by simp; omega, n64, sub, hb', fun ys h1 h2 h3 => ?_⟩
    obtain ⟨y7, ya, yn, f1, f2⟩ := few_ys few h1 h3
    refine ⟨ys, rfl, h1, y7, ya, yn, hb', ?_⟩
    refine ⟨_, rfl, _, rfl, t.words, _, _, colF ys, _, rfl, fun m => rfl, wor_tc few.1 f1, Tr.runN few.1 [], by omega, hb', ?_⟩
    refine ⟨_, rfl, _, rfl, _, rfl, u.words, _, _, colF ys, _, rfl, fun m => rfl, wor_tc few.2.1 f2, Tr.runN few.2.1 [], by omega, hb', ?_⟩
    refine ⟨_, _, rfl, rfl, _, rfl, _, _, rfl, rfl, _, _, .refl, z _ ?_⟩
    rw [decide_eq_true_iff, Int.ofNat_inj]
    exact val_le h1 ya yn f1 f2

abbrev sCeq : Stmt := inCls (top 20) 10
abbrev nCeq : List Str := ["self", "other"]
theorem scCeq : FnScope nCeq ["self", "other"] (defScope sCeq) := ⟨rfl, rfl, rfl, by decide +kernel, rfl, by decide +kernel, by decide +kernel⟩
inductive FCeq (C_Condition : Addr) (ds : List D) (μ : Sto) (Q : QD) (E : XD) : Prop
  | mk (t : Tr) (u : Tr) (a1 : ds = [cD C_Condition t.words, cD C_Condition u.words]) (a2 : FewN t u) (a3 : bdS μ.length μ = true) (a4 : ∀ b : Bool, (b = true ↔ ∀ g : Str → Bool, t.hold g = u.hold g) → Q (.bl b) μ) : FCeq C_Condition ds μ Q E
theorem FCeq.mono {C_Condition : Addr} : MonF (FCeq C_Condition) := fun ds μ Q Q' E E' h he q => match q with | .mk t u a1 a2 a3 a4 => .mk t u a1 a2 a3 (by intros; apply h; apply a4 <;> assumption)
theorem FCeq.len {C_Condition : Addr} : ∀ ds μ Q E, FCeq C_Condition ds μ Q E → ds.length = 2 := fun ds μ Q E q => by obtain ⟨_, _, e, _, _, _⟩ := q; rw [e]; rfl
theorem met_Ceq (hm_Condition : mg "Condition" = some (.ref C_Condition)) (isC_Condition : IsC K C_Condition) (kit_Condition : PySem.W.kitOne K (.ref C_Condition) (.ref C_Condition) = some true) (na_words : NoAttr K C_Condition ("_words" : Str)) (cae : Cal P w K mg base 2 "are_equal" FAe []) {f : Addr} {fd : FuncData} {qual : Str} (T : NoB mg) (Fu : FunA K "__eq__" qual sCeq f fd) (cC : Cls K C_Condition) (M : Meth K C_Condition "__eq__" f) (hb : L2.Binds K fd ["self", "other"] []) : Met P w K mg base 3 C_Condition "__eq__" (FCeq C_Condition) [] := by
  have nd := scCeq.nd
  refine met_fun Fu scCeq cC M hb ?_ ?_ (fun cdv A outer s H E hG hr =>
    have hu : (cxOf (L2.CX P w) P w K mg base nCeq qual (defScope sCeq) f cdv A outer s H E).A.units + 64 < cLine := by have := hr.un; show (A.deeper _).units + 64 < _; omega
    have hv : (cxOf (L2.CX P w) P w K mg base nCeq qual (defScope sCeq) f cdv A outer s H E).A.units + 1 < cLine := by omega
    have tk := takes_of (X := cxOf (L2.CX P w) P w K mg base nCeq qual (defScope sCeq) f cdv A outer s H E) (E := E) rfl rfl rfl rfl
    have pw := passes_of (X := cxOf (L2.CX P w) P w K mg base nCeq qual (defScope sCeq) f cdv A outer s H E) rfl
    (ds_cons (ds_if (dt_not (dt_val (de_callB cad_isi (by rfl) T.isinstance (by decide +kernel) (da_cons (de_var 1 rfl) (da_cons (de_cls (by rfl) hm_Condition) da_nil))))) (ds_one (ds_ret de_bl)) ds_nil)
      (ds_one (ds_ret (de_call cae hG hr (by decide) (by rfl) tk (da_cons (de_fld (de_var 0 rfl)) (da_cons (de_fld (de_var 1 rfl)) da_nil))))))) ?_
  · exact FCeq.mono
  · exact FCeq.len
  · rintro ds μ Q E ⟨t, u, rfl, few, hb', z⟩
    refine ⟨_, rfl, _, _, _, _, true, rfl, .inl ⟨C_Condition, rfl, rfl⟩, .ins _ _ _ rfl isC_Condition, kit_Condition, _, rfl, ?_⟩
    refine ⟨_, rfl, C_Condition, wdF t.words, _, rfl, cC, na_words, rfl, _, rfl, C_Condition, wdF u.words, _, rfl, cC, na_words, rfl, ?_⟩
    exact ⟨t, u, rfl, few, hb', fun b hbb => ⟨_, _, .refl, z b hbb⟩⟩
abbrev sCle : Stmt := inCls (top 20) 11
abbrev nCle : List Str := ["self", "other"]
theorem scCle : FnScope nCle ["self", "other"] (defScope sCle) := ⟨rfl, rfl, rfl, by decide +kernel, rfl, by decide +kernel, by decide +kernel⟩
inductive FCle (C_Condition : Addr) (ds : List D) (μ : Sto) (Q : QD) (E : XD) : Prop
  | mk (t : Tr) (u : Tr) (a1 : ds = [cD C_Condition t.words, cD C_Condition u.words]) (a2 : FewN t u) (a3 : bdS μ.length μ = true) (a4 : ∀ b : Bool, (b = true ↔ ∀ g : Str → Bool, t.hold g = true → u.hold g = true) → Q (.bl b) μ) : FCle C_Condition ds μ Q E
theorem FCle.mono {C_Condition : Addr} : MonF (FCle C_Condition) := fun ds μ Q Q' E E' h he q => match q with | .mk t u a1 a2 a3 a4 => .mk t u a1 a2 a3 (by intros; apply h; apply a4 <;> assumption)
theorem FCle.len {C_Condition : Addr} : ∀ ds μ Q E, FCle C_Condition ds μ Q E → ds.length = 2 := fun ds μ Q E q => by obtain ⟨_, _, e, _, _, _⟩ := q; rw [e]; rfl
theorem met_Cle (hm_Condition : mg "Condition" = some (.ref C_Condition)) (isC_Condition : IsC K C_Condition) (kit_Condition : PySem.W.kitOne K (.ref C_Condition) (.ref C_Condition) = some true) (na_words : NoAttr K C_Condition ("_words" : Str)) (ciw : Cal P w K mg base 2 "is_within" FIw []) {f : Addr} {fd : FuncData} {qual : Str} (T : NoB mg) (Fu : FunA K "__le__" qual sCle f fd) (cC : Cls K C_Condition) (M : Meth K C_Condition "__le__" f) (hb : L2.Binds K fd ["self", "other"] []) : Met P w K mg base 3 C_Condition "__le__" (FCle C_Condition) [] := by
  have nd := scCle.nd
  refine met_fun Fu scCle cC M hb ?_ ?_ (fun cdv A outer s H E hG hr =>
    have hu : (cxOf (L2.CX P w) P w K mg base nCle qual (defScope sCle) f cdv A outer s H E).A.units + 64 < cLine := by have := hr.un; show (A.deeper _).units + 64 < _; omega
    have hv : (cxOf (L2.CX P w) P w K mg base nCle qual (defScope sCle) f cdv A outer s H E).A.units + 1 < cLine := by omega
    have tk := takes_of (X := cxOf (L2.CX P w) P w K mg base nCle qual (defScope sCle) f cdv A outer s H E) (E := E) rfl rfl rfl rfl
    have pw := passes_of (X := cxOf (L2.CX P w) P w K mg base nCle qual (defScope sCle) f cdv A outer s H E) rfl
    (ds_cons (ds_if (dt_not (dt_val (de_callB cad_isi (by rfl) T.isinstance (by decide +kernel) (da_cons (de_var 1 rfl) (da_cons (de_cls (by rfl) hm_Condition) da_nil))))) (ds_one ds_never) ds_nil)
      (ds_one (ds_ret (de_call ciw hG hr (by decide) (by rfl) tk (da_cons (de_fld (de_var 0 rfl)) (da_cons (de_fld (de_var 1 rfl)) da_nil))))))) ?_
  · exact FCle.mono
  · exact FCle.len
  · rintro ds μ Q E ⟨t, u, rfl, few, hb', z⟩
    refine ⟨_, rfl, _, _, _, _, true, rfl, .inl ⟨C_Condition, rfl, rfl⟩, .ins _ _ _ rfl isC_Condition, kit_Condition, _, rfl, ?_⟩
    refine ⟨_, rfl, C_Condition, wdF t.words, _, rfl, cC, na_words, rfl, _, rfl, C_Condition, wdF u.words, _, rfl, cC, na_words, rfl, ?_⟩
    exact ⟨t, u, rfl, few, hb', fun b hbb => ⟨_, _, .refl, z b hbb⟩⟩
abbrev sClt : Stmt := inCls (top 20) 12
abbrev nClt : List Str := ["self", "other"]
theorem scClt : FnScope nClt ["self", "other"] (defScope sClt) := ⟨rfl, rfl, rfl, by decide +kernel, rfl, by decide +kernel, by decide +kernel⟩
theorem ifT1 {b : Bool} {A B : Prop} (h : b = true) (a : A) : if b = true then A else B := by rw [if_pos h]; exact a
theorem ifF1 {b : Bool} {A B : Prop} (h : b = false) (a : B) : if b = true then A else B := by rw [if_neg (by rw [h]; simp)]; exact a
theorem FewN.sw {t u : Tr} (h : FewN t u) : FewN u t := by
  obtain ⟨a, b, c, d, ns, e, f, g⟩ := h
  exact ⟨b, a, d, c, ns, e, g, f⟩
inductive FClt (C_Condition : Addr) (ds : List D) (μ : Sto) (Q : QD) (E : XD) : Prop
  | mk (t : Tr) (u : Tr) (a1 : ds = [cD C_Condition t.words, cD C_Condition u.words]) (a2 : FewN t u) (a3 : bdS μ.length μ = true) (a4 : ∀ b : Bool, (b = true ↔ (∀ g : Str → Bool, t.hold g = true → u.hold g = true) ∧ ¬ ∀ g : Str → Bool, u.hold g = true → t.hold g = true) → Q (.bl b) μ) : FClt C_Condition ds μ Q E
theorem FClt.mono {C_Condition : Addr} : MonF (FClt C_Condition) := fun ds μ Q Q' E E' h he q => match q with | .mk t u a1 a2 a3 a4 => .mk t u a1 a2 a3 (by intros; apply h; apply a4 <;> assumption)
theorem FClt.len {C_Condition : Addr} : ∀ ds μ Q E, FClt C_Condition ds μ Q E → ds.length = 2 := fun ds μ Q E q => by obtain ⟨_, _, e, _, _, _⟩ := q; rw [e]; rfl
theorem met_Clt (hm_Condition : mg "Condition" = some (.ref C_Condition)) (isC_Condition : IsC K C_Condition) (kit_Condition : PySem.W.kitOne K (.ref C_Condition) (.ref C_Condition) = some true) (na_words : NoAttr K C_Condition ("_words" : Str)) (ciw : Cal P w K mg base 2 "is_within" FIw []) {f : Addr} {fd : FuncData} {qual : Str} (T : NoB mg) (Fu : FunA K "__lt__" qual sClt f fd) (cC : Cls K C_Condition) (M : Meth K C_Condition "__lt__" f) (hb : L2.Binds K fd ["self", "other"] []) : Met P w K mg base 3 C_Condition "__lt__" (FClt C_Condition) [] := by
  have nd := scClt.nd
  refine met_fun Fu scClt cC M hb ?_ ?_ (fun cdv A outer s H E hG hr =>
    have hu : (cxOf (L2.CX P w) P w K mg base nClt qual (defScope sClt) f cdv A outer s H E).A.units + 64 < cLine := by have := hr.un; show (A.deeper _).units + 64 < _; omega
    have hv : (cxOf (L2.CX P w) P w K mg base nClt qual (defScope sClt) f cdv A outer s H E).A.units + 1 < cLine := by omega
    have tk := takes_of (X := cxOf (L2.CX P w) P w K mg base nClt qual (defScope sClt) f cdv A outer s H E) (E := E) rfl rfl rfl rfl
    have pw := passes_of (X := cxOf (L2.CX P w) P w K mg base nClt qual (defScope sClt) f cdv A outer s H E) rfl
    (ds_cons (ds_if (dt_not (dt_val (de_callB cad_isi (by rfl) T.isinstance (by decide +kernel) (da_cons (de_var 1 rfl) (da_cons (de_cls (by rfl) hm_Condition) da_nil))))) (ds_one ds_never) ds_nil)
      (ds_one (ds_ret (de_and (de_call ciw hG hr (by decide) (by rfl) tk (da_cons (de_fld (de_var 0 rfl)) (da_cons (de_fld (de_var 1 rfl)) da_nil))) (de_one (de_not (de_call ciw hG hr (by decide) (by rfl) tk (da_cons (de_fld (de_var 1 rfl)) (da_cons (de_fld (de_var 0 rfl)) da_nil)))))))))) ?_
  · exact FClt.mono
  · exact FClt.len
  · rintro ds μ Q E ⟨t, u, rfl, few, hb', z⟩
    refine ⟨_, rfl, _, _, _, _, true, rfl, .inl ⟨C_Condition, rfl, rfl⟩, .ins _ _ _ rfl isC_Condition, kit_Condition, _, rfl, ?_⟩
    refine ⟨_, rfl, C_Condition, wdF t.words, _, rfl, cC, na_words, rfl, _, rfl, C_Condition, wdF u.words, _, rfl, cC, na_words, rfl, ?_⟩
    refine ⟨t, u, rfl, few, hb', fun b hbb => ?_⟩
    cases b with
    | false => exact ⟨_, rfl, ifF1 rfl ⟨_, _, .refl, z false ⟨fun h => absurd h (by simp), fun h => absurd (hbb.mpr h.1) (by simp)⟩⟩⟩
    | true =>
      refine ⟨_, rfl, ifT1 rfl ?_⟩
      refine ⟨_, rfl, C_Condition, wdF u.words, _, rfl, cC, na_words, rfl, _, rfl, C_Condition, wdF t.words, _, rfl, cC, na_words, rfl, ?_⟩
      refine ⟨u, t, rfl, few.sw, hb', fun c hcc => ?_⟩
      refine ⟨_, rfl, _, _, .refl, z (!c) ⟨fun h => ⟨hbb.mp rfl, fun k => ?_⟩, fun h => ?_⟩⟩
      · rw [hcc.mpr k] at h; exact absurd h (by simp)
      · cases c with
        | false => rfl
        | true => exact absurd (hcc.mp rfl) h.2
end
end Dl

namespace Dl
open PySem PySem.Spec L2
open PyProof.Rows hiding St Binds
section
variable {P : Program} {w : World} {K : PySem.W.Frag} {mg : Str → Option Value} {base : Heap} {C_Condition : Addr}

abbrev sAnd : Stmt := inCls (top 20) 7
abbrev nAnd : List Str := ["self", "other"]
theorem scAnd : FnScope nAnd ["self", "other"] (defScope sAnd) := ⟨rfl, rfl, rfl, by decide +kernel, rfl, by decide +kernel, by decide +kernel⟩
inductive FBin (C_Condition : Addr) (x : Str) (ds : List D) (μ : Sto) (Q : QD) (E : XD) : Prop
  | mk (ws : List Str) (vs : List Str) (a1 : ds = [Dl.cD C_Condition ws, Dl.cD C_Condition vs]) (a2 : ws.length + vs.length ≤ 10000) (a3 : bdS μ.length μ = true) (a4 : Q (Dl.cD C_Condition (ws ++ vs ++ [x])) μ) : FBin C_Condition x ds μ Q E
theorem FBin.mono {C_Condition : Addr} {x : Str} : MonF (FBin C_Condition x) := fun ds μ Q Q' E E' h he q => match q with | .mk ws vs a1 a2 a3 a4 => .mk ws vs a1 a2 a3 (h _ _ a4)
theorem FBin.len {C_Condition : Addr} {x : Str} : ∀ ds μ Q E, FBin C_Condition x ds μ Q E → ds.length = 2 := fun ds μ Q E q => by obtain ⟨_, _, e, _, _, _⟩ := q; rw [e]; rfl
theorem met_And (hm_Condition : mg "Condition" = some (.ref C_Condition)) (isC_Condition : IsC K C_Condition) (kit_Condition : PySem.W.kitOne K (.ref C_Condition) (.ref C_Condition) = some true) (na_words : NoAttr K C_Condition ("_words" : Str)) (cCo : Mak P w K mg base 1 "Condition" C_Condition (FIni C_Condition) []) {f : Addr} {fd : FuncData} {qual : Str} (T : NoB mg) (Fu : FunA K "__and__" qual sAnd f fd) (cC : Cls K C_Condition) (M : Meth K C_Condition "__and__" f) (hb : L2.Binds K fd ["self", "other"] []) : Met P w K mg base 3 C_Condition "__and__" (FBin C_Condition ("and" : Str)) [] := by
  have nd := scAnd.nd
  refine met_fun Fu scAnd cC M hb ?_ ?_ (fun cdv A outer s H E hG hr =>
    have hu : (cxOf (L2.CX P w) P w K mg base nAnd qual (defScope sAnd) f cdv A outer s H E).A.units + 64 < cLine := by have := hr.un; show (A.deeper _).units + 64 < _; omega
    have hv : (cxOf (L2.CX P w) P w K mg base nAnd qual (defScope sAnd) f cdv A outer s H E).A.units + 1 < cLine := by omega
    have tk := takes_of (X := cxOf (L2.CX P w) P w K mg base nAnd qual (defScope sAnd) f cdv A outer s H E) (E := E) rfl rfl rfl rfl
    have pw := passes_of (X := cxOf (L2.CX P w) P w K mg base nAnd qual (defScope sAnd) f cdv A outer s H E) rfl
    (ds_cons (ds_if (dt_not (dt_val (de_callB cad_isi (by rfl) T.isinstance (by decide +kernel) (da_cons (de_var 1 rfl) (da_cons (de_cls (by rfl) hm_Condition) da_nil))))) (ds_one ds_never) ds_nil)
      (ds_one (ds_ret (de_make cCo hG hr (by decide) (by rfl) tk (da_cons (de_lstD (da_star (de_fld (de_var 0 rfl)) (da_star (de_fld (de_var 1 rfl)) (da_cons de_str da_nil)))) da_nil)))))) ?_
  · exact FBin.mono
  · exact FBin.len
  · rintro ds μ Q E ⟨ws, vs, rfl, hl, hb', z⟩
    have sz := sizeLine_eq
    refine ⟨_, rfl, _, _, _, _, true, rfl, .inl ⟨C_Condition, rfl, rfl⟩, .ins _ _ _ rfl isC_Condition, kit_Condition, _, rfl, ?_⟩
    refine ⟨_, rfl, C_Condition, wdF ws, _, rfl, cC, na_words, rfl, _, rfl, _, rfl, C_Condition, wdF vs, _, rfl, cC, na_words, rfl, _, rfl, ?_⟩
    have e1 : ws.map D.str ++ (vs.map D.str ++ [D.str ("and" : Str)]) = (ws ++ vs ++ [("and" : Str)]).map D.str := by simp
    refine ⟨by simp; omega, ?_⟩
    exact ⟨_, _, ws ++ vs ++ [("and" : Str)], rfl, cond_get, congrArg some e1, cond_bd hb', rfl, _, _, cond_fz hb', _, _, .refl, z⟩
abbrev sOr : Stmt := inCls (top 20) 8
abbrev nOr : List Str := ["self", "other"]
theorem scOr : FnScope nOr ["self", "other"] (defScope sOr) := ⟨rfl, rfl, rfl, by decide +kernel, rfl, by decide +kernel, by decide +kernel⟩
theorem met_Or (hm_Condition : mg "Condition" = some (.ref C_Condition)) (isC_Condition : IsC K C_Condition) (kit_Condition : PySem.W.kitOne K (.ref C_Condition) (.ref C_Condition) = some true) (na_words : NoAttr K C_Condition ("_words" : Str)) (cCo : Mak P w K mg base 1 "Condition" C_Condition (FIni C_Condition) []) {f : Addr} {fd : FuncData} {qual : Str} (T : NoB mg) (Fu : FunA K "__or__" qual sOr f fd) (cC : Cls K C_Condition) (M : Meth K C_Condition "__or__" f) (hb : L2.Binds K fd ["self", "other"] []) : Met P w K mg base 3 C_Condition "__or__" (FBin C_Condition ("or" : Str)) [] := by
  have nd := scOr.nd
  refine met_fun Fu scOr cC M hb ?_ ?_ (fun cdv A outer s H E hG hr =>
    have hu : (cxOf (L2.CX P w) P w K mg base nOr qual (defScope sOr) f cdv A outer s H E).A.units + 64 < cLine := by have := hr.un; show (A.deeper _).units + 64 < _; omega
    have hv : (cxOf (L2.CX P w) P w K mg base nOr qual (defScope sOr) f cdv A outer s H E).A.units + 1 < cLine := by omega
    have tk := takes_of (X := cxOf (L2.CX P w) P w K mg base nOr qual (defScope sOr) f cdv A outer s H E) (E := E) rfl rfl rfl rfl
    have pw := passes_of (X := cxOf (L2.CX P w) P w K mg base nOr qual (defScope sOr) f cdv A outer s H E) rfl
    (ds_cons (ds_if (dt_not (dt_val (de_callB cad_isi (by rfl) T.isinstance (by decide +kernel) (da_cons (de_var 1 rfl) (da_cons (de_cls (by rfl) hm_Condition) da_nil))))) (ds_one ds_never) ds_nil)
      (ds_one (ds_ret (de_make cCo hG hr (by decide) (by rfl) tk (da_cons (de_lstD (da_star (de_fld (de_var 0 rfl)) (da_star (de_fld (de_var 1 rfl)) (da_cons de_str da_nil)))) da_nil)))))) ?_
  · exact FBin.mono
  · exact FBin.len
  · rintro ds μ Q E ⟨ws, vs, rfl, hl, hb', z⟩
    have sz := sizeLine_eq
    refine ⟨_, rfl, _, _, _, _, true, rfl, .inl ⟨C_Condition, rfl, rfl⟩, .ins _ _ _ rfl isC_Condition, kit_Condition, _, rfl, ?_⟩
    refine ⟨_, rfl, C_Condition, wdF ws, _, rfl, cC, na_words, rfl, _, rfl, _, rfl, C_Condition, wdF vs, _, rfl, cC, na_words, rfl, _, rfl, ?_⟩
    have e1 : ws.map D.str ++ (vs.map D.str ++ [D.str ("or" : Str)]) = (ws ++ vs ++ [("or" : Str)]).map D.str := by simp
    refine ⟨by simp; omega, ?_⟩
    exact ⟨_, _, ws ++ vs ++ [("or" : Str)], rfl, cond_get, congrArg some e1, cond_bd hb', rfl, _, _, cond_fz hb', _, _, .refl, z⟩
abbrev sInv : Stmt := inCls (top 20) 9
abbrev nInv : List Str := ["self"]
theorem scInv : FnScope nInv ["self"] (defScope sInv) := ⟨rfl, rfl, rfl, by decide +kernel, rfl, by decide +kernel, by decide +kernel⟩
inductive FInv (C_Condition : Addr) (ds : List D) (μ : Sto) (Q : QD) (E : XD) : Prop
  | mk (ws : List Str) (a1 : ds = [Dl.cD C_Condition ws]) (a2 : ws.length ≤ 10000) (a3 : bdS μ.length μ = true) (a4 : Q (Dl.cD C_Condition (ws ++ [("not" : Str)])) μ) : FInv C_Condition ds μ Q E
theorem FInv.mono {C_Condition : Addr} : MonF (FInv C_Condition) := fun ds μ Q Q' E E' h he q => match q with | .mk ws a1 a2 a3 a4 => .mk ws a1 a2 a3 (h _ _ a4)
theorem FInv.len {C_Condition : Addr} : ∀ ds μ Q E, FInv C_Condition ds μ Q E → ds.length = 1 := fun ds μ Q E q => by obtain ⟨_, e, _, _, _⟩ := q; rw [e]; rfl
theorem met_Inv (na_words : NoAttr K C_Condition ("_words" : Str)) (cCo : Mak P w K mg base 1 "Condition" C_Condition (FIni C_Condition) []) {f : Addr} {fd : FuncData} {qual : Str} (T : NoB mg) (Fu : FunA K "__invert__" qual sInv f fd) (cC : Cls K C_Condition) (M : Meth K C_Condition "__invert__" f) (hb : L2.Binds K fd ["self"] []) : Met P w K mg base 3 C_Condition "__invert__" (FInv C_Condition) [] := by
  have nd := scInv.nd
  refine met_fun Fu scInv cC M hb ?_ ?_ (fun cdv A outer s H E hG hr =>
    have hu : (cxOf (L2.CX P w) P w K mg base nInv qual (defScope sInv) f cdv A outer s H E).A.units + 64 < cLine := by have := hr.un; show (A.deeper _).units + 64 < _; omega
    have hv : (cxOf (L2.CX P w) P w K mg base nInv qual (defScope sInv) f cdv A outer s H E).A.units + 1 < cLine := by omega
    have tk := takes_of (X := cxOf (L2.CX P w) P w K mg base nInv qual (defScope sInv) f cdv A outer s H E) (E := E) rfl rfl rfl rfl
    have pw := passes_of (X := cxOf (L2.CX P w) P w K mg base nInv qual (defScope sInv) f cdv A outer s H E) rfl
    (ds_one (ds_ret (de_make cCo hG hr (by decide) (by rfl) tk (da_cons (de_lstD (da_star (de_fld (de_var 0 rfl)) (da_cons de_str da_nil))) da_nil))))) ?_
  · exact FInv.mono
  · exact FInv.len
  · rintro ds μ Q E ⟨ws, rfl, hl, hb', z⟩
    have sz := sizeLine_eq
    refine ⟨_, rfl, C_Condition, wdF ws, _, rfl, cC, na_words, rfl, _, rfl, ?_⟩
    have e1 : ws.map D.str ++ [D.str ("not" : Str)] = (ws ++ [("not" : Str)]).map D.str := by simp
    refine ⟨by simp; omega, ?_⟩
    exact ⟨_, _, ws ++ [("not" : Str)], rfl, cond_get, congrArg some e1, cond_bd hb', rfl, _, _, cond_fz hb', _, _, .refl, z⟩
end
end Dl

namespace Dl
open PySem PySem.Spec L2
open PyProof.Rows hiding St Binds
section
variable {P : Program} {w : World} {K : PySem.W.Frag} {mg : Str → Option Value} {base : Heap}
end
end Dl

namespace Dl
open PySem PySem.Spec L2
open PyProof.Rows hiding St Binds
section
variable {P : Program} {w : World} {K : PySem.W.Frag} {mg : Str → Option Value} {base : Heap} {C_Condition C_BadName : Addr}
/-- a promise of nothing -/
theorem fng_no {f : Addr} {fd : FuncData} {ps : List Str} {F : FD} {k : Nat} (h : ∀ ds μ Q E, ¬ F ds μ Q E) : FnG P w K mg base (L2.CX P w) k f fd ps (spD K F) :=
  ⟨fun vs H Q E z => by obtain ⟨ι, μ, ds, _, _, z⟩ := z; exact (h _ _ _ _ z).elim, fun A outer s H args us vs Q E _ _ _ _ _ z => by obtain ⟨ι, μ, ds, _, _, z⟩ := z; exact (h _ _ _ _ z).elim⟩
theorem cal_no {x : Str} {f : Addr} {fd : FuncData} {ps : List Str} {F : FD} {k : Nat} (hm : mg x = some (.ref f)) (hk : PySem.W.keepIn K (.ref f) = true) (hb : L2.Binds K fd ps []) (h : ∀ ds μ Q E, ¬ F ds μ Q E) : Cal P w K mg base k x F [] :=
  ⟨fun ds μ Q Q' E E' _ _ z => (h _ _ _ _ z).elim, f, fd, ps, [], [], fng_no h, hm, hk, hb, .nil, fun _ _ => Ats.nil⟩
theorem ok_name {s : Str} (h : NameOk s) : PyData.strOk s = true := by
  unfold PyData.strOk
  rw [← Array.all_toList, List.all_eq_true]
  intro c hc
  have := (h.low c hc).2
  rw [decide_eq_true_eq]
  omega
theorem lay_strs : ∀ {ns : List Str}, (∀ s ∈ ns, PyData.strOk s = true) → PyData.canLayAll0 (ns.map PyData.str) = true ∧ PyData.depthAll (ns.map PyData.str) ≤ 1
  | [], _ => ⟨rfl, by decide⟩
  | s :: ns, h => by
    obtain ⟨h1, h2⟩ := lay_strs (ns := ns) fun x hx => h x (List.mem_cons_of_mem _ hx)
    refine ⟨?_, ?_⟩
    · simp only [List.map_cons, PyData.canLayAll0, PyData.canLay0, h1, Bool.and_true]
      exact h s List.mem_cons_self
    · simp only [List.map_cons, PyData.depthAll, PyData.depth]
      omega
theorem sh_strs {ns : List Str} (h : ∀ s ∈ ns, PyData.strOk s = true) : SeqAt.shaped (.list (ns.map PyData.str)) = true := by
  obtain ⟨h1, h2⟩ := lay_strs h
  unfold SeqAt.shaped
  rw [show (PyData.list (ns.map PyData.str)).canLay0 = true by simp only [PyData.canLay0]; exact h1, Bool.true_and, decide_eq_true_eq]
  show PyData.depthAll _ + 1 ≤ 64
  omega
theorem nil_eqv {μ : Sto} {ns : List Str} (h : ∀ s ∈ ns, NameOk s) : ∃ p, pyS μ (.lst (ns.map .str)) = some p ∧ SeqAt.shaped p = true ∧ PyData.eqv p (.list []) = ns.isEmpty := by
  refine ⟨.list (ns.map .str), by simp [pyS, D.py, py_strs], sh_strs fun s hs => ok_name (h s hs), ?_⟩
  cases ns <;> rfl



abbrev sCnd : Stmt := top 27
abbrev nCnd : List Str := ["_law_stream", "_law_names_here", "_law_deep", "_law_way", "_law_name_here", "_law_one"]
theorem scCnd : FnScope nCnd ["_law_stream", "_law_names_here", "_law_deep"] (defScope sCnd) := ⟨rfl, rfl, rfl, by decide +kernel, rfl, by decide +kernel, by decide +kernel⟩
/-- trees below the depth n -/
inductive FCnd (n : Nat) (ds : List D) (μ : Sto) (Q : QD) (E : XD) : Prop
  | mk (S : Dr) (ns : List Str) (k : Nat) (rest : Sto) (a1 : ds = [.cell 1, .lst (ns.map .str), .int k]) (a2 : k < n) (a3 : ns.length ≤ 15) (a4 : (∀ s ∈ ns, NameOk s)) (a5 : S.ok) (a6 : S.t + ((4 * 2 ^ n : Nat) : Int) < 1000000) (a7 : okRest rest) (a8 : μ = S.sto rest) (a9 : ∀ (t : Tr) (S' : Dr), t.ok → t.dep ≤ k + 1 → (∀ s ∈ t.nms, s ∈ ns) → S'.ok → S.t ≤ S'.t → S'.t ≤ S.t + ((3 * (2 ^ (k + 1) - 1) : Nat) : Int) → Q t.d (S'.sto rest)) : FCnd n ds μ Q E
theorem FCnd.mono {n : Nat} : MonF (FCnd n) := fun ds μ Q Q' E E' h he q => match q with | .mk S ns k rest a1 a2 a3 a4 a5 a6 a7 a8 a9 => .mk S ns k rest a1 a2 a3 a4 a5 a6 a7 a8 (by intros; apply h; apply a9 <;> assumption)
theorem FCnd.len {n : Nat} : ∀ ds μ Q E, FCnd n ds μ Q E → ds.length = 3 := fun ds μ Q E q => by obtain ⟨_, _, _, _, e, _, _, _, _, _, _, _, _⟩ := q; rw [e]; rfl
theorem cal_cnd (n : Nat) (cD : Cal P w K mg base 1 "_law_draw" FDraw []) (cP : Cal P w K mg base 2 "_law_pick" FPick []) (cC : Cal P w K mg base (n + 2) "_law_condition" (FCnd n) []) {f : Addr} {fd : FuncData} {qual : Str} (T : NoB mg) (Fu : Fun K "_law_condition" qual sCnd f fd) (hm : mg "_law_condition" = some (.ref f)) (hk : PySem.W.keepIn K (.ref f) = true) (hb : L2.Binds K fd ["_law_stream", "_law_names_here", "_law_deep"] []) : Cal P w K mg base (n + 3) "_law_condition" (FCnd (n + 1)) [] := by
  have nd := scCnd.nd
  refine cal_fun Fu scCnd hm hk hb ?_ ?_ (fun cdv A outer s H E hG hr =>
    have hu : (cxOf (L2.CX P w) P w K mg base nCnd qual (defScope sCnd) f cdv A outer s H E).A.units + 64 < cLine := by have := hr.un; show (A.deeper _).units + 64 < _; omega
    have hv : (cxOf (L2.CX P w) P w K mg base nCnd qual (defScope sCnd) f cdv A outer s H E).A.units + 1 < cLine := by omega
    have tk := takes_of (X := cxOf (L2.CX P w) P w K mg base nCnd qual (defScope sCnd) f cdv A outer s H E) (E := E) rfl rfl rfl rfl
    have pw := passes_of (X := cxOf (L2.CX P w) P w K mg base nCnd qual (defScope sCnd) f cdv A outer s H E) rfl
    (ds_cons (ds_set (i := 3) nd rfl (by first | exact .inl rfl | exact .inr rfl) (de_call cD hG hr (by omega) (by rfl) tk (da_cons (de_var 0 rfl) (da_cons de_int da_nil))))
      (ds_cons (ds_if (DW.pt (dw_or (dt_cmp (opd_eqP' hu) (de_var 1 rfl) (de_lstD da_nil)) (dw_or1 (dt_cmp opd_eqI (de_var 3 rfl) de_int)))) (ds_one (ds_ret (de_ixL (de_lstD (da_cons (de_tup (da_cons de_str da_nil)) (da_cons (de_tup (da_cons de_str da_nil)) da_nil))) (de_call cD hG hr (by omega) (by rfl) tk (da_cons (de_var 0 rfl) (da_cons de_int da_nil)))))) ds_nil)
      (ds_cons (ds_if (DW.pt (dw_or (dt_cmp opd_eqI (de_var 2 rfl) de_int) (dw_or1 (dt_cmp opd_lt (de_var 3 rfl) de_int)))) (ds_cons (ds_set (i := 4) nd rfl (by first | exact .inl rfl | exact .inr rfl) (de_call cP hG hr (by omega) (by rfl) tk (da_cons (de_var 0 rfl) (da_cons (de_var 1 rfl) da_nil))))
      (ds_one (ds_ret (de_ifx (dt_cmp opd_eqI (de_call cD hG hr (by omega) (by rfl) tk (da_cons (de_var 0 rfl) (da_cons de_int da_nil))) de_int) (de_tup (da_cons de_str (da_cons (de_var 4 rfl) da_nil))) (de_tup (da_cons de_str (da_cons (de_tup (da_cons de_str (da_cons (de_var 4 rfl) da_nil))) da_nil))))))) ds_nil)
      (ds_cons (ds_if (dt_cmp opd_eqI (de_var 3 rfl) de_int) (ds_one (ds_ret (de_tup (da_cons de_str (da_cons (de_call cC hG hr (by omega) (by rfl) tk (da_cons (de_var 0 rfl) (da_cons (de_var 1 rfl) (da_cons (de_op opd_sub (de_var 2 rfl) de_int) da_nil)))) da_nil))))) ds_nil)
      (ds_cons (ds_set (i := 5) nd rfl (by first | exact .inl rfl | exact .inr rfl) (de_call cC hG hr (by omega) (by rfl) tk (da_cons (de_var 0 rfl) (da_cons (de_var 1 rfl) (da_cons (de_op opd_sub (de_var 2 rfl) de_int) da_nil)))))
      (ds_one (ds_ret (de_tup (da_cons (de_ixL (de_lstD (da_cons de_str (da_cons de_str da_nil))) (de_op opd_mod (de_var 3 rfl) de_int)) (da_cons (de_var 5 rfl) (da_cons (de_call cC hG hr (by omega) (by rfl) tk (da_cons (de_var 0 rfl) (da_cons (de_var 1 rfl) (da_cons (de_op opd_sub (de_var 2 rfl) de_int) da_nil)))) da_nil)))))))))))) ?_
  · exact FCnd.mono
  · exact FCnd.len
  · rintro ds μ Q E ⟨S, ns, k, rest, rfl, hk, hl, hs, ok, tl, okr, rfl, z⟩
    have sz := sizeLine_eq
    have pw0 : 2 ^ (k + 1) = 2 * 2 ^ k := by rw [Nat.pow_succ]; omega
    have pw1 : 1 ≤ 2 ^ k := Nat.one_le_two_pow
    have pwn : 2 ^ (k + 1) ≤ 2 ^ (n + 1) := Nat.pow_le_pow_right (by decide) (by omega)
    rw [pw0] at z
    rw [pw0] at pwn
    have t0 := ok.t0
    refine ⟨_, rfl, S, 9, rest, rfl, by decide, by decide, ok, by omega, rfl, fun r S1 r0 r1 ok1 t1 => ?_⟩
    obtain ⟨p, hp, sh, ev⟩ := nil_eqv (μ := S1.sto rest) hs
    refine ⟨_, rfl, by show 0 ≤ sizeLine; omega, p, .list [], hp, rfl, sh, rfl, _, rfl, ?_⟩
    have leaf : ∀ (S1 : Dr), S1.ok → S1.t = S.t + 1 → ∀ (r : Int) (S2 : Dr), 0 ≤ r → r < 2 → S2.ok → S2.t = S1.t + 1 → ∃ ds i d, asS (S2.sto rest) (.lst [.tup [.str ("always" : Str)], .tup [.str ("never" : Str)]]) = some ds ∧ D.int r = .int i ∧ atI ds i = some d ∧ Q d (S2.sto rest) := fun S1 ok1 t1 r S2 r0 r1 ok2 t2 => by
      have : r = 0 ∨ r = 1 := by omega
      rcases this with rfl | rfl
      · exact ⟨_, 0, _, rfl, rfl, rfl, z .al S2 trivial (Nat.zero_le _) (fun _ h => nomatch h) ok2 (by omega) (by omega)⟩
      · exact ⟨_, 1, _, rfl, rfl, rfl, z .nv S2 trivial (Nat.zero_le _) (fun _ h => nomatch h) ok2 (by omega) (by omega)⟩
    rw [ev]
    refine ite_c (fun he => ?_) (fun he => ?_)
    · refine ⟨by show 1 ≤ sizeLine; omega, by show 1 ≤ sizeLine; omega, by show 2 ≤ sizeLine; omega, _, rfl, S1, 2, rest, rfl, by decide, by decide, ok1, by omega, rfl, fun r2 S2 r20 r21 ok2 t2 => ?_⟩
      obtain ⟨ds, i, d, h1, h2, h3, h4⟩ := leaf S1 ok1 t1 r2 S2 r20 r21 ok2 t2
      exact ⟨ds, i, d, h1, h2, h3, _, _, .refl, h4⟩
    · have hne : ns.map D.str ≠ [] := by
        intro e
        rw [List.map_eq_nil_iff] at e
        rw [e] at he
        cases he
      refine ⟨_, rfl, _, _, rfl, rfl, _, rfl, ite_b (fun h => ?_) (fun h => ?_)⟩
      · refine ⟨by show 1 ≤ sizeLine; omega, by show 1 ≤ sizeLine; omega, by show 2 ≤ sizeLine; omega, _, rfl, S1, 2, rest, rfl, by decide, by decide, ok1, by omega, rfl, fun r2 S2 r20 r21 ok2 t2 => ?_⟩
        obtain ⟨ds, i, d, h1, h2, h3, h4⟩ := leaf S1 ok1 t1 r2 S2 r20 r21 ok2 t2
        exact ⟨ds, i, d, h1, h2, h3, _, _, .refl, h4⟩
      · refine ⟨_, rfl, _, _, rfl, rfl, _, rfl, ?_⟩
        have picks : ∀ (x : D), x ∈ ns.map D.str → ∃ s, x = .str s ∧ s ∈ ns := fun x hx => by
          obtain ⟨s, hs', rfl⟩ := List.mem_map.mp hx
          exact ⟨s, rfl, hs'⟩
        refine ite_b (fun hd => ?_) (fun hd => ?_)
        · refine ⟨_, rfl, _, rfl, S1, ns.map .str, rest, rfl, hne, by rw [List.length_map]; omega, ok1, by omega, rfl, fun x S2 hx ok2 t2 => ?_⟩
          obtain ⟨s, rfl, hs'⟩ := picks x hx
          refine ⟨_, rfl, S2, 2, rest, rfl, by decide, by decide, ok2, by omega, rfl, fun r3 S3 r30 r31 ok3 t3 => ⟨_, _, rfl, rfl, _, rfl, ite_b (fun h4 => ?_) (fun h4 => ?_)⟩⟩
          · exact ⟨_, rfl, by show 2 ≤ sizeLine; omega, _, _, .refl, z (.is s) S3 (hs s hs') (Nat.zero_le _) (fun y hy => (List.mem_singleton.mp hy) ▸ hs') ok3 (by omega) (by omega)⟩
          · exact ⟨_, rfl, by show 2 ≤ sizeLine; omega, by show 2 ≤ sizeLine; omega, _, _, .refl, z (.no (.is s)) S3 (hs s hs') (by show 0 + 1 ≤ _; omega) (fun y hy => (List.mem_singleton.mp hy) ▸ hs') ok3 (by omega) (by omega)⟩
        · refine ⟨_, rfl, _, rfl, ite_b (fun hw => ?_) (fun hw => ?_)⟩
          · refine ⟨_, rfl, _, rfl, S1, ns.map .str, rest, rfl, hne, by rw [List.length_map]; omega, ok1, by omega, rfl, fun x S2 hx ok2 t2 => ?_⟩
            obtain ⟨s, rfl, hs'⟩ := picks x hx
            refine ⟨_, rfl, S2, 2, rest, rfl, by decide, by decide, ok2, by omega, rfl, fun r3 S3 r30 r31 ok3 t3 => ⟨_, _, rfl, rfl, _, rfl, ite_b (fun h4 => ?_) (fun h4 => ?_)⟩⟩
            · exact ⟨_, rfl, by show 2 ≤ sizeLine; omega, _, _, .refl, z (.is s) S3 (hs s hs') (Nat.zero_le _) (fun y hy => (List.mem_singleton.mp hy) ▸ hs') ok3 (by omega) (by omega)⟩
            · exact ⟨_, rfl, by show 2 ≤ sizeLine; omega, by show 2 ≤ sizeLine; omega, _, _, .refl, z (.no (.is s)) S3 (hs s hs') (by show 0 + 1 ≤ _; omega) (fun y hy => (List.mem_singleton.mp hy) ▸ hs') ok3 (by omega) (by omega)⟩
          · obtain ⟨m, rfl⟩ : ∃ m, k = m + 1 := ⟨k - 1, by omega⟩
            have hm1 : (((m + 1 : Nat) : Int) - 1) = ((m : Nat) : Int) := by omega
            have pm : 2 ^ (m + 1) ≤ 2 ^ n := Nat.pow_le_pow_right (by decide) (by omega)
            have pn2 : 2 ^ (n + 1) = 2 * 2 ^ n := by rw [Nat.pow_succ]; omega
            refine ⟨_, rfl, _, _, rfl, rfl, _, rfl, ite_b (fun h4 => ?_) (fun h4 => ?_)⟩
            · refine ⟨_, rfl, _, rfl, _, rfl, _, _, rfl, rfl, ?_⟩
              rw [hm1]
              refine ⟨S1, ns, m, rest, rfl, by omega, hl, hs, ok1, by omega, okr, rfl, fun t S2 ht dt nt ok2 t2 t2' => ?_⟩
              exact ⟨by show 2 ≤ sizeLine; omega, _, _, .refl, z (.no t) S2 ht (by show t.dep + 1 ≤ _; omega) nt ok2 (by omega) (by omega)⟩
            · refine ⟨_, rfl, _, rfl, _, rfl, _, _, rfl, rfl, ?_⟩
              rw [hm1]
              refine ⟨S1, ns, m, rest, rfl, by omega, hl, hs, ok1, by omega, okr, rfl, fun t S2 ht dt nt ok2 t2 t2' => ?_⟩
              have hr2 : r % 2 = 0 ∨ r % 2 = 1 := by omega
              refine ⟨by show 2 ≤ sizeLine; omega, _, rfl, _, _, rfl, rfl, by decide, ?_⟩
              rcases hr2 with e | e
              · rw [e]
                refine ⟨_, 0, _, rfl, rfl, rfl, _, rfl, _, rfl, _, rfl, _, rfl, _, _, rfl, rfl, ?_⟩
                rw [hm1]
                refine ⟨S2, ns, m, rest, rfl, by omega, hl, hs, ok2, by omega, okr, rfl, fun u S3 hu du nu ok3 t3 t3' => ?_⟩
                exact ⟨by show 3 ≤ sizeLine; omega, _, _, .refl, z (.an t u) S3 ⟨ht, hu⟩ (by show max t.dep u.dep + 1 ≤ _; omega) (fun y hy => (List.mem_append.mp hy).elim (nt y) (nu y)) ok3 (by omega) (by omega)⟩
              · rw [e]
                refine ⟨_, 1, _, rfl, rfl, rfl, _, rfl, _, rfl, _, rfl, _, rfl, _, _, rfl, rfl, ?_⟩
                rw [hm1]
                refine ⟨S2, ns, m, rest, rfl, by omega, hl, hs, ok2, by omega, okr, rfl, fun u S3 hu du nu ok3 t3 t3' => ?_⟩
                exact ⟨by show 3 ≤ sizeLine; omega, _, _, .refl, z (.or t u) S3 ⟨ht, hu⟩ (by show max t.dep u.dep + 1 ≤ _; omega) (fun y hy => (List.mem_append.mp hy).elim (nt y) (nu y)) ok3 (by omega) (by omega)⟩
theorem ite_t {p : Prop} [Decidable p] {a b : Prop} (hp : p) (ha : a) : if decide p = true then a else b := by rw [if_pos (decide_eq_true hp)]; exact ha
theorem ite_f {p : Prop} [Decidable p] {a b : Prop} (hp : ¬ p) (hb : b) : if decide p = true then a else b := by rw [if_neg (by simp [hp])]; exact hb

abbrev sBlt : Stmt := top 29
abbrev nBlt : List Str := ["_law_tree"]
theorem scBlt : FnScope nBlt ["_law_tree"] (defScope sBlt) := ⟨rfl, rfl, rfl, by decide +kernel, rfl, by decide +kernel, by decide +kernel⟩
inductive FBlt (C_Condition : Addr) (n : Nat) (ds : List D) (μ : Sto) (Q : QD) (E : XD) : Prop
  | mk (t : Tr) (a1 : ds = [t.d]) (a2 : t.ok) (a3 : t.dep < n) (a4 : t.dep ≤ 8) (a5 : bdS μ.length μ = true) (a6 : Q (Dl.cD C_Condition t.words) μ) : FBlt C_Condition n ds μ Q E
theorem FBlt.mono {C_Condition : Addr} {n : Nat} : MonF (FBlt C_Condition n) := fun ds μ Q Q' E E' h he q => match q with | .mk t a1 a2 a3 a4 a5 a6 => .mk t a1 a2 a3 a4 a5 (h _ _ a6)
theorem FBlt.len {C_Condition : Addr} {n : Nat} : ∀ ds μ Q E, FBlt C_Condition n ds μ Q E → ds.length = 1 := fun ds μ Q E q => by obtain ⟨_, e, _, _, _, _, _⟩ := q; rw [e]; rfl
theorem cal_blt (n : Nat) (hm_Condition : mg "Condition" = some (.ref C_Condition)) (isC_Condition : IsC K C_Condition) (sf_Condition : PySem.W.selfFirst K C_Condition = true) (cOf : Sta P w K mg base 4 C_Condition "of" (FOf C_Condition C_BadName) []) (cAl : Sta P w K mg base 3 C_Condition "always" (FCon C_Condition ("always" : Str)) []) (cNv : Sta P w K mg base 3 C_Condition "never" (FCon C_Condition ("never" : Str)) [])
    (cAnd : Met P w K mg base 3 C_Condition "__and__" (FBin C_Condition ("and" : Str)) []) (cOr : Met P w K mg base 3 C_Condition "__or__" (FBin C_Condition ("or" : Str)) []) (cInv : Met P w K mg base 3 C_Condition "__invert__" (FInv C_Condition) [])
    (cB : Cal P w K mg base (n + 4) "_law_built" (FBlt C_Condition n) []) {f : Addr} {fd : FuncData} {qual : Str} (T : NoB mg) (Fu : Fun K "_law_built" qual sBlt f fd) (hm : mg "_law_built" = some (.ref f)) (hk : PySem.W.keepIn K (.ref f) = true) (hb : L2.Binds K fd ["_law_tree"] []) : Cal P w K mg base (n + 5) "_law_built" (FBlt C_Condition (n + 1)) [] := by
  have nd := scBlt.nd
  refine cal_fun Fu scBlt hm hk hb ?_ ?_ (fun cdv A outer s H E hG hr =>
    have hu : (cxOf (L2.CX P w) P w K mg base nBlt qual (defScope sBlt) f cdv A outer s H E).A.units + 64 < cLine := by have := hr.un; show (A.deeper _).units + 64 < _; omega
    have hv : (cxOf (L2.CX P w) P w K mg base nBlt qual (defScope sBlt) f cdv A outer s H E).A.units + 1 < cLine := by omega
    have tk := takes_of (X := cxOf (L2.CX P w) P w K mg base nBlt qual (defScope sBlt) f cdv A outer s H E) (E := E) rfl rfl rfl rfl
    have pw := passes_of (X := cxOf (L2.CX P w) P w K mg base nBlt qual (defScope sBlt) f cdv A outer s H E) rfl
    (ds_cons (ds_if (dt_cmp opd_eqS (de_ixL (de_var 0 rfl) de_int) de_str) (ds_one (ds_ret (de_stat cOf hm_Condition hG hr (by omega) (by rfl) tk (da_cons (de_ixL (de_var 0 rfl) de_int) da_nil)))) ds_nil)
      (ds_cons (ds_if (dt_cmp opd_eqS (de_ixL (de_var 0 rfl) de_int) de_str) (ds_one (ds_ret (de_inv cInv hG hr (by omega) (de_call cB hG hr (by omega) (by rfl) tk (da_cons (de_ixL (de_var 0 rfl) de_int) da_nil))))) ds_nil)
      (ds_cons (ds_if (dt_cmp opd_eqS (de_ixL (de_var 0 rfl) de_int) de_str) (ds_one (ds_ret (de_op (opd_bin isC_Condition sf_Condition cAnd hG hr (by omega)) (de_call cB hG hr (by omega) (by rfl) tk (da_cons (de_ixL (de_var 0 rfl) de_int) da_nil)) (de_call cB hG hr (by omega) (by rfl) tk (da_cons (de_ixL (de_var 0 rfl) de_int) da_nil))))) ds_nil)
      (ds_cons (ds_if (dt_cmp opd_eqS (de_ixL (de_var 0 rfl) de_int) de_str) (ds_one (ds_ret (de_op (opd_bin isC_Condition sf_Condition cOr hG hr (by omega)) (de_call cB hG hr (by omega) (by rfl) tk (da_cons (de_ixL (de_var 0 rfl) de_int) da_nil)) (de_call cB hG hr (by omega) (by rfl) tk (da_cons (de_ixL (de_var 0 rfl) de_int) da_nil))))) ds_nil)
      (ds_one (ds_ret (de_ifx (dt_cmp opd_eqS (de_ixL (de_var 0 rfl) de_int) de_str) (de_stat0 cAl hm_Condition hG hr (by omega) (by rfl) tk) (de_stat0 cNv hm_Condition hG hr (by omega) (by rfl) tk))))))))) ?_
  · exact FBlt.mono
  · exact FBlt.len
  · rintro ds μ Q E ⟨t, rfl, ht, hd, h8, hb', z⟩
    have sz := sizeLine_eq
    cases t with
    | is s =>
      refine ⟨_, rfl, _, 0, _, rfl, rfl, rfl, _, _, rfl, rfl, _, rfl, ite_t rfl ?_⟩
      exact ⟨_, rfl, _, 1, _, rfl, rfl, rfl, s, rfl, asc_name ht, Nat.le_trans ht.len (by decide), hb', fun _ => ⟨_, _, .refl, z⟩, fun h => absurd h (by rw [NameOk.nameB ht]; simp)⟩
    | al =>
      refine ⟨_, rfl, _, 0, _, rfl, rfl, rfl, _, _, rfl, rfl, _, rfl, ite_f (by decide +kernel) ?_⟩
      refine ⟨_, rfl, _, 0, _, rfl, rfl, rfl, _, _, rfl, rfl, _, rfl, ite_f (by decide +kernel) ?_⟩
      refine ⟨_, rfl, _, 0, _, rfl, rfl, rfl, _, _, rfl, rfl, _, rfl, ite_f (by decide +kernel) ?_⟩
      refine ⟨_, rfl, _, 0, _, rfl, rfl, rfl, _, _, rfl, rfl, _, rfl, ite_f (by decide +kernel) ?_⟩
      exact ⟨_, rfl, _, 0, _, rfl, rfl, rfl, _, _, rfl, rfl, _, rfl, ite_t rfl ⟨rfl, hb', _, _, .refl, z⟩⟩
    | nv =>
      refine ⟨_, rfl, _, 0, _, rfl, rfl, rfl, _, _, rfl, rfl, _, rfl, ite_f (by decide +kernel) ?_⟩
      refine ⟨_, rfl, _, 0, _, rfl, rfl, rfl, _, _, rfl, rfl, _, rfl, ite_f (by decide +kernel) ?_⟩
      refine ⟨_, rfl, _, 0, _, rfl, rfl, rfl, _, _, rfl, rfl, _, rfl, ite_f (by decide +kernel) ?_⟩
      refine ⟨_, rfl, _, 0, _, rfl, rfl, rfl, _, _, rfl, rfl, _, rfl, ite_f (by decide +kernel) ?_⟩
      exact ⟨_, rfl, _, 0, _, rfl, rfl, rfl, _, _, rfl, rfl, _, rfl, ite_f (by decide +kernel) ⟨rfl, hb', _, _, .refl, z⟩⟩
    | no t =>
      have d1 : t.dep + 1 < n + 1 := hd
      have d8 : t.dep + 1 ≤ 8 := h8
      have sm := Tr.small (t := t) ht (by omega)
      refine ⟨_, rfl, _, 0, _, rfl, rfl, rfl, _, _, rfl, rfl, _, rfl, ite_f (by decide +kernel) ?_⟩
      refine ⟨_, rfl, _, 0, _, rfl, rfl, rfl, _, _, rfl, rfl, _, rfl, ite_t rfl ?_⟩
      exact ⟨_, rfl, _, 1, _, rfl, rfl, rfl, t, rfl, ht, by omega, by omega, hb', wdF t.words, rfl, t.words, rfl, by omega, hb', _, _, .refl, z⟩
    | an a b =>
      have d1 : max a.dep b.dep + 1 < n + 1 := hd
      have d8 : max a.dep b.dep + 1 ≤ 8 := h8
      have s1 := Tr.small (t := a) ht.1 (by omega)
      have s2 := Tr.small (t := b) ht.2 (by omega)
      refine ⟨_, rfl, _, 0, _, rfl, rfl, rfl, _, _, rfl, rfl, _, rfl, ite_f (by decide +kernel) ?_⟩
      refine ⟨_, rfl, _, 0, _, rfl, rfl, rfl, _, _, rfl, rfl, _, rfl, ite_f (by decide +kernel) ?_⟩
      refine ⟨_, rfl, _, 0, _, rfl, rfl, rfl, _, _, rfl, rfl, _, rfl, ite_t rfl ?_⟩
      exact ⟨_, rfl, _, 1, _, rfl, rfl, rfl, a, rfl, ht.1, by omega, by omega, hb', _, rfl, _, 2, _, rfl, rfl, rfl, b, rfl, ht.2, by omega, by omega, hb', wdF a.words, wdF b.words, rfl, rfl, a.words, b.words, rfl, by omega, hb', _, _, .refl, z⟩
    | or a b =>
      have d1 : max a.dep b.dep + 1 < n + 1 := hd
      have d8 : max a.dep b.dep + 1 ≤ 8 := h8
      have s1 := Tr.small (t := a) ht.1 (by omega)
      have s2 := Tr.small (t := b) ht.2 (by omega)
      refine ⟨_, rfl, _, 0, _, rfl, rfl, rfl, _, _, rfl, rfl, _, rfl, ite_f (by decide +kernel) ?_⟩
      refine ⟨_, rfl, _, 0, _, rfl, rfl, rfl, _, _, rfl, rfl, _, rfl, ite_f (by decide +kernel) ?_⟩
      refine ⟨_, rfl, _, 0, _, rfl, rfl, rfl, _, _, rfl, rfl, _, rfl, ite_f (by decide +kernel) ?_⟩
      refine ⟨_, rfl, _, 0, _, rfl, rfl, rfl, _, _, rfl, rfl, _, rfl, ite_t rfl ?_⟩
      exact ⟨_, rfl, _, 1, _, rfl, rfl, rfl, a, rfl, ht.1, by omega, by omega, hb', _, rfl, _, 2, _, rfl, rfl, rfl, b, rfl, ht.2, by omega, by omega, hb', wdF a.words, wdF b.words, rfl, rfl, a.words, b.words, rfl, by omega, hb', _, _, .refl, z⟩
end
end Dl

namespace Dl
open PySem PySem.Spec L2
open PyProof.Rows hiding St Binds
section
variable {P : Program} {w : World} {K : PySem.W.Frag} {mg : Str → Option Value} {base : Heap} {C_Condition C_BadName : Addr}
/-! ### all sets of names, as k04's law lists them -/
def setA (l : List (List Str)) (n : Str) : List (List Str) := l ++ l.map (· ++ [n])
def setsL (ns : List Str) : List (List Str) := ns.foldl setA [[]]
abbrev seD (l : List (List Str)) : List D := l.map fun s => D.lst (s.map .str)
theorem setsL_snoc (ns : List Str) (n : Str) : setsL (ns ++ [n]) = setA (setsL ns) n := by unfold setsL; rw [List.foldl_append]; rfl
theorem foldA_len : ∀ (ns : List Str) (l : List (List Str)), (ns.foldl setA l).length = l.length * 2 ^ ns.length
  | [], l => by simp
  | n :: ns, l => by
    rw [List.foldl_cons, foldA_len ns]
    have : (setA l n).length = l.length * 2 := by unfold setA; rw [List.length_append, List.length_map]; omega
    rw [this, List.length_cons, Nat.pow_succ, Nat.mul_assoc, Nat.mul_comm 2]
theorem setsL_len (ns : List Str) : (setsL ns).length = 2 ^ ns.length := by unfold setsL; rw [foldA_len]; simp
/-- each set is a part of the names, and each choice of names is one of the sets -/
theorem foldA_mem : ∀ (ns : List Str) (l : List (List Str)) {s : List Str}, s ∈ ns.foldl setA l ↔ ∃ a ∈ l, ∃ b, b.Sublist ns ∧ s = a ++ b
  | [], l, s => by
    refine ⟨fun h => ⟨s, h, [], .slnil, by simp⟩, fun ⟨a, ha, b, hb, e⟩ => ?_⟩
    cases hb
    rw [List.append_nil] at e
    rw [e]; exact ha
  | n :: ns, l, s => by
    rw [List.foldl_cons, foldA_mem ns]
    constructor
    · rintro ⟨a, ha, b, hb, e⟩
      rcases List.mem_append.mp ha with h | h
      · exact ⟨a, h, b, hb.cons n, e⟩
      · obtain ⟨c, hc, rfl⟩ := List.mem_map.mp h
        exact ⟨c, hc, n :: b, hb.cons_cons n, by rw [e, List.append_assoc]; rfl⟩
    · rintro ⟨a, ha, b, hb, e⟩
      cases hb with
      | cons _ h => exact ⟨a, List.mem_append_left _ ha, b, h, e⟩
      | cons_cons _ h => exact ⟨a ++ [n], List.mem_append_right _ (List.mem_map.mpr ⟨a, ha, rfl⟩), _, h, by rw [e, List.append_assoc]; rfl⟩
theorem setsL_mem {ns s : List Str} : s ∈ setsL ns ↔ s.Sublist ns := by
  unfold setsL
  rw [foldA_mem]
  exact ⟨fun ⟨a, ha, b, hb, e⟩ => by rw [List.mem_singleton.mp ha] at e; rw [e]; exact hb, fun h => ⟨[], by simp, s, h, rfl⟩⟩
/-- what holds for each listed set holds for each choice -/
theorem sets_all {ns : List Str} {t u : Tr} (ht : ∀ s ∈ t.nms, s ∈ ns) (hu : ∀ s ∈ u.nms, s ∈ ns) {R : Bool → Bool → Prop} : (∀ s ∈ setsL ns, R (t.hold fun n => decide (n ∈ s)) (u.hold fun n => decide (n ∈ s))) ↔ ∀ g : Str → Bool, R (t.hold g) (u.hold g) := by
  constructor
  · intro h g
    have hm : ns.filter g ∈ setsL ns := setsL_mem.mpr List.filter_sublist
    have := h _ hm
    rwa [Tr.hold_congr (S := fun n => decide (n ∈ ns.filter g)) (S' := g) (t := t) fun s m => ?_, Tr.hold_congr (S := fun n => decide (n ∈ ns.filter g)) (S' := g) (t := u) fun s m => ?_] at this
    · have : (s ∈ ns.filter g) ↔ g s = true := by rw [List.mem_filter]; exact ⟨fun h => h.2, fun h => ⟨hu s m, h⟩⟩
      cases e : g s
      · exact decide_eq_false fun h => by rw [this, e] at h; cases h
      · exact decide_eq_true (this.mpr e)
    · have : (s ∈ ns.filter g) ↔ g s = true := by rw [List.mem_filter]; exact ⟨fun h => h.2, fun h => ⟨ht s m, h⟩⟩
      cases e : g s
      · exact decide_eq_false fun h => by rw [this, e] at h; cases h
      · exact decide_eq_true (this.mpr e)
  · intro h s _
    exact h _
def pSt (n : Str) : D → Option D
  | .lst xs => some (.lst (xs ++ [.str n]))
  | _ => none
theorem pSt_map (n : Str) : ∀ l : List (List Str), (seD l).filterMap (pSt n) = seD (l.map (· ++ [n]))
  | [] => rfl
  | s :: l => by
    show D.lst (s.map D.str ++ [.str n]) :: (seD l).filterMap (pSt n) = _
    rw [pSt_map n l]
    show _ = D.lst ((s ++ [n]).map D.str) :: _
    rw [List.map_append]; rfl
theorem seD_bd {l : List (List Str)} {n : Nat} : bdL n (seD l) = true := bdL_all.mpr fun d hd => by
  obtain ⟨s, _, rfl⟩ := List.mem_map.mp hd
  exact bdL_strs _
abbrev sLSt : Stmt := top 33
abbrev nLSt : List Str := ["_law_names_here", "_law_found", "_law_name_here", "_law_some"]
theorem scLSt : FnScope nLSt ["_law_names_here"] (defScope sLSt) := ⟨rfl, rfl, rfl, by decide +kernel, rfl, by decide +kernel, by decide +kernel⟩
inductive FLSt (ds : List D) (μ : Sto) (Q : QD) (E : XD) : Prop
  | mk (ns : List Str) (a1 : ds = [.lst (ns.map .str)]) (a2 : ns.length ≤ 7) (a3 : bdS μ.length μ = true) (a4 : Q (.lst (seD (setsL ns))) μ) : FLSt ds μ Q E
theorem FLSt.mono  : MonF (FLSt) := fun ds μ Q Q' E E' h he q => match q with | .mk ns a1 a2 a3 a4 => .mk ns a1 a2 a3 (h _ _ a4)
theorem FLSt.len  : ∀ ds μ Q E, FLSt ds μ Q E → ds.length = 1 := fun ds μ Q E q => by obtain ⟨_, e, _, _, _⟩ := q; rw [e]; rfl
theorem cal_lst {f : Addr} {fd : FuncData} {qual : Str} (T : NoB mg) (Fu : Fun K "_law_sets" qual sLSt f fd) (hm : mg "_law_sets" = some (.ref f)) (hk : PySem.W.keepIn K (.ref f) = true) (hb : L2.Binds K fd ["_law_names_here"] []) : Cal P w K mg base 1 "_law_sets" FLSt [] := by
  have nd := scLSt.nd
  refine cal_fun Fu scLSt hm hk hb ?_ ?_ (fun cdv A outer s H E hG hr =>
    have hu : (cxOf (L2.CX P w) P w K mg base nLSt qual (defScope sLSt) f cdv A outer s H E).A.units + 64 < cLine := by have := hr.un; show (A.deeper _).units + 64 < _; omega
    have hv : (cxOf (L2.CX P w) P w K mg base nLSt qual (defScope sLSt) f cdv A outer s H E).A.units + 1 < cLine := by omega
    have tk := takes_of (X := cxOf (L2.CX P w) P w K mg base nLSt qual (defScope sLSt) f cdv A outer s H E) (E := E) rfl rfl rfl rfl
    have pw := passes_of (X := cxOf (L2.CX P w) P w K mg base nLSt qual (defScope sLSt) f cdv A outer s H E) rfl
    (ds_cons (ds_set (i := 1) nd rfl (by first | exact .inl rfl | exact .inr rfl) (de_lstD (da_cons (de_lstD da_nil) da_nil)))
      (ds_cons (ds_for pw rfl (di_seq (de_var 0 rfl)) (dg_name (i := 2) nd rfl (by first | exact .inl rfl | exact .inr rfl)) (ds_one (ds_set (i := 1) nd rfl (by first | exact .inl rfl | exact .inr rfl) (de_op opd_catD (de_var 1 rfl) (de_lc (own := [("_law_some", 3)]) rfl nd (di_seq (de_var 1 rfl)) (blkOk_by (N := nLSt) (sc := defScope sLSt) (by decide +kernel)) (fun _ _ _ _ _ => (dgw_name (i := 3) nd rfl (Or.inl rfl) (by decide))) (fun _ _ _ _ _ => dts_nil) (fun _ _ _ _ _ => (de_op opd_catD (de_var 3 rfl) (de_lstD (da_cons (de_var 2 rfl) da_nil)))))))))
      (ds_one (ds_ret (de_var 1 rfl)))))) ?_
  · exact FLSt.mono
  · exact FLSt.len
  · rintro ds μ Q E ⟨ns, rfl, hl, hb', z⟩
    have sz := sizeLine_eq
    refine ⟨by show 0 ≤ sizeLine; omega, by show 1 ≤ sizeLine; omega, ?_⟩
    refine ⟨_, rfl, ns.map .str, rfl, fun i ρ' μ' => ∃ v2 v3 : Option D, ρ' = [some (.lst (ns.map .str)), some (.lst (seD (setsL (ns.take i)))), v2, v3] ∧ μ' = μ, ⟨_, _, rfl, rfl⟩, fun _ _ _ _ => rfl, ?_, ?_⟩
    · rintro i x ρ' μ' hx ⟨v2, v3, rfl, rfl⟩
      rw [List.getElem?_map] at hx
      obtain ⟨n, hn, rfl⟩ := Option.map_eq_some_iff.mp hx
      have hi : i < 7 := by have := (List.getElem?_eq_some_iff.mp hn).1; omega
      have ll : (setsL (ns.take i)).length ≤ 128 := by
        rw [setsL_len, List.length_take]
        exact Nat.le_trans (Nat.pow_le_pow_right (by decide) (Nat.le_trans (Nat.min_le_left _ _) (Nat.le_of_lt hi))) (by decide)
      have sl : ∀ s ∈ setsL (ns.take i), s.length ≤ 7 := fun s hs => by
        have := (setsL_mem.mp hs).length_le
        rw [List.length_take] at this; omega
      refine ⟨_, rfl, _, rfl, seD (setsL (ns.take i)), rfl, lc_pure (pSt n) (fun _ => rfl) (fun x hx acc NX N0 n1 n2 => ?_) (by rw [List.length_map]; omega) (by rw [pSt_map]; exact seD_bd) hb' ?_⟩
      · obtain ⟨s, hs, rfl⟩ := List.mem_map.mp hx
        have := sl s hs
        exact ⟨_, rfl, _, rfl, by show 1 ≤ sizeLine; omega, s.map .str, [.str n], rfl, rfl, by rw [List.length_append, List.length_map]; show _ + 1 ≤ _; omega, n1 _ rfl⟩
      · rw [pSt_map]
        refine ⟨seD (setsL (ns.take i)), seD ((setsL (ns.take i)).map (· ++ [n])), rfl, rfl, by rw [List.length_append, List.length_map, List.length_map, List.length_map]; omega, ?_⟩
        have ht : ns.take (i + 1) = ns.take i ++ [n] := by rw [List.take_add_one, hn]; rfl
        refine ⟨some (.str n), v3, ?_, rfl⟩
        rw [ht, setsL_snoc]
        have ea : seD (setA (setsL (ns.take i)) n) = seD (setsL (ns.take i)) ++ seD ((setsL (ns.take i)).map (· ++ [n])) := List.map_append
        rw [ea]; rfl
    · rintro ρ' μ' ⟨v2, v3, rfl, rfl⟩
      refine ⟨_, rfl, _, _, .refl, ?_⟩
      rw [List.length_map, List.take_length]
      exact z

end
end Dl

namespace Dl
open PySem PySem.Spec L2
open PyProof.Rows hiding St Binds
section
variable {P : Program} {w : World} {K : PySem.W.Frag} {mg : Str → Option Value} {base : Heap} {C_Condition C_BadName : Addr}
/-- the same for deep trees of few words -/
inductive FBlS (C_Condition : Addr) (n : Nat) (ds : List D) (μ : Sto) (Q : QD) (E : XD) : Prop
  | mk (t : Tr) (a1 : ds = [t.d]) (a2 : t.ok) (a3 : t.dep < n) (a4 : t.words.length ≤ 900) (a5 : bdS μ.length μ = true) (a6 : Q (Dl.cD C_Condition t.words) μ) : FBlS C_Condition n ds μ Q E
theorem FBlS.mono {C_Condition : Addr} {n : Nat} : MonF (FBlS C_Condition n) := fun ds μ Q Q' E E' h he q => match q with | .mk t a1 a2 a3 a4 a5 a6 => .mk t a1 a2 a3 a4 a5 (h _ _ a6)
theorem FBlS.len {C_Condition : Addr} {n : Nat} : ∀ ds μ Q E, FBlS C_Condition n ds μ Q E → ds.length = 1 := fun ds μ Q E q => by obtain ⟨_, e, _, _, _, _, _⟩ := q; rw [e]; rfl
theorem cal_bls (n : Nat) (hm_Condition : mg "Condition" = some (.ref C_Condition)) (isC_Condition : IsC K C_Condition) (sf_Condition : PySem.W.selfFirst K C_Condition = true) (cOf : Sta P w K mg base 4 C_Condition "of" (FOf C_Condition C_BadName) []) (cAl : Sta P w K mg base 3 C_Condition "always" (FCon C_Condition ("always" : Str)) []) (cNv : Sta P w K mg base 3 C_Condition "never" (FCon C_Condition ("never" : Str)) [])
    (cAnd : Met P w K mg base 3 C_Condition "__and__" (FBin C_Condition ("and" : Str)) []) (cOr : Met P w K mg base 3 C_Condition "__or__" (FBin C_Condition ("or" : Str)) []) (cInv : Met P w K mg base 3 C_Condition "__invert__" (FInv C_Condition) [])
    (cBS : Cal P w K mg base (n + 4) "_law_built" (FBlS C_Condition n) []) {f : Addr} {fd : FuncData} {qual : Str} (T : NoB mg) (Fu : Fun K "_law_built" qual sBlt f fd) (hm : mg "_law_built" = some (.ref f)) (hk : PySem.W.keepIn K (.ref f) = true) (hb : L2.Binds K fd ["_law_tree"] []) : Cal P w K mg base (n + 5) "_law_built" (FBlS C_Condition (n + 1)) [] := by
  have nd := scBlt.nd
  refine cal_fun Fu scBlt hm hk hb ?_ ?_ (fun cdv A outer s H E hG hr =>
    have hu : (cxOf (L2.CX P w) P w K mg base nBlt qual (defScope sBlt) f cdv A outer s H E).A.units + 64 < cLine := by have := hr.un; show (A.deeper _).units + 64 < _; omega
    have hv : (cxOf (L2.CX P w) P w K mg base nBlt qual (defScope sBlt) f cdv A outer s H E).A.units + 1 < cLine := by omega
    have tk := takes_of (X := cxOf (L2.CX P w) P w K mg base nBlt qual (defScope sBlt) f cdv A outer s H E) (E := E) rfl rfl rfl rfl
    have pw := passes_of (X := cxOf (L2.CX P w) P w K mg base nBlt qual (defScope sBlt) f cdv A outer s H E) rfl
    (ds_cons (ds_if (dt_cmp opd_eqS (de_ixL (de_var 0 rfl) de_int) de_str) (ds_one (ds_ret (de_stat cOf hm_Condition hG hr (by omega) (by rfl) tk (da_cons (de_ixL (de_var 0 rfl) de_int) da_nil)))) ds_nil)
      (ds_cons (ds_if (dt_cmp opd_eqS (de_ixL (de_var 0 rfl) de_int) de_str) (ds_one (ds_ret (de_inv cInv hG hr (by omega) (de_call cBS hG hr (by omega) (by rfl) tk (da_cons (de_ixL (de_var 0 rfl) de_int) da_nil))))) ds_nil)
      (ds_cons (ds_if (dt_cmp opd_eqS (de_ixL (de_var 0 rfl) de_int) de_str) (ds_one (ds_ret (de_op (opd_bin isC_Condition sf_Condition cAnd hG hr (by omega)) (de_call cBS hG hr (by omega) (by rfl) tk (da_cons (de_ixL (de_var 0 rfl) de_int) da_nil)) (de_call cBS hG hr (by omega) (by rfl) tk (da_cons (de_ixL (de_var 0 rfl) de_int) da_nil))))) ds_nil)
      (ds_cons (ds_if (dt_cmp opd_eqS (de_ixL (de_var 0 rfl) de_int) de_str) (ds_one (ds_ret (de_op (opd_bin isC_Condition sf_Condition cOr hG hr (by omega)) (de_call cBS hG hr (by omega) (by rfl) tk (da_cons (de_ixL (de_var 0 rfl) de_int) da_nil)) (de_call cBS hG hr (by omega) (by rfl) tk (da_cons (de_ixL (de_var 0 rfl) de_int) da_nil))))) ds_nil)
      (ds_one (ds_ret (de_ifx (dt_cmp opd_eqS (de_ixL (de_var 0 rfl) de_int) de_str) (de_stat0 cAl hm_Condition hG hr (by omega) (by rfl) tk) (de_stat0 cNv hm_Condition hG hr (by omega) (by rfl) tk))))))))) ?_
  · exact FBlS.mono
  · exact FBlS.len
  · rintro ds μ Q E ⟨t, rfl, ht, hd, h8, hb', z⟩
    have sz := sizeLine_eq
    cases t with
    | is s =>
      refine ⟨_, rfl, _, 0, _, rfl, rfl, rfl, _, _, rfl, rfl, _, rfl, ite_t rfl ?_⟩
      exact ⟨_, rfl, _, 1, _, rfl, rfl, rfl, s, rfl, asc_name ht, Nat.le_trans ht.len (by decide), hb', fun _ => ⟨_, _, .refl, z⟩, fun h => absurd h (by rw [NameOk.nameB ht]; simp)⟩
    | al =>
      refine ⟨_, rfl, _, 0, _, rfl, rfl, rfl, _, _, rfl, rfl, _, rfl, ite_f (by decide +kernel) ?_⟩
      refine ⟨_, rfl, _, 0, _, rfl, rfl, rfl, _, _, rfl, rfl, _, rfl, ite_f (by decide +kernel) ?_⟩
      refine ⟨_, rfl, _, 0, _, rfl, rfl, rfl, _, _, rfl, rfl, _, rfl, ite_f (by decide +kernel) ?_⟩
      refine ⟨_, rfl, _, 0, _, rfl, rfl, rfl, _, _, rfl, rfl, _, rfl, ite_f (by decide +kernel) ?_⟩
      exact ⟨_, rfl, _, 0, _, rfl, rfl, rfl, _, _, rfl, rfl, _, rfl, ite_t rfl ⟨rfl, hb', _, _, .refl, z⟩⟩
    | nv =>
      refine ⟨_, rfl, _, 0, _, rfl, rfl, rfl, _, _, rfl, rfl, _, rfl, ite_f (by decide +kernel) ?_⟩
      refine ⟨_, rfl, _, 0, _, rfl, rfl, rfl, _, _, rfl, rfl, _, rfl, ite_f (by decide +kernel) ?_⟩
      refine ⟨_, rfl, _, 0, _, rfl, rfl, rfl, _, _, rfl, rfl, _, rfl, ite_f (by decide +kernel) ?_⟩
      refine ⟨_, rfl, _, 0, _, rfl, rfl, rfl, _, _, rfl, rfl, _, rfl, ite_f (by decide +kernel) ?_⟩
      exact ⟨_, rfl, _, 0, _, rfl, rfl, rfl, _, _, rfl, rfl, _, rfl, ite_f (by decide +kernel) ⟨rfl, hb', _, _, .refl, z⟩⟩
    | no t =>
      have d1 : t.dep + 1 < n + 1 := hd
      have d8 : (t.words ++ [("not" : Str)]).length ≤ 900 := h8
      rw [List.length_append] at d8
      have d8 : t.words.length + 1 ≤ 900 := d8
      refine ⟨_, rfl, _, 0, _, rfl, rfl, rfl, _, _, rfl, rfl, _, rfl, ite_f (by decide +kernel) ?_⟩
      refine ⟨_, rfl, _, 0, _, rfl, rfl, rfl, _, _, rfl, rfl, _, rfl, ite_t rfl ?_⟩
      exact ⟨_, rfl, _, 1, _, rfl, rfl, rfl, t, rfl, ht, by omega, by omega, hb', wdF t.words, rfl, t.words, rfl, by omega, hb', _, _, .refl, z⟩
    | an a b =>
      have d1 : max a.dep b.dep + 1 < n + 1 := hd
      have d8 : (a.words ++ b.words ++ [("and" : Str)]).length ≤ 900 := h8
      rw [List.length_append, List.length_append] at d8
      have d8 : a.words.length + b.words.length + 1 ≤ 900 := d8
      refine ⟨_, rfl, _, 0, _, rfl, rfl, rfl, _, _, rfl, rfl, _, rfl, ite_f (by decide +kernel) ?_⟩
      refine ⟨_, rfl, _, 0, _, rfl, rfl, rfl, _, _, rfl, rfl, _, rfl, ite_f (by decide +kernel) ?_⟩
      refine ⟨_, rfl, _, 0, _, rfl, rfl, rfl, _, _, rfl, rfl, _, rfl, ite_t rfl ?_⟩
      exact ⟨_, rfl, _, 1, _, rfl, rfl, rfl, a, rfl, ht.1, by omega, by omega, hb', _, rfl, _, 2, _, rfl, rfl, rfl, b, rfl, ht.2, by omega, by omega, hb', wdF a.words, wdF b.words, rfl, rfl, a.words, b.words, rfl, by omega, hb', _, _, .refl, z⟩
    | or a b =>
      have d1 : max a.dep b.dep + 1 < n + 1 := hd
      have d8 : (a.words ++ b.words ++ [("or" : Str)]).length ≤ 900 := h8
      rw [List.length_append, List.length_append] at d8
      have d8 : a.words.length + b.words.length + 1 ≤ 900 := d8
      refine ⟨_, rfl, _, 0, _, rfl, rfl, rfl, _, _, rfl, rfl, _, rfl, ite_f (by decide +kernel) ?_⟩
      refine ⟨_, rfl, _, 0, _, rfl, rfl, rfl, _, _, rfl, rfl, _, rfl, ite_f (by decide +kernel) ?_⟩
      refine ⟨_, rfl, _, 0, _, rfl, rfl, rfl, _, _, rfl, rfl, _, rfl, ite_f (by decide +kernel) ?_⟩
      refine ⟨_, rfl, _, 0, _, rfl, rfl, rfl, _, _, rfl, rfl, _, rfl, ite_t rfl ?_⟩
      exact ⟨_, rfl, _, 1, _, rfl, rfl, rfl, a, rfl, ht.1, by omega, by omega, hb', _, rfl, _, 2, _, rfl, rfl, rfl, b, rfl, ht.2, by omega, by omega, hb', wdF a.words, wdF b.words, rfl, rfl, a.words, b.words, rfl, by omega, hb', _, _, .refl, z⟩
end
end Dl

namespace Dl
open PySem PySem.Spec L2
open PyProof.Rows hiding St Binds
section
variable {P : Program} {w : World} {K : PySem.W.Frag} {mg : Str → Option Value} {base : Heap} {C_Condition C_BadName : Addr}


abbrev sLTx : Stmt := top 30
abbrev nLTx : List Str := ["_law_tree"]
theorem scLTx : FnScope nLTx ["_law_tree"] (defScope sLTx) := ⟨rfl, rfl, rfl, by decide +kernel, rfl, by decide +kernel, by decide +kernel⟩
/-- some text, not too long -/
inductive FLTx (n : Nat) (ds : List D) (μ : Sto) (Q : QD) (E : XD) : Prop
  | mk (t : Tr) (a1 : ds = [t.d]) (a2 : t.ok) (a3 : t.dep < n) (a4 : t.size ≤ 1000) (a5 : ∀ s : Str, s.length ≤ 12 * t.size → Q (.str s) μ) : FLTx n ds μ Q E
theorem FLTx.mono {n : Nat} : MonF (FLTx n) := fun ds μ Q Q' E E' h he q => match q with | .mk t a1 a2 a3 a4 a5 => .mk t a1 a2 a3 a4 (by intros; apply h; apply a5 <;> assumption)
theorem FLTx.len {n : Nat} : ∀ ds μ Q E, FLTx n ds μ Q E → ds.length = 1 := fun ds μ Q E q => by obtain ⟨_, e, _, _, _, _⟩ := q; rw [e]; rfl
abbrev sLWr : Stmt := top 31
abbrev nLWr : List Str := ["_law_tree", "_law_kinds"]
theorem scLWr : FnScope nLWr ["_law_tree", "_law_kinds"] (defScope sLWr) := ⟨rfl, rfl, rfl, by decide +kernel, rfl, by decide +kernel, by decide +kernel⟩
inductive FLWr (n : Nat) (ds : List D) (μ : Sto) (Q : QD) (E : XD) : Prop
  | mk (t : Tr) (ks : List Str) (a1 : ds = [t.d, .lst (ks.map .str)]) (a2 : t.ok) (a3 : t.dep < n) (a4 : t.size ≤ 1000) (a5 : ∀ s : Str, s.length ≤ 12 * t.size + 2 → Q (.str s) μ) : FLWr n ds μ Q E
theorem FLWr.mono {n : Nat} : MonF (FLWr n) := fun ds μ Q Q' E E' h he q => match q with | .mk t ks a1 a2 a3 a4 a5 => .mk t ks a1 a2 a3 a4 (by intros; apply h; apply a5 <;> assumption)
theorem FLWr.len {n : Nat} : ∀ ds μ Q E, FLWr n ds μ Q E → ds.length = 2 := fun ds μ Q E q => by obtain ⟨_, _, e, _, _, _, _⟩ := q; rw [e]; rfl
theorem Tr.d0 (t : Tr) : ∃ (k : Str) (r : List D), t.d = .tup (.str k :: r) := by
  cases t with
  | is s => exact ⟨_, _, rfl⟩
  | al => exact ⟨_, _, rfl⟩
  | nv => exact ⟨_, _, rfl⟩
  | no t => exact ⟨_, _, rfl⟩
  | an a b => exact ⟨_, _, rfl⟩
  | or a b => exact ⟨_, _, rfl⟩
theorem cal_lwr (n : Nat) (cTx : Cal P w K mg base (2 * n + 1) "_law_text" (FLTx n) []) {f : Addr} {fd : FuncData} {qual : Str} (T : NoB mg) (Fu : Fun K "_law_wrapped" qual sLWr f fd) (hm : mg "_law_wrapped" = some (.ref f)) (hk : PySem.W.keepIn K (.ref f) = true) (hb : L2.Binds K fd ["_law_tree", "_law_kinds"] []) : Cal P w K mg base (2 * n + 2) "_law_wrapped" (FLWr n) [] := by
  have nd := scLWr.nd
  refine cal_fun Fu scLWr hm hk hb ?_ ?_ (fun cdv A outer s H E hG hr =>
    have hu : (cxOf (L2.CX P w) P w K mg base nLWr qual (defScope sLWr) f cdv A outer s H E).A.units + 64 < cLine := by have := hr.un; show (A.deeper _).units + 64 < _; omega
    have hv : (cxOf (L2.CX P w) P w K mg base nLWr qual (defScope sLWr) f cdv A outer s H E).A.units + 1 < cLine := by omega
    have tk := takes_of (X := cxOf (L2.CX P w) P w K mg base nLWr qual (defScope sLWr) f cdv A outer s H E) (E := E) rfl rfl rfl rfl
    have pw := passes_of (X := cxOf (L2.CX P w) P w K mg base nLWr qual (defScope sLWr) f cdv A outer s H E) rfl
    (ds_one (ds_ret (de_ifx (dt_cmp opd_in (de_ixL (de_var 0 rfl) de_int) (de_var 1 rfl)) (de_op strAdd_ok (de_op strAdd_ok de_str (de_call cTx hG hr (by omega) (by rfl) tk (da_cons (de_var 0 rfl) da_nil))) de_str) (de_call cTx hG hr (by omega) (by rfl) tk (da_cons (de_var 0 rfl) da_nil)))))) ?_
  · exact FLWr.mono
  · exact FLWr.len
  · rintro ds μ Q E ⟨t, ks, rfl, ht, hd, hs, z⟩
    have sz := sizeLine_eq
    obtain ⟨k, r, e⟩ := Tr.d0 t
    refine ⟨_, rfl, _, 0, .str k, (by rw [e]; rfl), rfl, atI_0 _, _, rfl, ks.map .str, rfl, rfl, flat_strs _, _, rfl, ite_c (fun _ => ?_) (fun _ => ?_)⟩
    · refine ⟨_, rfl, t, rfl, ht, hd, hs, fun s ls => ⟨_, _, rfl, rfl, by show 1 + s.length ≤ _; omega, _, _, rfl, rfl, by rw [Str.length_append]; show 1 + s.length + 1 ≤ _; omega, _, _, .refl, z _ ?_⟩⟩
      rw [Str.length_append, Str.length_append]
      show 1 + s.length + 1 ≤ _
      omega
    · exact ⟨_, rfl, t, rfl, ht, hd, hs, fun s ls => ⟨_, _, .refl, z s (by omega)⟩⟩
theorem cal_ltx (n : Nat) (cTx : Cal P w K mg base (2 * n + 1) "_law_text" (FLTx n) []) (cWr : Cal P w K mg base (2 * n + 2) "_law_wrapped" (FLWr n) []) {f : Addr} {fd : FuncData} {qual : Str} (T : NoB mg) (Fu : Fun K "_law_text" qual sLTx f fd) (hm : mg "_law_text" = some (.ref f)) (hk : PySem.W.keepIn K (.ref f) = true) (hb : L2.Binds K fd ["_law_tree"] []) : Cal P w K mg base (2 * n + 3) "_law_text" (FLTx (n + 1)) [] := by
  have nd := scLTx.nd
  refine cal_fun Fu scLTx hm hk hb ?_ ?_ (fun cdv A outer s H E hG hr =>
    have hu : (cxOf (L2.CX P w) P w K mg base nLTx qual (defScope sLTx) f cdv A outer s H E).A.units + 64 < cLine := by have := hr.un; show (A.deeper _).units + 64 < _; omega
    have hv : (cxOf (L2.CX P w) P w K mg base nLTx qual (defScope sLTx) f cdv A outer s H E).A.units + 1 < cLine := by omega
    have tk := takes_of (X := cxOf (L2.CX P w) P w K mg base nLTx qual (defScope sLTx) f cdv A outer s H E) (E := E) rfl rfl rfl rfl
    have pw := passes_of (X := cxOf (L2.CX P w) P w K mg base nLTx qual (defScope sLTx) f cdv A outer s H E) rfl
    (ds_cons (ds_if (dt_cmp opd_eqS (de_ixL (de_var 0 rfl) de_int) de_str) (ds_one (ds_ret (de_ixL (de_var 0 rfl) de_int))) ds_nil)
      (ds_cons (ds_if (dt_cmp opd_eqS (de_ixL (de_var 0 rfl) de_int) de_str) (ds_one (ds_ret (de_op strAdd_ok de_str (de_call cWr hG hr (by omega) (by rfl) tk (da_cons (de_ixL (de_var 0 rfl) de_int) (da_cons (de_lstD (da_cons de_str (da_cons de_str da_nil))) da_nil)))))) ds_nil)
      (ds_cons (ds_if (dt_cmp opd_eqS (de_ixL (de_var 0 rfl) de_int) de_str) (ds_one (ds_ret (de_op strAdd_ok (de_op strAdd_ok (de_call cWr hG hr (by omega) (by rfl) tk (da_cons (de_ixL (de_var 0 rfl) de_int) (da_cons (de_lstD (da_cons de_str da_nil)) da_nil))) de_str) (de_call cWr hG hr (by omega) (by rfl) tk (da_cons (de_ixL (de_var 0 rfl) de_int) (da_cons (de_lstD (da_cons de_str da_nil)) da_nil)))))) ds_nil)
      (ds_cons (ds_if (dt_cmp opd_eqS (de_ixL (de_var 0 rfl) de_int) de_str) (ds_one (ds_ret (de_op strAdd_ok (de_op strAdd_ok (de_call cTx hG hr (by omega) (by rfl) tk (da_cons (de_ixL (de_var 0 rfl) de_int) da_nil)) de_str) (de_call cTx hG hr (by omega) (by rfl) tk (da_cons (de_ixL (de_var 0 rfl) de_int) da_nil))))) ds_nil)
      (ds_one (ds_ret (de_ixL (de_var 0 rfl) de_int)))))))) ?_
  · exact FLTx.mono
  · exact FLTx.len
  · rintro ds μ Q E ⟨t, rfl, ht, hd, hs, z⟩
    have sz := sizeLine_eq
    cases t with
    | is s =>
      refine ⟨_, rfl, _, 0, _, rfl, rfl, rfl, _, _, rfl, rfl, _, rfl, ite_t rfl ?_⟩
      exact ⟨_, rfl, _, 1, _, rfl, rfl, rfl, _, _, .refl, z s (Nat.le_trans (NameOk.len ht) (by show 8 ≤ 12 * 1; decide))⟩
    | al =>
      refine ⟨_, rfl, _, 0, _, rfl, rfl, rfl, _, _, rfl, rfl, _, rfl, ite_f (by decide +kernel) ?_⟩
      refine ⟨_, rfl, _, 0, _, rfl, rfl, rfl, _, _, rfl, rfl, _, rfl, ite_f (by decide +kernel) ?_⟩
      refine ⟨_, rfl, _, 0, _, rfl, rfl, rfl, _, _, rfl, rfl, _, rfl, ite_f (by decide +kernel) ?_⟩
      refine ⟨_, rfl, _, 0, _, rfl, rfl, rfl, _, _, rfl, rfl, _, rfl, ite_f (by decide +kernel) ?_⟩
      exact ⟨_, rfl, _, 0, _, rfl, rfl, rfl, _, _, .refl, z _ (by decide)⟩
    | nv =>
      refine ⟨_, rfl, _, 0, _, rfl, rfl, rfl, _, _, rfl, rfl, _, rfl, ite_f (by decide +kernel) ?_⟩
      refine ⟨_, rfl, _, 0, _, rfl, rfl, rfl, _, _, rfl, rfl, _, rfl, ite_f (by decide +kernel) ?_⟩
      refine ⟨_, rfl, _, 0, _, rfl, rfl, rfl, _, _, rfl, rfl, _, rfl, ite_f (by decide +kernel) ?_⟩
      refine ⟨_, rfl, _, 0, _, rfl, rfl, rfl, _, _, rfl, rfl, _, rfl, ite_f (by decide +kernel) ?_⟩
      exact ⟨_, rfl, _, 0, _, rfl, rfl, rfl, _, _, .refl, z _ (by decide)⟩
    | no t =>
      have d1 : t.dep + 1 < n + 1 := hd
      have s1 : t.size + 1 ≤ 1000 := hs
      refine ⟨_, rfl, _, 0, _, rfl, rfl, rfl, _, _, rfl, rfl, _, rfl, ite_f (by decide +kernel) ?_⟩
      refine ⟨_, rfl, _, 0, _, rfl, rfl, rfl, _, _, rfl, rfl, _, rfl, ite_t rfl ?_⟩
      refine ⟨_, rfl, _, 1, _, rfl, rfl, rfl, by show 2 ≤ sizeLine; omega, t, [("and" : Str), ("or" : Str)], rfl, ht, by omega, by omega, fun s ls => ⟨_, _, rfl, rfl, by show 4 + s.length ≤ _; omega, _, _, .refl, z _ ?_⟩⟩
      rw [Str.length_append]
      show 4 + s.length ≤ 12 * (t.size + 1)
      omega
    | an a b =>
      have d1 : max a.dep b.dep + 1 < n + 1 := hd
      have s1 : a.size + b.size + 1 ≤ 1000 := hs
      refine ⟨_, rfl, _, 0, _, rfl, rfl, rfl, _, _, rfl, rfl, _, rfl, ite_f (by decide +kernel) ?_⟩
      refine ⟨_, rfl, _, 0, _, rfl, rfl, rfl, _, _, rfl, rfl, _, rfl, ite_f (by decide +kernel) ?_⟩
      refine ⟨_, rfl, _, 0, _, rfl, rfl, rfl, _, _, rfl, rfl, _, rfl, ite_t rfl ?_⟩
      refine ⟨_, rfl, _, 1, _, rfl, rfl, rfl, by show 1 ≤ sizeLine; omega, a, [("or" : Str)], rfl, ht.1, by omega, by omega, fun s ls => ?_⟩
      refine ⟨_, _, rfl, rfl, by show s.length + 5 ≤ _; omega, _, rfl, _, 2, _, rfl, rfl, rfl, by show 1 ≤ sizeLine; omega, b, [("or" : Str)], rfl, ht.2, by omega, by omega, fun u lu => ?_⟩
      refine ⟨_, _, rfl, rfl, by rw [Str.length_append]; show s.length + 5 + u.length ≤ _; omega, _, _, .refl, z _ ?_⟩
      rw [Str.length_append, Str.length_append]
      show s.length + 5 + u.length ≤ 12 * (a.size + b.size + 1)
      omega
    | or a b =>
      have d1 : max a.dep b.dep + 1 < n + 1 := hd
      have s1 : a.size + b.size + 1 ≤ 1000 := hs
      refine ⟨_, rfl, _, 0, _, rfl, rfl, rfl, _, _, rfl, rfl, _, rfl, ite_f (by decide +kernel) ?_⟩
      refine ⟨_, rfl, _, 0, _, rfl, rfl, rfl, _, _, rfl, rfl, _, rfl, ite_f (by decide +kernel) ?_⟩
      refine ⟨_, rfl, _, 0, _, rfl, rfl, rfl, _, _, rfl, rfl, _, rfl, ite_f (by decide +kernel) ?_⟩
      refine ⟨_, rfl, _, 0, _, rfl, rfl, rfl, _, _, rfl, rfl, _, rfl, ite_t rfl ?_⟩
      refine ⟨_, rfl, _, 1, _, rfl, rfl, rfl, a, rfl, ht.1, by omega, by omega, fun s ls => ?_⟩
      refine ⟨_, _, rfl, rfl, by show s.length + 4 ≤ _; omega, _, rfl, _, 2, _, rfl, rfl, rfl, b, rfl, ht.2, by omega, by omega, fun u lu => ?_⟩
      refine ⟨_, _, rfl, rfl, by rw [Str.length_append]; show s.length + 4 + u.length ≤ _; omega, _, _, .refl, z _ ?_⟩
      rw [Str.length_append, Str.length_append]
      show s.length + 4 + u.length ≤ 12 * (a.size + b.size + 1)
      omega
end
end Dl

namespace Dl
open PySem PySem.Spec L2
open PyProof.Rows hiding St Binds
section
variable {P : Program} {w : World} {K : PySem.W.Frag} {mg : Str → Option Value} {base : Heap} {C_Condition C_BadName : Addr}

abbrev sLHo : Stmt := top 28
abbrev nLHo : List Str := ["_law_tree", "_law_names_here"]
theorem scLHo : FnScope nLHo ["_law_tree", "_law_names_here"] (defScope sLHo) := ⟨rfl, rfl, rfl, by decide +kernel, rfl, by decide +kernel, by decide +kernel⟩
inductive FLHo (n : Nat) (ds : List D) (μ : Sto) (Q : QD) (E : XD) : Prop
  | mk (t : Tr) (e : D) (ns : List Str) (a1 : ds = [t.d, e]) (a2 : t.ok) (a3 : t.dep < n) (a4 : (∀ m, asS (μ ++ m) e = some (ns.map .str))) (a5 : Q (.bl (t.hold fun s => decide (s ∈ ns))) μ) : FLHo n ds μ Q E
theorem FLHo.mono {n : Nat} : MonF (FLHo n) := fun ds μ Q Q' E E' h he q => match q with | .mk t e ns a1 a2 a3 a4 a5 => .mk t e ns a1 a2 a3 a4 (h _ _ a5)
theorem FLHo.len {n : Nat} : ∀ ds μ Q E, FLHo n ds μ Q E → ds.length = 2 := fun ds μ Q E q => by obtain ⟨_, _, _, e, _, _, _, _⟩ := q; rw [e]; rfl
theorem cal_lho (n : Nat) (cHo : Cal P w K mg base (n + 1) "_law_holds" (FLHo n) []) {f : Addr} {fd : FuncData} {qual : Str} (T : NoB mg) (Fu : Fun K "_law_holds" qual sLHo f fd) (hm : mg "_law_holds" = some (.ref f)) (hk : PySem.W.keepIn K (.ref f) = true) (hb : L2.Binds K fd ["_law_tree", "_law_names_here"] []) : Cal P w K mg base (n + 2) "_law_holds" (FLHo (n + 1)) [] := by
  have nd := scLHo.nd
  refine cal_fun Fu scLHo hm hk hb ?_ ?_ (fun cdv A outer s H E hG hr =>
    have hu : (cxOf (L2.CX P w) P w K mg base nLHo qual (defScope sLHo) f cdv A outer s H E).A.units + 64 < cLine := by have := hr.un; show (A.deeper _).units + 64 < _; omega
    have hv : (cxOf (L2.CX P w) P w K mg base nLHo qual (defScope sLHo) f cdv A outer s H E).A.units + 1 < cLine := by omega
    have tk := takes_of (X := cxOf (L2.CX P w) P w K mg base nLHo qual (defScope sLHo) f cdv A outer s H E) (E := E) rfl rfl rfl rfl
    have pw := passes_of (X := cxOf (L2.CX P w) P w K mg base nLHo qual (defScope sLHo) f cdv A outer s H E) rfl
    (ds_cons (ds_if (dt_cmp opd_eqS (de_ixL (de_var 0 rfl) de_int) de_str) (ds_one (ds_ret (de_cmp opd_in (de_ixL (de_var 0 rfl) de_int) (de_var 1 rfl)))) ds_nil)
      (ds_cons (ds_if (dt_cmp opd_eqS (de_ixL (de_var 0 rfl) de_int) de_str) (ds_one (ds_ret (de_not (de_call cHo hG hr (by omega) (by rfl) tk (da_cons (de_ixL (de_var 0 rfl) de_int) (da_cons (de_var 1 rfl) da_nil)))))) ds_nil)
      (ds_cons (ds_if (dt_cmp opd_eqS (de_ixL (de_var 0 rfl) de_int) de_str) (ds_one (ds_ret (de_and (de_call cHo hG hr (by omega) (by rfl) tk (da_cons (de_ixL (de_var 0 rfl) de_int) (da_cons (de_var 1 rfl) da_nil))) (de_one (de_call cHo hG hr (by omega) (by rfl) tk (da_cons (de_ixL (de_var 0 rfl) de_int) (da_cons (de_var 1 rfl) da_nil))))))) ds_nil)
      (ds_cons (ds_if (dt_cmp opd_eqS (de_ixL (de_var 0 rfl) de_int) de_str) (ds_one (ds_ret (de_or (de_call cHo hG hr (by omega) (by rfl) tk (da_cons (de_ixL (de_var 0 rfl) de_int) (da_cons (de_var 1 rfl) da_nil))) (de_one (de_call cHo hG hr (by omega) (by rfl) tk (da_cons (de_ixL (de_var 0 rfl) de_int) (da_cons (de_var 1 rfl) da_nil))))))) ds_nil)
      (ds_one (ds_ret (de_cmp opd_eqS (de_ixL (de_var 0 rfl) de_int) de_str)))))))) ?_
  · exact FLHo.mono
  · exact FLHo.len
  · rintro ds μ Q E ⟨t, e, ns, rfl, ht, hd, he, z⟩
    have he0 : asS μ e = some (ns.map .str) := by have := he []; rwa [List.append_nil] at this
    cases t with
    | is s =>
      refine ⟨_, rfl, _, 0, _, rfl, rfl, rfl, _, _, rfl, rfl, _, rfl, ite_t rfl ?_⟩
      refine ⟨_, rfl, _, 1, _, rfl, rfl, rfl, _, rfl, ns.map .str, he0, rfl, flat_strs _, _, _, .refl, ?_⟩
      have z : Q (.bl (decide (s ∈ ns))) μ := z
      rw [← inDD_strs] at z; exact z
    | al =>
      refine ⟨_, rfl, _, 0, _, rfl, rfl, rfl, _, _, rfl, rfl, _, rfl, ite_f (by decide +kernel) ?_⟩
      refine ⟨_, rfl, _, 0, _, rfl, rfl, rfl, _, _, rfl, rfl, _, rfl, ite_f (by decide +kernel) ?_⟩
      refine ⟨_, rfl, _, 0, _, rfl, rfl, rfl, _, _, rfl, rfl, _, rfl, ite_f (by decide +kernel) ?_⟩
      refine ⟨_, rfl, _, 0, _, rfl, rfl, rfl, _, _, rfl, rfl, _, rfl, ite_f (by decide +kernel) ?_⟩
      exact ⟨_, rfl, _, 0, _, rfl, rfl, rfl, _, _, rfl, rfl, _, _, .refl, z⟩
    | nv =>
      refine ⟨_, rfl, _, 0, _, rfl, rfl, rfl, _, _, rfl, rfl, _, rfl, ite_f (by decide +kernel) ?_⟩
      refine ⟨_, rfl, _, 0, _, rfl, rfl, rfl, _, _, rfl, rfl, _, rfl, ite_f (by decide +kernel) ?_⟩
      refine ⟨_, rfl, _, 0, _, rfl, rfl, rfl, _, _, rfl, rfl, _, rfl, ite_f (by decide +kernel) ?_⟩
      refine ⟨_, rfl, _, 0, _, rfl, rfl, rfl, _, _, rfl, rfl, _, rfl, ite_f (by decide +kernel) ?_⟩
      refine ⟨_, rfl, _, 0, _, rfl, rfl, rfl, _, _, rfl, rfl, _, _, .refl, ?_⟩
      rw [show decide (("never" : Str) = ("always" : Str)) = false by decide +kernel]; exact z
    | no t =>
      have d1 : t.dep + 1 < n + 1 := hd
      refine ⟨_, rfl, _, 0, _, rfl, rfl, rfl, _, _, rfl, rfl, _, rfl, ite_f (by decide +kernel) ?_⟩
      refine ⟨_, rfl, _, 0, _, rfl, rfl, rfl, _, _, rfl, rfl, _, rfl, ite_t rfl ?_⟩
      exact ⟨_, rfl, _, 1, _, rfl, rfl, rfl, _, rfl, t, e, ns, rfl, ht, by omega, he, _, rfl, _, _, .refl, z⟩
    | an a b =>
      have d1 : max a.dep b.dep + 1 < n + 1 := hd
      have z : Q (.bl (a.hold (fun s => decide (s ∈ ns)) && b.hold fun s => decide (s ∈ ns))) μ := z
      refine ⟨_, rfl, _, 0, _, rfl, rfl, rfl, _, _, rfl, rfl, _, rfl, ite_f (by decide +kernel) ?_⟩
      refine ⟨_, rfl, _, 0, _, rfl, rfl, rfl, _, _, rfl, rfl, _, rfl, ite_f (by decide +kernel) ?_⟩
      refine ⟨_, rfl, _, 0, _, rfl, rfl, rfl, _, _, rfl, rfl, _, rfl, ite_t rfl ?_⟩
      refine ⟨_, rfl, _, 1, _, rfl, rfl, rfl, _, rfl, a, e, ns, rfl, ht.1, by omega, he, _, rfl, ?_⟩
      cases h : a.hold (fun s => decide (s ∈ ns)) with
      | true => rw [h, Bool.true_and] at z; exact ⟨_, rfl, _, 2, _, rfl, rfl, rfl, _, rfl, b, e, ns, rfl, ht.2, by omega, he, _, _, .refl, z⟩
      | false => rw [h, Bool.false_and] at z; exact ⟨_, _, .refl, z⟩
    | or a b =>
      have d1 : max a.dep b.dep + 1 < n + 1 := hd
      have z : Q (.bl (a.hold (fun s => decide (s ∈ ns)) || b.hold fun s => decide (s ∈ ns))) μ := z
      refine ⟨_, rfl, _, 0, _, rfl, rfl, rfl, _, _, rfl, rfl, _, rfl, ite_f (by decide +kernel) ?_⟩
      refine ⟨_, rfl, _, 0, _, rfl, rfl, rfl, _, _, rfl, rfl, _, rfl, ite_f (by decide +kernel) ?_⟩
      refine ⟨_, rfl, _, 0, _, rfl, rfl, rfl, _, _, rfl, rfl, _, rfl, ite_f (by decide +kernel) ?_⟩
      refine ⟨_, rfl, _, 0, _, rfl, rfl, rfl, _, _, rfl, rfl, _, rfl, ite_t rfl ?_⟩
      refine ⟨_, rfl, _, 1, _, rfl, rfl, rfl, _, rfl, a, e, ns, rfl, ht.1, by omega, he, _, rfl, ?_⟩
      cases h : a.hold (fun s => decide (s ∈ ns)) with
      | false => rw [h, Bool.false_or] at z; exact ⟨_, rfl, _, 2, _, rfl, rfl, rfl, _, rfl, b, e, ns, rfl, ht.2, by omega, he, _, _, .refl, z⟩
      | true => rw [h, Bool.true_or] at z; exact ⟨_, _, .refl, z⟩
end
end Dl

namespace Dl
open PySem PySem.Spec L2
open PyProof.Rows hiding St Binds
section
variable {P : Program} {w : World} {K : PySem.W.Frag} {mg : Str → Option Value} {base : Heap} {C_Condition C_BadName : Addr}

abbrev sCeqT : Stmt := inCls (top 20) 10
abbrev nCeqT : List Str := ["self", "other"]
theorem scCeqT : FnScope nCeqT ["self", "other"] (defScope sCeqT) := ⟨rfl, rfl, rfl, by decide +kernel, rfl, by decide +kernel, by decide +kernel⟩
/-- a condition equals no text and no number -/
inductive FCeqT (C_Condition : Addr) (ds : List D) (μ : Sto) (Q : QD) (E : XD) : Prop
  | mk (ws : List Str) (y : D) (a1 : ds = [cD C_Condition ws, y]) (a2 : ((∃ s, y = .str s) ∨ ∃ i, y = .int i)) (a3 : Q (.bl false) μ) : FCeqT C_Condition ds μ Q E
theorem FCeqT.mono {C_Condition : Addr} : MonF (FCeqT C_Condition) := fun ds μ Q Q' E E' h he q => match q with | .mk ws y a1 a2 a3 => .mk ws y a1 a2 (h _ _ a3)
theorem FCeqT.len {C_Condition : Addr} : ∀ ds μ Q E, FCeqT C_Condition ds μ Q E → ds.length = 2 := fun ds μ Q E q => by obtain ⟨_, _, e, _, _⟩ := q; rw [e]; rfl
theorem met_CeqT (hm_Condition : mg "Condition" = some (.ref C_Condition)) (kit_sC : PySem.W.kitOne K (.type "str") (.ref C_Condition) = some false) (kit_iC : PySem.W.kitOne K (.type "int") (.ref C_Condition) = some false) (na_words : NoAttr K C_Condition ("_words" : Str)) (cae : Cal P w K mg base 2 "are_equal" FAe []) {f : Addr} {fd : FuncData} {qual : Str} (T : NoB mg) (Fu : FunA K "__eq__" qual sCeqT f fd) (cC : Cls K C_Condition) (M : Meth K C_Condition "__eq__" f) (hb : L2.Binds K fd ["self", "other"] []) : Met P w K mg base 3 C_Condition "__eq__" (FCeqT C_Condition) [] := by
  have nd := scCeqT.nd
  refine met_fun Fu scCeqT cC M hb ?_ ?_ (fun cdv A outer s H E hG hr =>
    have hu : (cxOf (L2.CX P w) P w K mg base nCeqT qual (defScope sCeqT) f cdv A outer s H E).A.units + 64 < cLine := by have := hr.un; show (A.deeper _).units + 64 < _; omega
    have hv : (cxOf (L2.CX P w) P w K mg base nCeqT qual (defScope sCeqT) f cdv A outer s H E).A.units + 1 < cLine := by omega
    have tk := takes_of (X := cxOf (L2.CX P w) P w K mg base nCeqT qual (defScope sCeqT) f cdv A outer s H E) (E := E) rfl rfl rfl rfl
    have pw := passes_of (X := cxOf (L2.CX P w) P w K mg base nCeqT qual (defScope sCeqT) f cdv A outer s H E) rfl
    (ds_cons (ds_if (dt_not (dt_val (de_callB cad_isi (by rfl) T.isinstance (by decide +kernel) (da_cons (de_var 1 rfl) (da_cons (de_cls (by rfl) hm_Condition) da_nil))))) (ds_one (ds_ret de_bl)) ds_nil)
      (ds_one (ds_ret (de_call cae hG hr (by decide) (by rfl) tk (da_cons (de_fld (de_var 0 rfl)) (da_cons (de_fld (de_var 1 rfl)) da_nil))))))) ?_
  · exact FCeqT.mono
  · exact FCeqT.len
  · rintro ds μ Q E ⟨ws, y, rfl, h, z⟩
    rcases h with ⟨s, rfl⟩ | ⟨i, rfl⟩
    · exact ⟨_, rfl, _, _, .type "str", .ref C_Condition, false, rfl, .inl ⟨C_Condition, rfl, rfl⟩, .str s, kit_sC, _, rfl, _, _, .refl, z⟩
    · exact ⟨_, rfl, _, _, .type "int", .ref C_Condition, false, rfl, .inl ⟨C_Condition, rfl, rfl⟩, .int i, kit_iC, _, rfl, _, _, .refl, z⟩


abbrev sLCh : Stmt := top 32
abbrev nLCh : List Str := ["_law_stream", "_law_tree", "_law_names_here", "_law_way", "_law_one", "_law_other"]
theorem scLCh : FnScope nLCh ["_law_stream", "_law_tree", "_law_names_here"] (defScope sLCh) := ⟨rfl, rfl, rfl, by decide +kernel, rfl, by decide +kernel, by decide +kernel⟩
theorem Tr.pos (t : Tr) : 1 ≤ t.size := by cases t <;> (unfold Tr.size; omega)
theorem Tr.cnd7 {t : Tr} (h : t.dep ≤ 1 + 1) : t.size ≤ 7 := by
  have h1 := Tr.size_dep t
  have h2 : 2 ^ (t.dep + 1) ≤ 2 ^ 3 := Nat.pow_le_pow_right (by decide) (by omega)
  omega
/-- a changed tree -/
inductive FLCh (n : Nat) (ds : List D) (μ : Sto) (Q : QD) (E : XD) : Prop
  | mk (S : Dr) (t : Tr) (ns : List Str) (rest : Sto) (a1 : ds = [.cell 1, t.d, .lst (ns.map .str)]) (a2 : t.ok) (a3 : t.dep < n) (a4 : (∀ s ∈ t.nms, s ∈ ns)) (a5 : ns.length ≤ 15) (a6 : (∀ s ∈ ns, NameOk s)) (a7 : S.ok) (a8 : S.t + ((12 * t.size : Nat) : Int) < 900000) (a9 : okRest rest) (a10 : μ = S.sto rest) (a11 : ∀ (u : Tr) (S' : Dr), u.ok → (∀ s ∈ u.nms, s ∈ ns) → u.dep ≤ 3 * t.dep + 4 → u.size + 2 ≤ 13 * t.size → S'.ok → S.t ≤ S'.t → S'.t ≤ S.t + ((11 * t.size : Nat) : Int) → Q u.d (S'.sto rest)) : FLCh n ds μ Q E
theorem FLCh.mono {n : Nat} : MonF (FLCh n) := fun ds μ Q Q' E E' h he q => match q with | .mk S t ns rest a1 a2 a3 a4 a5 a6 a7 a8 a9 a10 a11 => .mk S t ns rest a1 a2 a3 a4 a5 a6 a7 a8 a9 a10 (by intros; apply h; apply a11 <;> assumption)
theorem FLCh.len {n : Nat} : ∀ ds μ Q E, FLCh n ds μ Q E → ds.length = 3 := fun ds μ Q E q => by obtain ⟨_, _, _, _, e, _, _, _, _, _, _, _, _, _, _⟩ := q; rw [e]; rfl
theorem cal_lch (n : Nat) (cD : Cal P w K mg base 1 "_law_draw" FDraw []) (cP : Cal P w K mg base 2 "_law_pick" FPick []) (cC5 : Cal P w K mg base 7 "_law_condition" (FCnd 5) []) (cCh : Cal P w K mg base (n + 7) "_law_changed" (FLCh n) []) {f : Addr} {fd : FuncData} {qual : Str} (T : NoB mg) (Fu : Fun K "_law_changed" qual sLCh f fd) (hm : mg "_law_changed" = some (.ref f)) (hk : PySem.W.keepIn K (.ref f) = true) (hb : L2.Binds K fd ["_law_stream", "_law_tree", "_law_names_here"] []) : Cal P w K mg base (n + 8) "_law_changed" (FLCh (n + 1)) [] := by
  have nd := scLCh.nd
  refine cal_fun Fu scLCh hm hk hb ?_ ?_ (fun cdv A outer s H E hG hr =>
    have hu : (cxOf (L2.CX P w) P w K mg base nLCh qual (defScope sLCh) f cdv A outer s H E).A.units + 64 < cLine := by have := hr.un; show (A.deeper _).units + 64 < _; omega
    have hv : (cxOf (L2.CX P w) P w K mg base nLCh qual (defScope sLCh) f cdv A outer s H E).A.units + 1 < cLine := by omega
    have tk := takes_of (X := cxOf (L2.CX P w) P w K mg base nLCh qual (defScope sLCh) f cdv A outer s H E) (E := E) rfl rfl rfl rfl
    have pw := passes_of (X := cxOf (L2.CX P w) P w K mg base nLCh qual (defScope sLCh) f cdv A outer s H E) rfl
    (ds_cons (ds_set (i := 3) nd rfl (by first | exact .inl rfl | exact .inr rfl) (de_call cD hG hr (by omega) (by rfl) tk (da_cons (de_var 0 rfl) (da_cons de_int da_nil))))
      (ds_cons (ds_if (dt_cmp opd_eqI (de_var 3 rfl) de_int) (ds_one (ds_ret (de_tup (da_cons de_str (da_cons (de_tup (da_cons de_str (da_cons (de_var 1 rfl) da_nil))) da_nil))))) ds_nil)
      (ds_cons (ds_if (dt_cmp opd_eqI (de_var 3 rfl) de_int) (ds_one (ds_ret (de_tup (da_cons de_str (da_cons (de_var 1 rfl) (da_cons (de_call cP hG hr (by omega) (by rfl) tk (da_cons (de_var 0 rfl) (da_cons (de_lstD (da_cons (de_tup (da_cons de_str da_nil)) (da_cons (de_var 1 rfl) (da_cons (de_tup (da_cons de_str (da_cons (de_var 1 rfl) (da_cons (de_call cC5 hG hr (by omega) (by rfl) tk (da_cons (de_var 0 rfl) (da_cons (de_var 2 rfl) (da_cons de_int da_nil)))) da_nil)))) da_nil)))) da_nil))) da_nil)))))) ds_nil)
      (ds_cons (ds_if (dt_cmp opd_eqI (de_var 3 rfl) de_int) (ds_one (ds_ret (de_tup (da_cons de_str (da_cons (de_call cP hG hr (by omega) (by rfl) tk (da_cons (de_var 0 rfl) (da_cons (de_lstD (da_cons (de_tup (da_cons de_str da_nil)) (da_cons (de_var 1 rfl) (da_cons (de_tup (da_cons de_str (da_cons (de_var 1 rfl) (da_cons (de_call cC5 hG hr (by omega) (by rfl) tk (da_cons (de_var 0 rfl) (da_cons (de_var 2 rfl) (da_cons de_int da_nil)))) da_nil)))) da_nil)))) da_nil))) (da_cons (de_var 1 rfl) da_nil)))))) ds_nil)
      (ds_cons (ds_if (dt_cmp opd_eqI (de_var 3 rfl) de_int) (ds_one (ds_ret (de_tup (da_cons de_str (da_cons (de_var 1 rfl) (da_cons (de_call cC5 hG hr (by omega) (by rfl) tk (da_cons (de_var 0 rfl) (da_cons (de_var 2 rfl) (da_cons de_int da_nil)))) da_nil)))))) ds_nil)
      (ds_cons (ds_if (dt_cmp opd_eqI (de_var 3 rfl) de_int) (ds_one (ds_ret (de_tup (da_cons de_str (da_cons (de_var 1 rfl) (da_cons (de_call cC5 hG hr (by omega) (by rfl) tk (da_cons (de_var 0 rfl) (da_cons (de_var 2 rfl) (da_cons de_int da_nil)))) da_nil)))))) ds_nil)
      (ds_cons (ds_if (dt_cmp opd_in (de_ixL (de_var 1 rfl) de_int) (de_lstD (da_cons de_str (da_cons de_str da_nil)))) (ds_cons (ds_par (i := 4) (j := 5) rfl nd rfl rfl (by decide) rfl rfl (da_cons (de_call cCh hG hr (by omega) (by rfl) tk (da_cons (de_var 0 rfl) (da_cons (de_ixL (de_var 1 rfl) de_int) (da_cons (de_var 2 rfl) da_nil)))) (da_cons (de_call cCh hG hr (by omega) (by rfl) tk (da_cons (de_var 0 rfl) (da_cons (de_ixL (de_var 1 rfl) de_int) (da_cons (de_var 2 rfl) da_nil)))) da_nil)))
      (ds_cons (ds_if (dt_cmp opd_lt (de_var 3 rfl) de_int) (ds_one (ds_ret (de_tup (da_cons (de_ixL (de_var 1 rfl) de_int) (da_cons (de_var 5 rfl) (da_cons (de_var 4 rfl) da_nil)))))) ds_nil)
      (ds_one (ds_ret (de_tup (da_cons de_str (da_cons (de_tup (da_cons (de_ixL (de_lstD (da_cons de_str (da_cons de_str da_nil))) (de_callTy cad_int (by rfl) T.int (by decide +kernel) (da_cons (de_cmp opd_eqS (de_ixL (de_var 1 rfl) de_int) de_str) da_nil))) (da_cons (de_tup (da_cons de_str (da_cons (de_var 4 rfl) da_nil))) (da_cons (de_tup (da_cons de_str (da_cons (de_var 5 rfl) da_nil))) da_nil)))) da_nil))))))) ds_nil)
      (ds_one (ds_ret (de_ifx (dt_cmp opd_eqS (de_ixL (de_var 1 rfl) de_int) de_str) (de_tup (da_cons de_str (da_cons (de_call cCh hG hr (by omega) (by rfl) tk (da_cons (de_var 0 rfl) (da_cons (de_ixL (de_var 1 rfl) de_int) (da_cons (de_var 2 rfl) da_nil)))) da_nil))) (de_var 1 rfl)))))))))))) ?_
  · exact FLCh.mono
  · exact FLCh.len
  · rintro ds μ Q E ⟨S, t, ns, rest, rfl, ht, hd, hn, hl, hs, ok, tl, okr, rfl, z⟩
    have sz := sizeLine_eq
    have tp := Tr.pos t
    have t0 := ok.t0
    have both : ∀ {a b : Tr}, (∀ s ∈ a.nms, s ∈ ns) → (∀ s ∈ b.nms, s ∈ ns) → ∀ s ∈ a.nms ++ b.nms, s ∈ ns := fun ha hb s m => (List.mem_append.mp m).elim (ha s) (hb s)
    refine ⟨_, rfl, S, 10, rest, rfl, by decide, by decide, ok, by omega, rfl, fun r S1 r0 r1 ok1 t1 => ?_⟩
    refine ⟨_, rfl, _, _, rfl, rfl, _, rfl, ite_b (fun h0 => ?_) (fun h0 => ?_)⟩
    · exact ⟨_, rfl, by show 2 ≤ sizeLine; omega, by show 2 ≤ sizeLine; omega, _, _, .refl, z (.no (.no t)) S1 ht hn (by show t.dep + 1 + 1 ≤ _; omega) (by show t.size + 1 + 1 + 2 ≤ _; omega) ok1 (by omega) (by omega)⟩
    refine ⟨_, rfl, _, _, rfl, rfl, _, rfl, ite_b (fun h1 => ?_) (fun h1 => ?_)⟩
    · refine ⟨_, rfl, _, rfl, by show 1 ≤ sizeLine; omega, _, rfl, _, rfl, _, rfl, _, rfl, S1, ns, 1, rest, rfl, by omega, hl, hs, ok1, by show S1.t + 128 < _; omega, okr, rfl, fun c S2 hc dc nc ok2 t2 t2' => ?_⟩
      have c7 := Tr.cnd7 dc
      have t2' : S2.t ≤ S1.t + 9 := t2'
      refine ⟨by show 3 ≤ sizeLine; omega, by show 3 ≤ sizeLine; omega, S2, [Tr.al.d, t.d, (Tr.or t c).d], rest, rfl, by simp, by show 3 ≤ 1000; omega, ok2, by omega, rfl, fun x S3 hx ok3 t3 => ?_⟩
      simp only [List.mem_cons, List.not_mem_nil, or_false] at hx
      rcases hx with rfl | rfl | rfl
      · exact ⟨by show 3 ≤ sizeLine; omega, _, _, .refl, z (.an t .al) S3 ⟨ht, trivial⟩ (both hn (fun s m => nomatch m)) (by show max t.dep 0 + 1 ≤ _; omega) (by show t.size + 1 + 1 + 2 ≤ _; omega) ok3 (by omega) (by omega)⟩
      · exact ⟨by show 3 ≤ sizeLine; omega, _, _, .refl, z (.an t t) S3 ⟨ht, ht⟩ (both hn hn) (by show max t.dep t.dep + 1 ≤ _; omega) (by show t.size + t.size + 1 + 2 ≤ _; omega) ok3 (by omega) (by omega)⟩
      · exact ⟨by show 3 ≤ sizeLine; omega, _, _, .refl, z (.an t (.or t c)) S3 ⟨ht, ht, hc⟩ (both hn (both hn nc)) (by show max t.dep (max t.dep c.dep + 1) + 1 ≤ _; omega) (by show t.size + (t.size + c.size + 1) + 1 + 2 ≤ _; omega) ok3 (by omega) (by omega)⟩
    refine ⟨_, rfl, _, _, rfl, rfl, _, rfl, ite_b (fun h2 => ?_) (fun h2 => ?_)⟩
    · refine ⟨_, rfl, by show 1 ≤ sizeLine; omega, _, rfl, _, rfl, _, rfl, _, rfl, S1, ns, 1, rest, rfl, by omega, hl, hs, ok1, by show S1.t + 128 < _; omega, okr, rfl, fun c S2 hc dc nc ok2 t2 t2' => ?_⟩
      have c7 := Tr.cnd7 dc
      have t2' : S2.t ≤ S1.t + 9 := t2'
      refine ⟨by show 3 ≤ sizeLine; omega, by show 3 ≤ sizeLine; omega, S2, [Tr.nv.d, t.d, (Tr.an t c).d], rest, rfl, by simp, by show 3 ≤ 1000; omega, ok2, by omega, rfl, fun x S3 hx ok3 t3 => ?_⟩
      simp only [List.mem_cons, List.not_mem_nil, or_false] at hx
      rcases hx with rfl | rfl | rfl
      · exact ⟨_, rfl, by show 3 ≤ sizeLine; omega, _, _, .refl, z (.or .nv t) S3 ⟨trivial, ht⟩ (both (fun s m => nomatch m) hn) (by show max 0 t.dep + 1 ≤ _; omega) (by show 1 + t.size + 1 + 2 ≤ _; omega) ok3 (by omega) (by omega)⟩
      · exact ⟨_, rfl, by show 3 ≤ sizeLine; omega, _, _, .refl, z (.or t t) S3 ⟨ht, ht⟩ (both hn hn) (by show max t.dep t.dep + 1 ≤ _; omega) (by show t.size + t.size + 1 + 2 ≤ _; omega) ok3 (by omega) (by omega)⟩
      · exact ⟨_, rfl, by show 3 ≤ sizeLine; omega, _, _, .refl, z (.or (.an t c) t) S3 ⟨⟨ht, hc⟩, ht⟩ (both (both hn nc) hn) (by show max (max t.dep c.dep + 1) t.dep + 1 ≤ _; omega) (by show (t.size + c.size + 1) + t.size + 1 + 2 ≤ _; omega) ok3 (by omega) (by omega)⟩
    refine ⟨_, rfl, _, _, rfl, rfl, _, rfl, ite_b (fun h3 => ?_) (fun h3 => ?_)⟩
    · refine ⟨_, rfl, _, rfl, _, rfl, S1, ns, 1, rest, rfl, by omega, hl, hs, ok1, by show S1.t + 128 < _; omega, okr, rfl, fun c S2 hc dc nc ok2 t2 t2' => ?_⟩
      have c7 := Tr.cnd7 dc
      have t2' : S2.t ≤ S1.t + 9 := t2'
      exact ⟨by show 3 ≤ sizeLine; omega, _, _, .refl, z (.an t c) S2 ⟨ht, hc⟩ (both hn nc) (by show max t.dep c.dep + 1 ≤ _; omega) (by show t.size + c.size + 1 + 2 ≤ _; omega) ok2 (by omega) (by omega)⟩
    refine ⟨_, rfl, _, _, rfl, rfl, _, rfl, ite_b (fun h4 => ?_) (fun h4 => ?_)⟩
    · refine ⟨_, rfl, _, rfl, _, rfl, S1, ns, 1, rest, rfl, by omega, hl, hs, ok1, by show S1.t + 128 < _; omega, okr, rfl, fun c S2 hc dc nc ok2 t2 t2' => ?_⟩
      have c7 := Tr.cnd7 dc
      have t2' : S2.t ≤ S1.t + 9 := t2'
      exact ⟨by show 3 ≤ sizeLine; omega, _, _, .refl, z (.or t c) S2 ⟨ht, hc⟩ (both hn nc) (by show max t.dep c.dep + 1 ≤ _; omega) (by show t.size + c.size + 1 + 2 ≤ _; omega) ok2 (by omega) (by omega)⟩
    cases t with
    | is s =>
      refine ⟨_, rfl, _, 0, _, rfl, rfl, rfl, by show 2 ≤ sizeLine; omega, _, rfl, rfl, rfl, _, rfl, ite_c (fun h => absurd h (by decide +kernel)) (fun _ => ?_)⟩
      exact ⟨_, rfl, _, 0, _, rfl, rfl, rfl, _, _, rfl, rfl, _, rfl, ite_f (by decide +kernel) ⟨_, rfl, _, _, .refl, z (.is s) S1 ht hn (by omega) (by show 1 + 2 ≤ 13 * 1; omega) ok1 (by omega) (by omega)⟩⟩
    | al =>
      refine ⟨_, rfl, _, 0, _, rfl, rfl, rfl, by show 2 ≤ sizeLine; omega, _, rfl, rfl, rfl, _, rfl, ite_c (fun h => absurd h (by decide +kernel)) (fun _ => ?_)⟩
      exact ⟨_, rfl, _, 0, _, rfl, rfl, rfl, _, _, rfl, rfl, _, rfl, ite_f (by decide +kernel) ⟨_, rfl, _, _, .refl, z .al S1 ht hn (by omega) (by show 1 + 2 ≤ 13 * 1; omega) ok1 (by omega) (by omega)⟩⟩
    | nv =>
      refine ⟨_, rfl, _, 0, _, rfl, rfl, rfl, by show 2 ≤ sizeLine; omega, _, rfl, rfl, rfl, _, rfl, ite_c (fun h => absurd h (by decide +kernel)) (fun _ => ?_)⟩
      exact ⟨_, rfl, _, 0, _, rfl, rfl, rfl, _, _, rfl, rfl, _, rfl, ite_f (by decide +kernel) ⟨_, rfl, _, _, .refl, z .nv S1 ht hn (by omega) (by show 1 + 2 ≤ 13 * 1; omega) ok1 (by omega) (by omega)⟩⟩
    | no t =>
      have d1 : t.dep + 1 < n + 1 := hd
      have es : (Tr.no t).size = t.size + 1 := rfl
      have ed : (Tr.no t).dep = t.dep + 1 := rfl
      rw [es] at z tl
      rw [ed] at z
      refine ⟨_, rfl, _, 0, _, rfl, rfl, rfl, by show 2 ≤ sizeLine; omega, _, rfl, rfl, rfl, _, rfl, ite_c (fun h => absurd h (by decide +kernel)) (fun _ => ?_)⟩
      refine ⟨_, rfl, _, 0, _, rfl, rfl, rfl, _, _, rfl, rfl, _, rfl, ite_t rfl ?_⟩
      refine ⟨_, rfl, _, rfl, _, 1, _, rfl, rfl, rfl, _, rfl, S1, t, ns, rest, rfl, ht, by omega, hn, hl, hs, ok1, by omega, okr, rfl, fun x S2 hx nx dx sx ok2 t2 t2' => ?_⟩
      exact ⟨by show 2 ≤ sizeLine; omega, _, _, .refl, z (.no x) S2 hx nx (by show x.dep + 1 ≤ _; omega) (by show x.size + 1 + 2 ≤ _; omega) ok2 (by omega) (by omega)⟩
    | an a b =>
      have d1 : max a.dep b.dep + 1 < n + 1 := hd
      have na : ∀ s ∈ a.nms, s ∈ ns := fun s m => hn s (List.mem_append_left _ m)
      have nb : ∀ s ∈ b.nms, s ∈ ns := fun s m => hn s (List.mem_append_right _ m)
      have es : (Tr.an a b).size = a.size + b.size + 1 := rfl
      have ed : (Tr.an a b).dep = max a.dep b.dep + 1 := rfl
      rw [es] at z tl
      rw [ed] at z
      refine ⟨_, rfl, _, 0, _, rfl, rfl, rfl, by show 2 ≤ sizeLine; omega, _, rfl, rfl, rfl, _, rfl, ite_c (fun _ => ?_) (fun h => absurd h (by decide +kernel))⟩
      refine ⟨_, rfl, _, rfl, _, 1, _, rfl, rfl, rfl, _, rfl, S1, a, ns, rest, rfl, ht.1, by omega, na, hl, hs, ok1, by omega, okr, rfl, fun x S2 hx nx dx sx ok2 t2 t2' => ?_⟩
      refine ⟨_, rfl, _, rfl, _, 2, _, rfl, rfl, rfl, _, rfl, S2, b, ns, rest, rfl, ht.2, by omega, nb, hl, hs, ok2, by omega, okr, rfl, fun y S3 hy ny dy sy ok3 t3 t3' => ?_⟩
      refine ⟨_, _, rfl, _, rfl, _, rfl, ite_b (fun h7 => ?_) (fun h7 => ?_)⟩
      · exact ⟨_, rfl, _, 0, _, rfl, rfl, rfl, _, rfl, _, rfl, by show 3 ≤ sizeLine; omega, _, _, .refl, z (.an y x) S3 ⟨hy, hx⟩ (both ny nx) (by show max y.dep x.dep + 1 ≤ _; omega) (by show y.size + x.size + 1 + 2 ≤ _; omega) ok3 (by omega) (by omega)⟩
      · have e : D.int (if decide (("and" : Str) = ("and" : Str)) = true then (1 : Int) else 0) = .int 1 := congrArg D.int (by decide +kernel)
        exact ⟨by show 2 ≤ sizeLine; omega, _, rfl, _, 0, _, rfl, rfl, rfl, _, _, rfl, rfl, .inr ⟨_, rfl, _, 1, _, rfl, e, rfl, _, rfl, by show 2 ≤ sizeLine; omega, _, rfl, by show 2 ≤ sizeLine; omega, by show 3 ≤ sizeLine; omega, by show 2 ≤ sizeLine; omega, _, _, .refl, z (.no (.or (.no x) (.no y))) S3 ⟨hx, hy⟩ (both nx ny) (by show max (x.dep + 1) (y.dep + 1) + 1 + 1 ≤ _; omega) (by show (x.size + 1) + (y.size + 1) + 1 + 1 + 2 ≤ _; omega) ok3 (by omega) (by omega)⟩⟩
    | or a b =>
      have d1 : max a.dep b.dep + 1 < n + 1 := hd
      have na : ∀ s ∈ a.nms, s ∈ ns := fun s m => hn s (List.mem_append_left _ m)
      have nb : ∀ s ∈ b.nms, s ∈ ns := fun s m => hn s (List.mem_append_right _ m)
      have es : (Tr.or a b).size = a.size + b.size + 1 := rfl
      have ed : (Tr.or a b).dep = max a.dep b.dep + 1 := rfl
      rw [es] at z tl
      rw [ed] at z
      refine ⟨_, rfl, _, 0, _, rfl, rfl, rfl, by show 2 ≤ sizeLine; omega, _, rfl, rfl, rfl, _, rfl, ite_c (fun _ => ?_) (fun h => absurd h (by decide +kernel))⟩
      refine ⟨_, rfl, _, rfl, _, 1, _, rfl, rfl, rfl, _, rfl, S1, a, ns, rest, rfl, ht.1, by omega, na, hl, hs, ok1, by omega, okr, rfl, fun x S2 hx nx dx sx ok2 t2 t2' => ?_⟩
      refine ⟨_, rfl, _, rfl, _, 2, _, rfl, rfl, rfl, _, rfl, S2, b, ns, rest, rfl, ht.2, by omega, nb, hl, hs, ok2, by omega, okr, rfl, fun y S3 hy ny dy sy ok3 t3 t3' => ?_⟩
      refine ⟨_, _, rfl, _, rfl, _, rfl, ite_b (fun h7 => ?_) (fun h7 => ?_)⟩
      · exact ⟨_, rfl, _, 0, _, rfl, rfl, rfl, _, rfl, _, rfl, by show 3 ≤ sizeLine; omega, _, _, .refl, z (.or y x) S3 ⟨hy, hx⟩ (both ny nx) (by show max y.dep x.dep + 1 ≤ _; omega) (by show y.size + x.size + 1 + 2 ≤ _; omega) ok3 (by omega) (by omega)⟩
      · have e : D.int (if decide (("or" : Str) = ("and" : Str)) = true then (1 : Int) else 0) = .int 0 := congrArg D.int (by decide +kernel)
        exact ⟨by show 2 ≤ sizeLine; omega, _, rfl, _, 0, _, rfl, rfl, rfl, _, _, rfl, rfl, .inr ⟨_, rfl, _, 0, _, rfl, e, rfl, _, rfl, by show 2 ≤ sizeLine; omega, _, rfl, by show 2 ≤ sizeLine; omega, by show 3 ≤ sizeLine; omega, by show 2 ≤ sizeLine; omega, _, _, .refl, z (.no (.an (.no x) (.no y))) S3 ⟨hx, hy⟩ (both nx ny) (by show max (x.dep + 1) (y.dep + 1) + 1 + 1 ≤ _; omega) (by show (x.size + 1) + (y.size + 1) + 1 + 1 + 2 ≤ _; omega) ok3 (by omega) (by omega)⟩⟩
end
end Dl

namespace Dl
open PySem PySem.Spec L2
open PyProof.Rows hiding St Binds

/-! ### x > y of a class that has < alone -/
section
variable {prog : Program} {w : World} {A : Around} {E : Value → Shared → Prop} {s : Shared} {K : PySem.W.Frag} {x C f : Addr} {ox : Obj} {od : Option Obj} {b : Value} {h₀ : Heap} {L : Addr} {m : Str → Option Value}
/-! > -/
theorem ogt_slot : Slot "object" "__gt__" "object.__gt__" :=
  .of (owner := "object") (n := "__gt__") (by rw [typeLookup_type, builtinLookup_eq_fast]; kernel_rfl) (by decide +kernel) (by decide +kernel) (by decide +kernel)
    (by first | exact .inl (by decide +kernel) | exact .inr (by decide +kernel)) (by rw [isSubtype_type]; kernel_rfl)
theorem ogt_entry : entryFor table "object.__gt__" = some Builtin.«object.__gt__» := entryFor_of_tree (by kernel_rfl)
theorem ogt_kind : builtinKind "object.__gt__" = some .slot := by decide +kernel
theorem ogt_split : splitId "object.__gt__" = some ("object", "__gt__") := by decide +kernel
theorem ogt_args (a b : Value) : argsOk "object.__gt__" ⟨[a, b], []⟩ := by unfold argsOk; kernel_rfl
theorem ogt_says {Q : Fin → Shared → Prop} (h : Q (.done (.ret .notImplemented)) s) : wpAny (model prog w) A (Builtin.«object.__gt__» ⟨[.ref x, b], []⟩) Q E s := by
  refine wpAny_of_eq (a := .done (.ret .notImplemented)) ?_ h
  first | rfl | kernel_rfl
theorem ogt_call {Q : Value → Shared → Prop} (X : K.In s.heap) (I : PySem.W.InstAt s.heap x ox C od) (hm : PySem.W.mroIn K C (.type "object") = some true) (h : Q .notImplemented s) : wpAny (model prog w) A (call (.builtin "object.__gt__") [.ref x, b]) Q E s :=
  wpAny_call (codeAny_call_builtin ogt_slot.plain ogt_entry (PySem.W.check_slot ogt_kind ogt_split (I.type.andThen (PySem.W.looks_mroIn X hm)) (ogt_args _ _) (ogt_says h)))
/-- x > y: y's < -/
theorem ogt_rich {y : Addr} {oy : Obj} {ody : Option Obj} {Q : Value → Shared → Prop} (hu : A.units < cLine) (X : K.In s.heap) (I : PySem.W.InstAt s.heap x ox C od) (J : PySem.W.InstAt s.heap y oy C ody) (hm : PySem.W.mroIn K C (.type "object") = some true)
    (hgt : PySem.W.findIn K (.ref C) "__gt__" = some (some (.builtin "object.__gt__"))) (hs : PySem.W.findIn K (.ref C) "__lt__" = some (some (.ref f))) (hf : PySem.W.isFn K (.ref f) = true)
    (h : wpAny (model prog w) A (call (.ref f) [.ref y, .ref x]) (PySem.W.CmpBack Q) E s) : wpAny (model prog w) A (richCompare .Gt (.ref x) (.ref y)) Q E s := by
  have one : wpAny (model prog w) A (tryCompare (.ref x) "__gt__" (.ref y)) (fun r s' => r = none ∧ s' = s) E s := by
    unfold tryCompare
    exact wpAny_bind (bound_slot ogt_slot X I hgt (ogt_call X I hm (wpAny_pure ⟨rfl, rfl⟩)))
  have two : wpAny (model prog w) A (tryCompare (.ref y) "__lt__" (.ref x)) (fun r s' => ∃ v, r = some v ∧ Q v s') E s := by
    unfold tryCompare
    refine wpAny_bind (PySem.W.ifBound_K X J hs hf (wpAny_mono h (fun v s' hv => ?_) fun _ _ e => e))
    cases v <;> first | exact hv.elim | exact wpAny_pure ⟨_, rfl, hv⟩
  have hi : cmpInfo .Gt = ((">", "__gt__", "__lt__") : String × Str × Str) := rfl
  simp only [richCompare, hi, oneThing_ref]
  refine wpAny_holding (wpAny_bind (wpAny_cRoomFor hu ?_))
  refine wpAny_bind (I.type.here (wpAny_bind (J.type.here ?_)))
  split
  · rename_i q; simp at q
  · refine wpAny_bind (wpAny_pure ?_)
    simp only [Bool.false_eq_true, if_false, Bool.not_false, if_true]
    refine wpAny_bind (m := tryCompare (.ref x) _ (.ref y)) (wpAny_mono one (fun r s1 z => ?_) fun _ _ e => e)
    obtain ⟨rfl, rfl⟩ := z
    refine wpAny_bind (m := tryCompare (.ref y) _ (.ref x)) (wpAny_mono two (fun r s2 z => ?_) fun _ _ e => e)
    obtain ⟨v, rfl, hq⟩ := z
    exact wpAny_pure hq
end

section
variable {X : Cx} {C : Addr} {F : FD} {j k : Nat} {K : PySem.W.Frag}
/-- x > y by y's <, both of the class at C -/
def gGtO (C : Addr) (F : FD) : G2 := fun x y μ Q => ∃ fd fd', asI μ x = some (C, fd) ∧ asI μ y = some (C, fd') ∧ F [y, x] μ Q (fun _ _ _ => False)
theorem opd_gtO (c : MetX X k C "__lt__" F []) (hm : PySem.W.mroIn X.K C (.type "object") = some true) (hgt : PySem.W.findIn X.K (.ref C) "__gt__" = some (some (.builtin "object.__gt__"))) (hG : X.A.guards = some []) (hr : Room j X.A) (hk : k ≤ j) :
    OpD X (compareOp .Gt) (gGtO C F) := by
  obtain ⟨f, fd0, ps, dvs, ds, Fg, hM, hb, hv, hd⟩ := c.ex
  refine ⟨fun x y μ Q Q' h ⟨fd, fd', e1, e2, q⟩ => ⟨fd, fd', e1, e2, c.mono _ _ _ _ _ _ h (fun _ _ _ z => z) q⟩,
    fun x y H Q => ∃ a dx fv b dy fw, x = .ref a ∧ y = .ref b ∧ H a = some (.ins C dx fv) ∧ H b = some (.ins C dy fw) ∧ spD X.K F ([y, x] ++ dvs) H Q (fun _ _ _ => False), ?_, ?_⟩
  · intro pins s σ H x y v u Q I rx ry h
    obtain ⟨a, dx, fv, b, dy, fw, rfl, rfl, ha, hb', q⟩ := h
    cases (show v = Value.ref a from rx)
    cases (show u = Value.ref b from ry)
    obtain ⟨mA, O, _, _, _, _⟩ := ins_get I.hok ha
    obtain ⟨od, J, _⟩ := O.look
    obtain ⟨mA', O', _, _, _, _⟩ := ins_get I.hok hb'
    obtain ⟨od', J', _⟩ := O'.look
    rw [show compareOp .Gt (.ref a) (.ref b) = richCompare .Gt (.ref a) (.ref b) from rfl]
    refine ogt_rich (hr.mono hk).units0 I.kIn J J' hm hgt hM.at_ hM.fn ?_
    refine wpAny_mono (g_run (us := [.ref b, .ref a]) (vs := [.ref b, .ref a]) hG Fg (hr.mono hk) hb hv (passNo (k := k) fun _ _ _ z => z) I (.cons rfl (.cons rfl .nil)) q) (fun w s' z => ?_) fun _ _ z => z
    obtain ⟨z', H', I', rz, qz⟩ := z
    exact SlX.cmpback rz ⟨z', H', I', rz, qz⟩
  · rintro ι H μ x y dx dy Q r ax ay ⟨fd, fd', e1, e2, q⟩
    obtain ⟨a, dxx, fv, rfl, ha, _⟩ := asI_at r ax e1
    obtain ⟨b, dyy, fw, rfl, hb', _⟩ := asI_at r ay e2
    exact ⟨a, dxx, fv, b, dyy, fw, rfl, rfl, ha, hb', ι, μ, _, r, (Ats.cons ay (Ats.cons ax Ats.nil)).app (hd ι H), c.mono [dy, dx] μ _ _ (fun _ _ _ => False) _ (fun _ _ z => z) (fun _ _ _ z => z.elim) q⟩
end
end Dl

/-! x in y, y a list or a tuple of plain data (lists of texts among them) -/
namespace Dl
open PySem PySem.Spec L2
open PyProof.Rows hiding St Binds
section
variable {X : Cx}
def amongP (neg : Bool) (d : PyData) (xs : List PyData) : Bool := if neg then !(xs.any fun y => PyData.eqv y d) else xs.any fun y => PyData.eqv y d
def inPl (neg : Bool) : G2 := fun x y μ Q => ∃ d xs, pyS μ x = some d ∧ (pyS μ y = some (.list xs) ∨ pyS μ y = some (.tuple xs)) ∧ d.plain = true ∧ PyData.plainAll xs = true ∧ d.depth ≤ 60 ∧ Q (.bl (amongP neg d xs)) μ
theorem inPl_mono (neg : Bool) : ∀ x y μ (Q Q' : QD), (∀ d m, Q d m → Q' d m) → inPl neg x y μ Q → inPl neg x y μ Q' :=
  fun x y μ Q Q' h ⟨d, xs, e1, e2, c1, c2, d1, z⟩ => ⟨d, xs, e1, e2, c1, c2, d1, h _ _ z⟩
theorem opd_inPl (hu : X.A.units + 64 < cLine) : OpD X (compareOp .In) (inPl false) :=
  ⟨inPl_mono false,
    fun x y H Q => ∃ d xs, Dp X.K H x d ∧ (Dp X.K H y (.list xs) ∨ Dp X.K H y (.tuple xs)) ∧ d.plain = true ∧ PyData.plainAll xs = true ∧ d.depth ≤ 60 ∧ Q (.bl (amongP false d xs)) H,
    fun pins s σ H x y v u Q I rx ry ⟨d, xs, hd, hy, c1, c2, d1, z⟩ => by
      obtain ⟨as, r1⟩ := Dp.reads I d x v hd rx
      rcases hy with hy | hy
      · obtain ⟨bs, r2⟩ := Dp.reads I _ y u hy ry
        exact SeqAt.in_list_data r2 r1 c2 c1 (by omega) ⟨.bl _, H, I, rfl, z⟩
      · obtain ⟨bs, r2⟩ := Dp.reads I _ y u hy ry
        exact SeqAt.in_tuple_data r2 r1 c2 c1 (by omega) ⟨.bl _, H, I, rfl, z⟩,
    fun ι H μ x y dx dy Q r a b ⟨d, xs, e1, e2, c1, c2, d1, z⟩ => ⟨d, xs, dpS_of r a e1, e2.imp (dpS_of r b) (dpS_of r b), c1, c2, d1, z ι H _ (Gr.refl _ _) r (.bl _)⟩⟩
end
end Dl

/-! a comprehension over data that stand for things of another type -/
namespace Dl
open PySem PySem.Spec L2
open PyProof.Rows hiding St Binds
section
variable {g : FG} {ft : FT} {fe fk fv : FE} {vs : List Nat} {ρ : Rho} {Q : QD}
theorem lc_of {α : Type} (ts : List α) (h : α → D) (r : α → Option D) {st : Sto → Prop} {m : Sto} (hst : ∀ c, st (m ++ [.lst c]))
    (turn : ∀ a, a ∈ ts → ∀ (acc : List D), bdS (m ++ [CT.lst acc]).length (m ++ [CT.lst acc]) = true → ∀ (NX : D → Sto → Prop) (N0 : Sto → Prop), (∀ y, r a = some y → NX y (m ++ [.lst acc])) → (r a = none → N0 (m ++ [.lst acc])) →
      g (h a) (wipeD ρ vs) (m ++ [.lst acc]) (fun ρ2 μ2 => ft ρ2 μ2 (fun b m3 => if b = true then fe ρ2 m3 NX NE else N0 m3) NE))
    (hl : ts.length ≤ sizeLine) (bd : bdL m.length (ts.filterMap r) = true) (bm : bdS m.length m = true) (q : Q (.lst (ts.filterMap r)) m) :
    ∃ I : Nat → Sto → Prop, I 0 (m ++ [.lst []]) ∧ (∀ i μ', I i μ' → st μ') ∧
      (∀ i x μ', (ts.map h)[i]? = some x → I i μ' → g x (wipeD ρ vs) μ' (fun ρ2 μ2 => ft ρ2 μ2 (fun b m3 =>
        if b = true then fe ρ2 m3 (fun y m4 => ∃ acc, m4[m.length]? = some (.lst acc) ∧ acc.length < sizeLine ∧ I (i + 1) (m4.set m.length (.lst (acc ++ [y])))) NE else I (i + 1) m3) NE)) ∧
      ∀ μ', I (ts.map h).length μ' → ∃ d2 μ2, Fz m.length (.cell m.length) μ' d2 μ2 ∧ Q d2 μ2 := by
  refine ⟨fun i μ' => μ' = m ++ [.lst ((ts.take i).filterMap r)], rfl, fun i μ' e => by rw [e]; exact hst _, ?_, ?_⟩
  · rintro i x μ' hx rfl
    rw [List.getElem?_map] at hx
    obtain ⟨a, ha, rfl⟩ := Option.map_eq_some_iff.mp hx
    have next : ts.take (i + 1) = ts.take i ++ [a] := by rw [List.take_add_one, ha]; rfl
    have small : ((ts.take i).filterMap r).length < sizeLine := by
      have h1 := List.length_filterMap_le r (ts.take i)
      have h2 := (List.getElem?_eq_some_iff.mp ha).1
      rw [List.length_take] at h1
      omega
    have bt : bdL m.length ((ts.take i).filterMap r) = true := bdL_all.mpr fun d hd => by
      obtain ⟨y, hy, e⟩ := List.mem_filterMap.mp hd
      exact bdL_all.mp bd d (List.mem_filterMap.mpr ⟨y, List.mem_of_mem_take hy, e⟩)
    refine turn a (List.mem_of_getElem? ha) _ (bdS_lst bm bt) _ _ (fun y hy => ⟨_, by simp, small, ?_⟩) (fun hn => ?_)
    · dsimp only
      rw [List.set_append_right _ _ (Nat.le_refl _), Nat.sub_self, next, List.filterMap_append]
      simp [hy]
    · dsimp only
      rw [next, List.filterMap_append]
      simp [hn]
  · rintro μ' rfl
    rw [List.length_map, List.take_length]
    exact ⟨_, _, .lst (Nat.le_refl _) bd bm .refl, q⟩
/-- each thing gives one datum -/
theorem lc_to {α : Type} (ts : List α) (h r : α → D) {st : Sto → Prop} {m : Sto} (hst : ∀ c, st (m ++ [.lst c]))
    (turn : ∀ a, a ∈ ts → ∀ (acc : List D), bdS (m ++ [CT.lst acc]).length (m ++ [CT.lst acc]) = true → ∀ (NX : D → Sto → Prop) (N0 : Sto → Prop), NX (r a) (m ++ [.lst acc]) →
      g (h a) (wipeD ρ vs) (m ++ [.lst acc]) (fun ρ2 μ2 => ft ρ2 μ2 (fun b m3 => if b = true then fe ρ2 m3 NX NE else N0 m3) NE))
    (hl : ts.length ≤ sizeLine) (bd : bdL m.length (ts.map r) = true) (bm : bdS m.length m = true) (q : Q (.lst (ts.map r)) m) :
    ∃ I : Nat → Sto → Prop, I 0 (m ++ [.lst []]) ∧ (∀ i μ', I i μ' → st μ') ∧
      (∀ i x μ', (ts.map h)[i]? = some x → I i μ' → g x (wipeD ρ vs) μ' (fun ρ2 μ2 => ft ρ2 μ2 (fun b m3 =>
        if b = true then fe ρ2 m3 (fun y m4 => ∃ acc, m4[m.length]? = some (.lst acc) ∧ acc.length < sizeLine ∧ I (i + 1) (m4.set m.length (.lst (acc ++ [y])))) NE else I (i + 1) m3) NE)) ∧
      ∀ μ', I (ts.map h).length μ' → ∃ d2 μ2, Fz m.length (.cell m.length) μ' d2 μ2 ∧ Q d2 μ2 := by
  have e : ts.filterMap (fun a => some (r a)) = ts.map r := by rw [← List.filterMap_eq_map]; rfl
  refine lc_of ts h (fun a => some (r a)) hst (fun a ha acc ba NX N0 y n => turn a ha acc ba NX N0 (y _ rfl)) hl (by rw [e]; exact bd) bm (by rw [e]; exact q)
end
end Dl

namespace Dl
open PySem PySem.Spec L2
open PyProof.Rows hiding St Binds
section
variable {P : Program} {w : World} {K : PySem.W.Frag} {mg : Str → Option Value} {base : Heap} {C_Condition C_BadName : Addr}
abbrev sLaw : Stmt := top 34
abbrev nLaw : List Str := ["_law_script", "_law_stream", "_law_names_here", "_law_one_tree", "_law_trees", "_law_shown", "_law_some", "_law_tree", "_law_made", "_law_k", "_law_j", "_law_within", "_law_same_here", "_law_asked", "_law_joined"]
theorem scLaw : FnScope nLaw ["_law_script"] (defScope sLaw) := ⟨rfl, rfl, rfl, by decide +kernel, rfl, by decide +kernel, by decide +kernel⟩





/-- the sets for which a tree holds -/
def shL (ns : List Str) (t : Tr) : List (List Str) := (setsL ns).filter fun s => t.hold fun n => decide (n ∈ s)
def shD (ns : List Str) (t : Tr) : D := .lst (seD (shL ns t))
theorem shL_len {ns : List Str} (h : ns.length ≤ 7) (t : Tr) : (shL ns t).length ≤ 128 := by
  have h1 := List.length_filter_le (fun s => t.hold fun n => decide (n ∈ s)) (setsL ns)
  rw [setsL_len] at h1
  have h2 : 2 ^ ns.length ≤ 2 ^ 7 := Nat.pow_le_pow_right (by decide) h
  unfold shL
  omega
theorem shD_bd (n : Nat) (ns : List Str) (ts : List Tr) : bdL n (ts.map (shD ns)) = true := bdL_all.mpr fun d hd => by
  obtain ⟨t, _, rfl⟩ := List.mem_map.mp hd
  show bdL n (seD _) = true
  exact seD_bd
theorem shL_map (ns : List Str) (t : Tr) : ∀ l : List (List Str), (l.filterMap fun s => if (t.hold fun n => decide (n ∈ s)) = true then some (D.lst (s.map .str)) else none) = seD (l.filter fun s => t.hold fun n => decide (n ∈ s))
  | [] => rfl
  | s :: l => by
    have ih := shL_map ns t l
    cases e : (t.hold fun n => decide (n ∈ s)) with
    | true => rw [List.filterMap_cons, List.filter_cons, e]; simp only [if_true]; rw [ih]; rfl
    | false => rw [List.filterMap_cons, List.filter_cons, e]; simp only [Bool.false_eq_true, if_false]; exact ih
theorem pyA_strs : ∀ ss : List Str, pyAll (ss.map D.str) = some (ss.map PyData.str)
  | [] => rfl
  | s :: ss => by simp only [List.map_cons, pyAll, D.py, pyA_strs ss]
theorem pyA_sets : ∀ l : List (List Str), pyAll (seD l) = some (l.map fun s => PyData.list (s.map .str))
  | [] => rfl
  | s :: l => by
    have ih := pyA_sets l
    show pyAll (D.lst (s.map D.str) :: seD l) = _
    simp only [pyAll, D.py, pyA_strs s, ih, Option.map_some, List.map_cons]
theorem eqvA_strs : ∀ a b : List Str, PyData.eqvAll (a.map .str) (b.map .str) = decide (a = b)
  | [], [] => rfl
  | [], b :: bs => rfl
  | a :: as, [] => rfl
  | a :: as, b :: bs => by
    simp only [List.map_cons, PyData.eqvAll, PyData.eqv, eqvA_strs as bs]
    by_cases h : a = b
    · subst h; simp
    · simp [h]
theorem eqvA_sets : ∀ a b : List (List Str), PyData.eqvAll (a.map fun s => PyData.list (s.map .str)) (b.map fun s => PyData.list (s.map .str)) = decide (a = b)
  | [], [] => rfl
  | [], b :: bs => rfl
  | a :: as, [] => rfl
  | a :: as, b :: bs => by
    simp only [List.map_cons, PyData.eqvAll, PyData.eqv, eqvA_sets as bs, eqvA_strs]
    by_cases h : a = b
    · subst h; simp
    · simp [h]
theorem plainA_sets : ∀ l : List (List Str), PyData.plainAll (l.map fun s => PyData.list (s.map .str)) = true
  | [] => rfl
  | s :: l => by
    have h := plain_strs s
    simp only [List.map_cons, PyData.plainAll, h, plainA_sets l, Bool.and_self]
theorem depA_strs : ∀ ss : List Str, PyData.depthAll (ss.map PyData.str) ≤ 1
  | [] => by decide
  | s :: ss => by
    have h := depA_strs ss
    simp only [List.map_cons, PyData.depthAll, PyData.depth]
    omega
theorem depL_strs (ss : List Str) : (PyData.list (ss.map .str)).depth ≤ 2 := by
  have h := depA_strs ss
  simp only [PyData.depth]
  omega
theorem depA_sets : ∀ l : List (List Str), PyData.depthAll (l.map fun s => PyData.list (s.map .str)) ≤ 3
  | [] => by decide
  | s :: l => by
    have h := depA_sets l
    have h2 := depL_strs s
    simp only [List.map_cons, PyData.depthAll]
    omega
theorem among_sets (neg : Bool) (s : List Str) (l : List (List Str)) : amongP neg (.list (s.map .str)) (l.map fun s => PyData.list (s.map .str)) = (if neg then decide (s ∉ l) else decide (s ∈ l)) := by
  have e : (l.map fun s => PyData.list (s.map .str)).any (fun y => PyData.eqv y (.list (s.map .str))) = decide (s ∈ l) := by
    rw [List.any_map]
    induction l with
    | nil => simp
    | cons a l ih =>
      rw [List.any_cons, ih]
      simp only [Function.comp, PyData.eqv, eqvA_strs]
      by_cases h : a = s
      · subst h; simp
      · have h2 : s ≠ a := fun e => h e.symm
        simp [h, h2]
  unfold amongP
  rw [e]
  cases neg <;> simp
theorem in_sets {μ : Sto} {Q : QD} (neg : Bool) (s : List Str) (l : List (List Str)) (h : Q (.bl (if neg then decide (s ∉ l) else decide (s ∈ l))) μ) : inPl neg (.lst (s.map .str)) (.lst (seD l)) μ Q :=
  ⟨.list (s.map .str), l.map fun s => .list (s.map .str), by show (pyAll _).map _ = _; rw [pyA_strs]; rfl, .inl (by show (pyAll _).map _ = _; rw [pyA_sets]; rfl), plain_strs s, plainA_sets l, Nat.le_trans (depL_strs s) (by decide), by rw [among_sets]; exact h⟩
theorem eq_sets {μ : Sto} {Q : QD} (a b : List (List Str)) (h : Q (.bl (decide (a = b))) μ) : eqPl (.lst (seD a)) (.lst (seD b)) μ Q :=
  ⟨.list (a.map fun s => .list (s.map .str)), .list (b.map fun s => .list (s.map .str)), by show (pyAll _).map _ = _; rw [pyA_sets]; rfl, by show (pyAll _).map _ = _; rw [pyA_sets]; rfl, by simp only [PyData.plain]; exact plainA_sets a, by simp only [PyData.plain]; exact plainA_sets b,
    by have := depA_sets a; simp only [PyData.depth]; omega, by simp only [PyData.eqv, eqvA_sets]; exact h⟩
theorem and_not {ρ : Rho} {μ : Sto} {N : QD} {E : ED} {i j : Nat} {b c : Bool} (hi : ρ[i]? = some (some (.bl b))) (hj : ρ[j]? = some (some (.bl c))) (h : N (.bl (b && !c)) μ) : fAndV (fVar i) (fNotV (fVar j)) ρ μ N E := by
  refine ⟨_, hi, b, rfl, ?_⟩
  cases b with
  | true => exact ⟨_, hj, c, rfl, h⟩
  | false => exact h
theorem lt_is {b W S : Bool} {P Q R : Prop} (hb : b = true ↔ P ∧ ¬ Q) (hW : W = true ↔ P) (hS : S = true ↔ R) (h : R ↔ P ∧ Q) : b = (W && !S) := by
  apply Bool.eq_iff_iff.mpr
  rw [hb, Bool.and_eq_true, hW, Bool.not_eq_true', ← Bool.not_eq_true, hS, h]
  exact ⟨fun ⟨a, c⟩ => ⟨a, fun z => c z.2⟩, fun ⟨a, c⟩ => ⟨a, fun z => c ⟨a, z⟩⟩⟩
theorem eq_both {t u : Tr} : (∀ g : Str → Bool, t.hold g = u.hold g) ↔ (∀ g : Str → Bool, t.hold g = true → u.hold g = true) ∧ ∀ g : Str → Bool, u.hold g = true → t.hold g = true :=
  ⟨fun h => ⟨fun g e => by rw [← h g]; exact e, fun g e => by rw [h g]; exact e⟩, fun ⟨h1, h2⟩ g => Bool.eq_iff_iff.mpr ⟨h1 g, h2 g⟩⟩
theorem fm_bl {α : Type} (p f : α → Bool) : ∀ l : List α, (l.filterMap fun a => if p a = true then some (D.bl (f a)) else none) = ((l.filter p).map f).map D.bl
  | [] => rfl
  | a :: l => by
    have ih := fm_bl p f l
    cases e : p a with
    | true => rw [List.filterMap_cons, List.filter_cons, e]; simp only [if_true]; rw [ih]; rfl
    | false => rw [List.filterMap_cons, List.filter_cons, e]; simp only [Bool.false_eq_true, if_false]; exact ih
theorem ok_bl (b : Bool) : okR (.bool b) := by cases b <;> exact okR_of rfl rfl rfl (by decide) (by decide)
theorem filter_eq {α : Type} {l : List α} {p q : α → Bool} : l.filter p = l.filter q ↔ ∀ x ∈ l, p x = q x := by
  constructor
  · intro h x hx
    have e : x ∈ l.filter p ↔ x ∈ l.filter q := by rw [h]
    rw [List.mem_filter, List.mem_filter] at e
    cases hp : p x <;> cases hq : q x <;> simp_all
  · exact fun h => List.filter_congr h
theorem sh_eq {ns : List Str} {t u : Tr} (ht : ∀ s ∈ t.nms, s ∈ ns) (hu : ∀ s ∈ u.nms, s ∈ ns) : decide (shL ns t = shL ns u) = true ↔ ∀ g : Str → Bool, t.hold g = u.hold g := by
  rw [decide_eq_true_iff]
  unfold shL
  rw [filter_eq]
  exact sets_all (R := fun a b => a = b) ht hu
theorem sh_le {ns : List Str} {t u : Tr} (ht : ∀ s ∈ t.nms, s ∈ ns) (hu : ∀ s ∈ u.nms, s ∈ ns) : ((shL ns t).map fun s => decide (s ∈ shL ns u)).all id = true ↔ ∀ g : Str → Bool, t.hold g = true → u.hold g = true := by
  rw [← sets_all (R := fun a b => a = true → b = true) ht hu, List.all_map, List.all_eq_true]
  unfold shL
  constructor
  · intro h s hs ts
    have := h s (List.mem_filter.mpr ⟨hs, ts⟩)
    simp only [Function.comp, id] at this
    exact (List.mem_filter.mp (of_decide_eq_true this)).2
  · intro h s hs
    obtain ⟨h1, h2⟩ := List.mem_filter.mp hs
    simp only [Function.comp, id]
    exact decide_eq_true (List.mem_filter.mpr ⟨h1, h s h1 h2⟩)
theorem sh_mem {ns s : List Str} {t : Tr} : s ∈ shL ns t ↔ s ∈ setsL ns ∧ (t.hold fun n => decide (n ∈ s)) = true := List.mem_filter
theorem sh_joined {ns : List Str} {t u v : Tr} (ht : ∀ s ∈ t.nms, s ∈ ns) (hu : ∀ s ∈ u.nms, s ∈ ns) (hv : ∀ s ∈ v.nms, s ∈ ns) :
    (((shL ns t).filter fun s => decide (s ∈ shL ns u)).map fun s => decide (s ∈ shL ns v) || !decide (s ∈ shL ns u)).all id = true ↔ ∀ g : Str → Bool, (Tr.an t u).hold g = true → (Tr.or v (.no u)).hold g = true := by
  have n1 : ∀ s ∈ (Tr.an t u).nms, s ∈ ns := fun s m => (List.mem_append.mp m).elim (ht s) (hu s)
  have n2 : ∀ s ∈ (Tr.or v (.no u)).nms, s ∈ ns := fun s m => (List.mem_append.mp m).elim (hv s) (hu s)
  rw [← sets_all (R := fun a b => a = true → b = true) n1 n2, List.all_map, List.all_eq_true]
  constructor
  · intro h s hs ts
    obtain ⟨t1, t2⟩ := Bool.and_eq_true_iff.mp (show ((t.hold fun n => decide (n ∈ s)) && (u.hold fun n => decide (n ∈ s))) = true from ts)
    have m2 : s ∈ shL ns u := sh_mem.mpr ⟨hs, t2⟩
    have := h s (List.mem_filter.mpr ⟨sh_mem.mpr ⟨hs, t1⟩, decide_eq_true m2⟩)
    simp only [Function.comp, id, decide_eq_true m2, Bool.not_true, Bool.or_false] at this
    show ((v.hold fun n => decide (n ∈ s)) || !(u.hold fun n => decide (n ∈ s))) = true
    rw [(sh_mem.mp (of_decide_eq_true this)).2]; rfl
  · intro h s hs
    obtain ⟨h1, h2⟩ := List.mem_filter.mp hs
    obtain ⟨a1, a2⟩ := sh_mem.mp h1
    obtain ⟨_, b2⟩ := sh_mem.mp (of_decide_eq_true h2)
    have c := h s a1 (show ((t.hold fun n => decide (n ∈ s)) && (u.hold fun n => decide (n ∈ s))) = true by rw [a2, b2]; rfl)
    have c : ((v.hold fun n => decide (n ∈ s)) || !(u.hold fun n => decide (n ∈ s))) = true := c
    rw [b2, Bool.not_true, Bool.or_false] at c
    simp only [Function.comp, id, decide_eq_true (sh_mem.mpr ⟨a1, c⟩ : s ∈ shL ns v), Bool.true_or]
theorem mdD_bd (C : Addr) (n : Nat) (ts : List Tr) : bdL n (ts.map fun t => cD C t.words) = true := bdL_all.mpr fun d hd => by
  obtain ⟨t, _, rfl⟩ := List.mem_map.mp hd
  show ((D.tup (t.words.map .str)).bd _ && true) = true
  rw [Bool.and_true]
  exact bdL_strs _
inductive FLaw (ds : List D) (μ : Sto) (Q : QD) (E : XD) : Prop
  | mk (ns : List Int) (a1 : ds = [.fzl (ns.map .int)]) (a2 : ns.length ≤ 63) (a3 : μ = []) (a4 : ∀ μ', Q (.bl true) μ') : FLaw ds μ Q E
theorem FLaw.mono  : MonF (FLaw) := fun ds μ Q Q' E E' h he q => match q with | .mk ns a1 a2 a3 a4 => .mk ns a1 a2 a3 (by intros; apply h; apply a4 <;> assumption)
theorem FLaw.len  : ∀ ds μ Q E, FLaw ds μ Q E → ds.length = 1 := fun ds μ Q E q => by obtain ⟨_, e, _, _, _⟩ := q; rw [e]; rfl
theorem cal_law (isC_Condition : IsC K C_Condition) (sf_Condition : PySem.W.selfFirst K C_Condition = true) (hmO : PySem.W.mroIn K C_Condition (.type "object") = some true) (hne : PySem.W.findIn K (.ref C_Condition) "__ne__" = some (some (.builtin "object.__ne__"))) (hge : PySem.W.findIn K (.ref C_Condition) "__ge__" = some (some (.builtin "object.__ge__"))) (hgt : PySem.W.findIn K (.ref C_Condition) "__gt__" = some (some (.builtin "object.__gt__")))
    (nfC : PySem.W.notFirst K C_Condition (.ref C_Condition) = true) (nfs : PySem.W.notFirst K C_Condition (.type "str") = true) (nfi : PySem.W.notFirst K C_Condition (.type "int") = true)
    (cD : Cal P w K mg base 1 "_law_draw" FDraw []) (cNs : Cal P w K mg base 3 "_law_names" FNames []) (cSm : Cal P w K mg base 1 "_law_same" FSame [])
    (cC5 : Cal P w K mg base 7 "_law_condition" (FCnd 5) []) (cBS : Cal P w K mg base 24 "_law_built" (FBlS C_Condition 20) []) (cHoS : Cal P w K mg base 21 "_law_holds" (FLHo 20) []) (cCh : Cal P w K mg base 11 "_law_changed" (FLCh 4) []) (cTx : Cal P w K mg base 41 "_law_text" (FLTx 20) []) (cLSt : Cal P w K mg base 1 "_law_sets" FLSt [])
    (cCeq : Met P w K mg base 3 C_Condition "__eq__" (FCeq C_Condition) []) (cCeqT : Met P w K mg base 3 C_Condition "__eq__" (FCeqT C_Condition) []) (cCle : Met P w K mg base 3 C_Condition "__le__" (FCle C_Condition) []) (cClt : Met P w K mg base 3 C_Condition "__lt__" (FClt C_Condition) [])
    (cAnd : Met P w K mg base 3 C_Condition "__and__" (FBin C_Condition ("and" : Str)) []) (cOr : Met P w K mg base 3 C_Condition "__or__" (FBin C_Condition ("or" : Str)) []) (cInv : Met P w K mg base 3 C_Condition "__invert__" (FInv C_Condition) [])
    {f : Addr} {fd : FuncData} {qual : Str} (T : NoB mg) (Fu : Fun K "law" qual sLaw f fd) (hm : mg "law" = some (.ref f)) (hk : PySem.W.keepIn K (.ref f) = true) (hb : L2.Binds K fd ["_law_script"] []) : FnG P w K mg base (L2.CX P w) 43 f fd ["_law_script"] (spD K FLaw) := by
  have nd := scLaw.nd
  refine fn_body (anyFun Fu) scLaw ?_ (fun cdv A outer s H E hG hr =>
    have hu : (cxOf (L2.CX P w) P w K mg base nLaw qual (defScope sLaw) f cdv A outer s H E).A.units + 64 < cLine := by have := hr.un; show (A.deeper _).units + 64 < _; omega
    have hv : (cxOf (L2.CX P w) P w K mg base nLaw qual (defScope sLaw) f cdv A outer s H E).A.units + 1 < cLine := by omega
    have tk := takes_of (X := cxOf (L2.CX P w) P w K mg base nLaw qual (defScope sLaw) f cdv A outer s H E) (E := E) rfl rfl rfl rfl
    have pw := passes_of (X := cxOf (L2.CX P w) P w K mg base nLaw qual (defScope sLaw) f cdv A outer s H E) rfl
    (ds_cons (ds_set (i := 1) nd rfl (by first | exact .inl rfl | exact .inr rfl) (de_lstC (da_cons (de_callTy cad_listZ (by rfl) T.list (by decide +kernel) (da_cons (de_var 0 rfl) da_nil)) (da_cons de_int (da_cons de_int (da_cons de_int da_nil))))))
      (ds_cons (ds_set (i := 2) nd rfl (by first | exact .inl rfl | exact .inr rfl) (de_call cNs hG hr (by decide) (by rfl) tk (da_cons (de_var 1 rfl) (da_cons (de_call cD hG hr (by decide) (by rfl) tk (da_cons (de_var 1 rfl) (da_cons de_int da_nil))) (da_cons (de_lstD da_nil) da_nil)))))
      (ds_cons (ds_set (i := 3) nd rfl (by first | exact .inl rfl | exact .inr rfl) (de_call cC5 hG hr (by decide) (by rfl) tk (da_cons (de_var 1 rfl) (da_cons (de_var 2 rfl) (da_cons de_int da_nil)))))
      (ds_cons (ds_set (i := 4) nd rfl (by first | exact .inl rfl | exact .inr rfl) (de_lstD (da_cons (de_var 3 rfl) (da_cons (de_call cCh hG hr (by decide) (by rfl) tk (da_cons (de_var 1 rfl) (da_cons (de_var 3 rfl) (da_cons (de_var 2 rfl) da_nil)))) (da_cons (de_call cC5 hG hr (by decide) (by rfl) tk (da_cons (de_var 1 rfl) (da_cons (de_var 2 rfl) (da_cons de_int da_nil)))) da_nil)))))
      (ds_cons (ds_set (i := 5) nd rfl (by first | exact .inl rfl | exact .inr rfl) (de_lc (own := [("_law_tree", 7)]) rfl nd (di_seq (de_var 4 rfl)) (blkOk_by (N := nLaw) (sc := defScope sLaw) (by decide +kernel)) (fun _ _ _ _ _ => (dgw_name (i := 7) nd rfl (by first | exact .inl rfl | exact .inr rfl) (by decide))) (fun _ _ _ _ _ => dts_nil) (fun _ _ _ _ _ => (de_lc (own := [("_law_some", 6)]) rfl nd (di_seq (de_call cLSt hG hr (by decide) (by rfl) takesNW (da_cons (de_var 2 rfl) da_nil))) (blkOk_by (by kernel_rfl)) (fun _ _ _ _ _ => (dgw_name (i := 6) nd rfl (by first | exact .inl rfl | exact .inr rfl) (by decide))) (fun _ _ _ _ _ => (dts_one (dt_val (de_call cHoS hG hr (by decide) (by rfl) takesNW (da_cons (de_var 7 rfl) (da_cons (de_var 6 rfl) da_nil)))))) (fun _ _ _ _ _ => (de_var 6 rfl))))))
      (ds_cons (ds_setLc (i := 8) (own := [("_law_tree", 7)]) rfl nd rfl rfl rfl (di_seq (de_var 4 rfl)) (blkOk_by (N := nLaw) (sc := defScope sLaw) (by decide +kernel)) (fun _ _ _ _ _ => (dgw_name (i := 7) nd rfl (by first | exact .inl rfl | exact .inr rfl) (by decide))) (fun _ _ _ _ _ => dts_nil) (fun _ _ _ _ _ => (de_call cBS hG hr (by decide) (by rfl) takesNW (da_cons (de_var 7 rfl) da_nil))))
      (ds_cons (ds_for pw rfl (di_seq (de_lstD (da_cons (de_tup (da_cons de_int (da_cons de_int da_nil))) (da_cons (de_tup (da_cons de_int (da_cons de_int da_nil))) (da_cons (de_tup (da_cons de_int (da_cons de_int da_nil))) (da_cons (de_tup (da_cons de_int (da_cons de_int da_nil))) (da_cons (de_tup (da_cons de_int (da_cons de_int da_nil))) da_nil))))))) (dg_tup (n := 2) rfl (dgs_cons (dg_name (i := 9) nd rfl (by first | exact .inl rfl | exact .inr rfl)) (dgs_cons (dg_name (i := 10) nd rfl (by first | exact .inl rfl | exact .inr rfl)) dgs_nil))) (ds_cons (ds_set (i := 11) nd rfl (by first | exact .inl rfl | exact .inr rfl) (de_callB (cad_all rfl) (by rfl) T.all (by decide +kernel) (da_cons (de_lc (own := [("_law_some", 6)]) rfl nd (di_seq (de_ixL (de_var 5 rfl) (de_var 9 rfl))) (blkOk_by (N := nLaw) (sc := defScope sLaw) (by decide +kernel)) (fun _ _ _ _ _ => (dgw_name (i := 6) nd rfl (by first | exact .inl rfl | exact .inr rfl) (by decide))) (fun _ _ _ _ _ => dts_nil) (fun _ _ _ _ _ => (de_cmp (opd_inPl hu) (de_var 6 rfl) (de_ixL (de_var 5 rfl) (de_var 10 rfl))))) da_nil)))
      (ds_cons (ds_set (i := 12) nd rfl (by first | exact .inl rfl | exact .inr rfl) (de_cmp (opd_eqPl hu) (de_ixL (de_var 5 rfl) (de_var 9 rfl)) (de_ixL (de_var 5 rfl) (de_var 10 rfl))))
      (ds_cons (ds_set (i := 13) nd rfl (by first | exact .inl rfl | exact .inr rfl) (de_lstD (da_cons (de_cmp (opd_own (fun _ _ => rfl) cCeq hG hr (by decide)) (de_ixL (de_var 8 rfl) (de_var 9 rfl)) (de_ixL (de_var 8 rfl) (de_var 10 rfl))) (da_cons (de_cmp (opd_neO cCeq hmO hne hG hr (by decide)) (de_ixL (de_var 8 rfl) (de_var 9 rfl)) (de_ixL (de_var 8 rfl) (de_var 10 rfl))) (da_cons (de_cmp (opd_own (fun _ _ => rfl) cCle hG hr (by decide)) (de_ixL (de_var 8 rfl) (de_var 9 rfl)) (de_ixL (de_var 8 rfl) (de_var 10 rfl))) (da_cons (de_cmp (opd_own (fun _ _ => rfl) cClt hG hr (by decide)) (de_ixL (de_var 8 rfl) (de_var 9 rfl)) (de_ixL (de_var 8 rfl) (de_var 10 rfl))) da_nil))))))
      (ds_cons (ds_if (dt_not (dt_val (de_call cSm hG hr (by decide) (by rfl) tk (da_cons (de_var 13 rfl) (da_cons (de_lstD (da_cons (de_var 12 rfl) (da_cons (de_not (de_var 12 rfl)) (da_cons (de_var 11 rfl) (da_cons (de_and (de_var 11 rfl) (de_one (de_not (de_var 12 rfl)))) da_nil))))) da_nil))))) (ds_one (ds_ret de_bl)) ds_nil)
      (ds_one (ds_if (dt_not (dt_val (de_call cSm hG hr (by decide) (by rfl) tk (da_cons (de_lstD (da_cons (de_cmp (opd_geO cCle hmO hge hG hr (by decide)) (de_ixL (de_var 8 rfl) (de_var 10 rfl)) (de_ixL (de_var 8 rfl) (de_var 9 rfl))) (da_cons (de_cmp (opd_gtO cClt hmO hgt hG hr (by decide)) (de_ixL (de_var 8 rfl) (de_var 10 rfl)) (de_ixL (de_var 8 rfl) (de_var 9 rfl))) da_nil))) (da_cons (de_lstD (da_cons (de_var 11 rfl) (da_cons (de_and (de_var 11 rfl) (de_one (de_not (de_var 12 rfl)))) da_nil))) da_nil))))) (ds_one (ds_ret de_bl)) ds_nil)))))))
      (ds_cons (ds_for pw rfl (di_rng1 (by rfl) T.range (da_cons de_int da_nil)) (dg_name (i := 9) nd rfl (by first | exact .inl rfl | exact .inr rfl)) (ds_one (ds_if (DW.pt (dw_or (dt_cmp (opd_own (fun _ _ => rfl) cCeqT hG hr (by decide)) (de_ixL (de_var 8 rfl) (de_var 9 rfl)) (de_call cTx hG hr (by decide) (by rfl) tk (da_cons (de_ixL (de_var 4 rfl) (de_var 9 rfl)) da_nil))) (dw_or (dt_cmp (opd_own (fun _ _ => rfl) cCeqT hG hr (by decide)) (de_ixL (de_var 8 rfl) (de_var 9 rfl)) de_int) (dw_or1 (dt_not (dt_cmp (opd_neO cCeqT hmO hne hG hr (by decide)) (de_ixL (de_var 8 rfl) (de_var 9 rfl)) (de_call cTx hG hr (by decide) (by rfl) tk (da_cons (de_ixL (de_var 4 rfl) (de_var 9 rfl)) da_nil)))))))) (ds_one (ds_ret de_bl)) ds_nil)))
      (ds_cons (ds_set (i := 14) nd rfl (by first | exact .inl rfl | exact .inr rfl) (de_cmp (opd_own (fun _ _ => rfl) cCle hG hr (by decide)) (de_op (opd_bin isC_Condition sf_Condition cAnd hG hr (by decide)) (de_ixL (de_var 8 rfl) de_int) (de_ixL (de_var 8 rfl) de_int)) (de_op (opd_bin isC_Condition sf_Condition cOr hG hr (by decide)) (de_ixL (de_var 8 rfl) de_int) (de_inv cInv hG hr (by decide) (de_ixL (de_var 8 rfl) de_int)))))
      (ds_one (ds_ret (de_call cSm hG hr (by decide) (by rfl) tk (da_cons (de_var 14 rfl) (da_cons (de_callB (cad_all rfl) (by rfl) T.all (by decide +kernel) (da_cons (de_lc (own := [("_law_some", 6)]) rfl nd (di_seq (de_ixL (de_var 5 rfl) de_int)) (blkOk_by (N := nLaw) (sc := defScope sLaw) (by decide +kernel)) (fun _ _ _ _ _ => (dgw_name (i := 6) nd rfl (by first | exact .inl rfl | exact .inr rfl) (by decide))) (fun _ _ _ _ _ => (dts_one (dt_cmp (opd_inPl hu) (de_var 6 rfl) (de_ixL (de_var 5 rfl) de_int)))) (fun _ _ _ _ _ => (de_or (de_cmp (opd_inPl hu) (de_var 6 rfl) (de_ixL (de_var 5 rfl) de_int)) (de_one (de_not (de_cmp (opd_inPl hu) (de_var 6 rfl) (de_ixL (de_var 5 rfl) de_int))))))) da_nil)) da_nil))))))))))))))) ?_
  · exact FLaw.len
  · rintro ds μ Q E ⟨sc, rfl, hl, rfl, z⟩
    have sz := sizeLine_eq
    refine ⟨_, rfl, sc.map .int, rfl, by rw [List.length_map]; omega, by show 4 ≤ sizeLine; omega, ?_⟩
    have ok0 : Dr.ok ⟨sc, 0, 0, 0⟩ := ⟨Int.le_refl _, Int.le_refl _, Int.le_refl _, (by show (0 : Int) < 2147483647; decide)⟩
    have o0 : okRest [] := rfl
    refine ⟨_, rfl, _, rfl, ⟨sc, 0, 0, 0⟩, 7, [], rfl, by decide, by decide, ok0, by show (0 : Int) < 1000000; decide, rfl, fun r S1 r0 r1 ok1 t1 => ?_⟩
    have t1 : S1.t = 1 := t1
    obtain ⟨k, rfl⟩ : ∃ k : Nat, r = k := ⟨r.toNat, by omega⟩
    refine ⟨by show 0 ≤ sizeLine; omega, S1, k, [], [], rfl, by show k + 0 ≤ 15; omega, ok1, by omega, o0, rfl, fun ns S2 ln hns ndn _ ok2 t2 t2' => ?_⟩
    have t2' : S2.t ≤ 64 := by omega
    refine ⟨_, rfl, _, rfl, S2, ns, 2, [], rfl, by omega, by omega, hns, ok2, by show S2.t + 128 < _; omega, o0, rfl, fun t S3 ht td tn ok3 t3 t3' => ?_⟩
    have t3' : S3.t ≤ S2.t + 21 := t3'
    have t15 : t.size ≤ 15 := by
      have h1 := Tr.size_dep t
      have h2 : 2 ^ (t.dep + 1) ≤ 2 ^ 4 := Nat.pow_le_pow_right (by decide) (by omega)
      omega
    refine ⟨_, rfl, _, rfl, _, rfl, _, rfl, S3, t, ns, [], rfl, ht, by omega, tn, by omega, hns, ok3, by omega, o0, rfl, fun u S4 hu un ud us ok4 t4 t4' => ?_⟩
    refine ⟨_, rfl, _, rfl, S4, ns, 2, [], rfl, by omega, by omega, hns, ok4, by show S4.t + 128 < _; omega, o0, rfl, fun v S5 hv vd vn ok5 t5 t5' => ?_⟩
    have t5' : S5.t ≤ S4.t + 21 := t5'
    have v15 : v.size ≤ 15 := by
      have h1 := Tr.size_dep v
      have h2 : 2 ^ (v.dep + 1) ≤ 2 ^ 4 := Nat.pow_le_pow_right (by decide) (by omega)
      omega
    refine ⟨by show 3 ≤ sizeLine; omega, ?_⟩
    have bS : ∀ S : Dr, bdS (S.sto []).length (S.sto []) = true := fun S => o0.sto
    have good : ∀ x ∈ [t, u, v], x.ok ∧ x.dep < 20 ∧ (∀ s ∈ x.nms, s ∈ ns) ∧ x.size ≤ 193 := fun x hx => by
      simp only [List.mem_cons, List.not_mem_nil, or_false] at hx
      rcases hx with rfl | rfl | rfl
      · exact ⟨ht, by omega, tn, by omega⟩
      · exact ⟨hu, by omega, un, by omega⟩
      · exact ⟨hv, by omega, vn, by omega⟩
    -- the sets shown
    refine ⟨_, rfl, [t.d, u.d, v.d], rfl, lc_to [t, u, v] Tr.d (shD ns) (fun _ => rfl) (fun x hx acc ba NX N0 n1 => ?_) (by show 3 ≤ sizeLine; omega) (shD_bd _ _ _) (bS S5) ?_⟩
    · refine ⟨_, rfl, ns, rfl, by omega, ba, seD (setsL ns), rfl, lc_of (setsL ns) (fun s => D.lst (s.map .str)) (fun s => if (x.hold fun n => decide (n ∈ s)) = true then some (D.lst (s.map .str)) else none) (fun _ => rfl) (fun s hs acc2 ba2 NX2 N02 y1 y2 => ?_) ?_ ?_ ba ?_⟩
      · refine ⟨_, rfl, _, rfl, x, .lst (s.map .str), s, rfl, (good x hx).1, (good x hx).2.1, fun _ => rfl, _, rfl, ?_⟩
        cases e : x.hold fun n => decide (n ∈ s) with
        | true => rw [e] at y1; exact ⟨_, rfl, y1 _ rfl⟩
        | false => rw [e] at y2; exact y2 rfl
      · rw [setsL_len]
        have : 2 ^ ns.length ≤ 2 ^ 7 := Nat.pow_le_pow_right (by decide) (by omega)
        omega
      · rw [shL_map ns]; exact seD_bd
      · rw [shL_map ns]; exact n1
    -- the conditions made
    refine ⟨_, rfl, [t.d, u.d, v.d], rfl, lc_to [t, u, v] Tr.d (fun x => Dl.cD C_Condition x.words) (fun _ => rfl) (fun x hx acc ba NX N0 n1 => ?_) (by show 3 ≤ sizeLine; omega) (mdD_bd _ _ _) (bS S5) ?_⟩
    · exact ⟨_, rfl, x, rfl, (good x hx).1, (good x hx).2.1, by rw [Tr.words_len]; have := (good x hx).2.2.2; omega, ba, n1⟩
    let R0 : Option D → Option D → Option D → Option D → Option D → Option D → Option D → Rho := fun v6 v7 v9 v10 v11 v12 v13 => [some (.fzl (sc.map .int)), some (.cell 1), some (.lst (ns.map .str)), some t.d, some (.lst [t.d, u.d, v.d]), some (.lst ([t, u, v].map (shD ns))), v6, v7, some (.lst ([t, u, v].map fun x => Dl.cD C_Condition x.words)), v9, v10, v11, v12, v13, none]
    have two : 2 ≤ sizeLine := by omega
    refine ⟨two, two, two, two, two, by show 5 ≤ sizeLine; omega, _, rfl, fun i ρ' μ' => ∃ v6 v7 v9 v10 v11 v12 v13 : Option D, ρ' = R0 v6 v7 v9 v10 v11 v12 v13 ∧ μ' = S5.sto [], ⟨_, _, _, _, _, _, _, rfl, rfl⟩, fun _ _ _ _ => rfl, ?_, ?_⟩
    · rintro i z0 ρ' μ' hz ⟨v6, v7, v9, v10, v11, v12, v13, rfl, rfl⟩
      have hk : ∃ (k j : Nat) (x y : Tr), z0 = .tup [.int k, .int j] ∧ [t, u, v][k]? = some x ∧ [t, u, v][j]? = some y := by
        have m := List.mem_of_getElem? hz
        simp only [List.mem_cons, List.not_mem_nil, or_false] at m
        rcases m with rfl | rfl | rfl | rfl | rfl
        · exact ⟨0, 0, t, t, rfl, rfl, rfl⟩
        · exact ⟨0, 1, t, u, rfl, rfl, rfl⟩
        · exact ⟨1, 0, u, t, rfl, rfl, rfl⟩
        · exact ⟨1, 2, u, v, rfl, rfl, rfl⟩
        · exact ⟨2, 0, v, t, rfl, rfl, rfl⟩
      obtain ⟨k, j, x, y, rfl, hx, hy⟩ := hk
      have gx := good x (List.mem_of_getElem? hx)
      have gy := good y (List.mem_of_getElem? hy)
      have few : ∀ {a b : Tr}, (a.ok ∧ a.dep < 20 ∧ (∀ s ∈ a.nms, s ∈ ns) ∧ a.size ≤ 193) → (b.ok ∧ b.dep < 20 ∧ (∀ s ∈ b.nms, s ∈ ns) ∧ b.size ≤ 193) → FewN a b := fun ha hb => ⟨ha.1, hb.1, by rw [Tr.words_len]; have := ha.2.2.2; omega, by rw [Tr.words_len]; have := hb.2.2.2; omega, ns, by omega, ha.2.2.1, hb.2.2.1⟩
      have sA : ∀ {k : Nat} {x : Tr}, [t, u, v][k]? = some x → atI ([t, u, v].map (shD ns)) (k : Int) = some (shD ns x) := fun h => by rw [atI_nn _ (by omega), Int.toNat_natCast, List.getElem?_map, h]; rfl
      have mA : ∀ {k : Nat} {x : Tr}, [t, u, v][k]? = some x → atI ([t, u, v].map fun x => Dl.cD C_Condition x.words) (k : Int) = some (Dl.cD C_Condition x.words) := fun h => by rw [atI_nn _ (by omega), Int.toNat_natCast, List.getElem?_map, h]; rfl
      have ty : ∀ (x : Tr) (μ : Sto), TyD K μ (Dl.cD C_Condition x.words) (.ref C_Condition) := fun x μ => .ins _ _ _ rfl isC_Condition
      refine ⟨_, rfl, rfl, _, _, rfl, _, _, rfl, rfl, ?_⟩
      refine ⟨_, rfl, _, rfl, _, k, _, rfl, rfl, sA hx, seD (shL ns x), rfl, lc_to (shL ns x) (fun s => D.lst (s.map .str)) (fun s => .bl (decide (s ∈ shL ns y))) (fun _ => rfl) (fun s hs acc ba NX N0 n1 => ?_) ?_ ?_ (bS S5) ?_⟩
      · refine ⟨_, rfl, _, rfl, _, rfl, _, j, _, rfl, rfl, sA hy, ?_⟩
        exact in_sets false s (shL ns y) n1
      · have := shL_len (ns := ns) (by omega) x; omega
      · exact bdL_all.mpr fun d hd => by obtain ⟨s, _, rfl⟩ := List.mem_map.mp hd; rfl
      have hW := sh_le (ns := ns) gx.2.2.1 gy.2.2.1
      have hS := sh_eq (ns := ns) gx.2.2.1 gy.2.2.1
      refine ⟨_, (shL ns x).map fun s => decide (s ∈ shL ns y), rfl, by show some _ = some _; rw [List.map_map]; rfl, ?_⟩
      generalize ((shL ns x).map fun s => decide (s ∈ shL ns y)).all id = W at hW ⊢
      refine ⟨_, rfl, _, rfl, _, k, _, rfl, rfl, sA hx, _, rfl, _, rfl, _, j, _, rfl, rfl, sA hy, eq_sets _ _ ?_⟩
      generalize decide (shL ns x = shL ns y) = S at hS ⊢
      have isS : ∀ {b : Bool}, (b = true ↔ ∀ g : Str → Bool, x.hold g = y.hold g) → b = S := fun h => Bool.eq_iff_iff.mpr (h.trans hS.symm)
      have isW : ∀ {b : Bool}, (b = true ↔ ∀ g : Str → Bool, x.hold g = true → y.hold g = true) → b = W := fun h => Bool.eq_iff_iff.mpr (h.trans hW.symm)
      refine ⟨_, rfl, _, rfl, _, k, _, rfl, rfl, mA hx, _, rfl, _, rfl, _, j, _, rfl, rfl, mA hy, _, _, rfl, ty y _, nfC, x, y, rfl, few gx gy, bS S5, fun b1 h1 => ?_⟩
      obtain rfl := isS h1
      refine ⟨_, rfl, _, rfl, _, k, _, rfl, rfl, mA hx, _, rfl, _, rfl, _, j, _, rfl, rfl, mA hy, _, _, rfl, ty y _, nfC, x, y, rfl, few gx gy, bS S5, fun b2 h2 => ⟨_, rfl, ?_⟩⟩
      obtain rfl := isS h2
      refine ⟨_, rfl, _, rfl, _, k, _, rfl, rfl, mA hx, _, rfl, _, rfl, _, j, _, rfl, rfl, mA hy, _, _, rfl, ty y _, nfC, x, y, rfl, few gx gy, bS S5, fun b3 h3 => ?_⟩
      obtain rfl := isW h3
      refine ⟨_, rfl, _, rfl, _, k, _, rfl, rfl, mA hx, _, rfl, _, rfl, _, j, _, rfl, rfl, mA hy, _, _, rfl, ty y _, nfC, x, y, rfl, few gx gy, bS S5, fun b4 h4 => ?_⟩
      obtain rfl := lt_is h4 hW hS eq_both
      refine ⟨by show 4 ≤ sizeLine; omega, ?_⟩
      refine ⟨_, rfl, _, rfl, _, rfl, _, rfl, _, rfl, and_not rfl rfl ?_⟩
      refine ⟨by show 4 ≤ sizeLine; omega, _, _, .list ([b2, !b2, b3, b3 && !b2].map .bool), rfl, rfl, rfl, ok_bools (by show 4 ≤ 1000; omega), _, rfl, ite_nt rfl ?_⟩
      refine ⟨_, rfl, _, rfl, _, j, _, rfl, rfl, mA hy, _, rfl, _, rfl, _, k, _, rfl, rfl, mA hx, _, _, rfl, rfl, x, y, rfl, few gx gy, bS S5, fun b5 h5 => ?_⟩
      obtain rfl := isW h5
      refine ⟨_, rfl, _, rfl, _, j, _, rfl, rfl, mA hy, _, rfl, _, rfl, _, k, _, rfl, rfl, mA hx, _, _, rfl, rfl, x, y, rfl, few gx gy, bS S5, fun b6 h6 => ?_⟩
      obtain rfl := lt_is h6 hW hS eq_both
      refine ⟨by show 2 ≤ sizeLine; omega, _, rfl, and_not rfl rfl ?_⟩
      refine ⟨by show 2 ≤ sizeLine; omega, _, _, .list ([b5, b5 && !b2].map .bool), rfl, rfl, rfl, ok_bools (by show 2 ≤ 1000; omega), _, rfl, ite_nt rfl ?_⟩
      exact ⟨_, _, _, _, _, _, _, rfl, rfl⟩
    · rintro ρ' μ' ⟨v6, v7, v9, v10, v11, v12, v13, rfl, rfl⟩
      have mA : ∀ {k : Nat} {x : Tr}, [t, u, v][k]? = some x → atI ([t, u, v].map fun x => Dl.cD C_Condition x.words) (k : Int) = some (Dl.cD C_Condition x.words) := fun h => by rw [atI_nn _ (by omega), Int.toNat_natCast, List.getElem?_map, h]; rfl
      have tA : ∀ {k : Nat} {x : Tr}, [t, u, v][k]? = some x → atI [t.d, u.d, v.d] (k : Int) = some x.d := fun h => by rw [show [t.d, u.d, v.d] = [t, u, v].map Tr.d from rfl, atI_nn _ (by omega), Int.toNat_natCast, List.getElem?_map, h]; rfl
      refine ⟨_, rfl, by decide, by decide, fun i ρ' μ' => ∃ v6 v7 v9 v10 v11 v12 v13 : Option D, ρ' = R0 v6 v7 v9 v10 v11 v12 v13 ∧ μ' = S5.sto [], ⟨_, _, _, _, _, _, _, rfl, rfl⟩, fun _ _ _ _ => trivial, ?_, ?_⟩
      · rintro i z0 ρ' μ' hz ⟨v6, v7, v9, v10, v11, v12, v13, rfl, rfl⟩
        have hi : i < 3 := by have := (List.getElem?_eq_some_iff.mp hz).1; simpa using this
        obtain ⟨x, hx⟩ : ∃ x, [t, u, v][i]? = some x := ⟨_, List.getElem?_eq_getElem hi⟩
        have gx := good x (List.mem_of_getElem? hx)
        obtain rfl : z0 = .int (i : Int) := by
          rw [List.getElem?_map] at hz
          obtain ⟨j, hj, rfl⟩ := Option.map_eq_some_iff.mp hz
          have : j = i := by
            have h2 := List.getElem?_range (n := 3) hi
            have hj : (List.range 3)[i]? = some j := hj
            rw [h2] at hj; exact (Option.some.inj hj).symm
          rw [this, Int.zero_add]
        refine ⟨_, rfl, _, rfl, _, i, _, rfl, rfl, mA hx, _, rfl, _, rfl, _, i, _, rfl, rfl, tA hx, x, rfl, gx.1, gx.2.1, by have := gx.2.2.2; omega, fun s ls => ?_⟩
        refine ⟨_, _, rfl, .str s, nfs, x.words, .str s, rfl, .inl ⟨s, rfl⟩, _, rfl, ifF1 rfl ?_⟩
        refine ⟨_, rfl, _, rfl, _, i, _, rfl, rfl, mA hx, _, _, rfl, .int 5, nfi, x.words, .int 5, rfl, .inr ⟨5, rfl⟩, _, rfl, ifF1 rfl ?_⟩
        refine ⟨_, rfl, _, rfl, _, i, _, rfl, rfl, mA hx, _, rfl, _, rfl, _, i, _, rfl, rfl, tA hx, x, rfl, gx.1, gx.2.1, by have := gx.2.2.2; omega, fun s2 ls2 => ?_⟩
        refine ⟨_, _, rfl, .str s2, nfs, x.words, .str s2, rfl, .inl ⟨s2, rfl⟩, _, rfl, _, rfl, ?_⟩
        refine ifF1 rfl ?_
        exact ⟨_, _, _, _, _, _, _, rfl, rfl⟩
      · rintro ρ' μ' ⟨v6, v7, v9, v10, v11, v12, v13, rfl, rfl⟩
        have gt := good t (by simp)
        have gu := good u (by simp)
        have gv := good v (by simp)
        have lw : ∀ x : Tr, x.words.length = x.size := Tr.words_len
        have fw : FewN (Tr.an t u) (Tr.or v (.no u)) := ⟨⟨gt.1, gu.1⟩, ⟨gv.1, gu.1⟩, by rw [lw]; show t.size + u.size + 1 < 450; omega, by rw [lw]; show v.size + (u.size + 1) + 1 < 450; omega, ns, by omega, fun s m => (List.mem_append.mp m).elim (gt.2.2.1 s) (gu.2.2.1 s), fun s m => (List.mem_append.mp m).elim (gv.2.2.1 s) (gu.2.2.1 s)⟩
        refine ⟨_, rfl, _, 0, _, rfl, rfl, rfl, _, rfl, _, 1, _, rfl, rfl, rfl, _, _, rfl, rfl, t.words, u.words, rfl, by rw [lw, lw]; omega, bS S5, ?_⟩
        refine ⟨_, rfl, _, 2, _, rfl, rfl, rfl, _, rfl, _, 1, _, rfl, rfl, rfl, _, rfl, u.words, rfl, by rw [lw]; omega, bS S5, ?_⟩
        refine ⟨_, _, rfl, rfl, v.words, (Tr.no u).words, rfl, by rw [lw, lw]; show v.size + (u.size + 1) ≤ _; omega, bS S5, ?_⟩
        refine ⟨_, _, rfl, .ins _ _ _ rfl isC_Condition, nfC, Tr.an t u, Tr.or v (.no u), rfl, fw, bS S5, fun b hb => ?_⟩
        have hj := sh_joined (ns := ns) gt.2.2.1 gu.2.2.1 gv.2.2.1
        obtain rfl := Bool.eq_iff_iff.mpr (hb.trans hj.symm)
        have ll : (shL ns t).length ≤ 128 := shL_len (by omega) t
        refine ⟨_, rfl, _, rfl, _, 0, _, rfl, rfl, rfl, seD (shL ns t), rfl, lc_of (shL ns t) (fun s => D.lst (s.map .str)) (fun s => if decide (s ∈ shL ns u) = true then some (.bl (decide (s ∈ shL ns v) || !decide (s ∈ shL ns u))) else none) (fun _ => rfl) (fun s hs acc ba NX N0 y1 y2 => ?_) (by omega) (by rw [fm_bl]; exact bdL_bools _) (bS S5) ?_⟩
        · refine ⟨_, rfl, _, rfl, _, 1, _, rfl, rfl, rfl, in_sets false s (shL ns u) ⟨_, rfl, ?_⟩⟩
          cases e : decide (s ∈ shL ns u) with
          | false => rw [e] at y2; exact ifF1 rfl (y2 rfl)
          | true =>
            rw [e] at y1
            refine ifT1 rfl ⟨_, rfl, _, rfl, _, 2, _, rfl, rfl, rfl, in_sets false s (shL ns v) ⟨_, rfl, ?_⟩⟩
            cases e2 : decide (s ∈ shL ns v) with
            | true => rw [e2] at y1; exact ifT1 rfl (y1 _ rfl)
            | false =>
              rw [e2] at y1
              refine ifF1 rfl ⟨_, rfl, _, rfl, _, 1, _, rfl, rfl, rfl, in_sets false s (shL ns u) ⟨_, rfl, ?_⟩⟩
              simp only [Bool.false_eq_true, if_false]
              rw [e]
              exact y1 _ rfl
        rw [fm_bl]
        refine ⟨_, _, rfl, rfl, ?_⟩
        exact ⟨_, _, .bool _, rfl, rfl, rfl, ok_bl _, _, _, .refl, z _⟩
end
end Dl

namespace Dl
open PySem PySem.Spec L2
open PyProof.Rows hiding St Binds
theorem all_mk {l : PySem.W.OpenLaw} {w : World} {K : PySem.W.Frag} {h : Heap} {mg : Str → Option Value} {fa : Addr} (X : K.In h) (G : h.Ns mainGlobals mg) (hfa : mg "law" = some (.ref fa))
    {f0 : Addr} {od0 an0 : Option Addr} {sl0 : Array (Option Value)} {oc0 kV0 dc0 pm0 cd0 ct0 : Value} {f1 : Addr} {od1 an1 : Option Addr} {sl1 : Array (Option Value)} {oc1 kV1 dc1 pm1 cd1 ct1 : Value} {f2 : Addr} {od2 an2 : Option Addr} {sl2 : Array (Option Value)} {oc2 kV2 dc2 pm2 cd2 ct2 : Value} {f3 : Addr} {od3 an3 : Option Addr} {sl3 : Array (Option Value)} {oc3 kV3 dc3 pm3 cd3 ct3 : Value} {f4 : Addr} {od4 an4 : Option Addr} {sl4 : Array (Option Value)} {oc4 kV4 dc4 pm4 cd4 ct4 : Value} {f5 : Addr} {od5 an5 : Option Addr} {sl5 : Array (Option Value)} {oc5 kV5 dc5 pm5 cd5 ct5 : Value} {TR_RESERVED : Addr} {dR_RESERVED : Option Addr} {iR_RESERVED : Array Value} {nR_RESERVED : Nat} {sR_RESERVED : Array (Option Value)} {tc_LONGEST : Tok} {f6 : Addr} {od6 an6 : Option Addr} {sl6 : Array (Option Value)} {oc6 kV6 dc6 pm6 cd6 ct6 : Value} {C_BadName : Addr} {fE_BadName cdaE_BadName ccE_BadName NE_BadName : Addr} {nmE_BadName qE_BadName fileE_BadName : Str} {bsE_BadName bmE_BadName subE_BadName : List Value} {snE_BadName : List Str} {abE_BadName : Bool} {colE_BadName : Option Bool} {ddE_BadName cddE_BadName cldE_BadName anE_BadName odE_BadName : Option Addr} {k0E_BadName k1E_BadName k2E_BadName k3E_BadName k5E_BadName : Option Value} {cclE_BadName kVE_BadName docE_BadName pmE_BadName ctE_BadName ocE_BadName clE_BadName : Value} {ccsE_BadName cslE_BadName oslE_BadName : Array (Option Value)} {vsE_BadName : Array Value} {tfE_BadName : Tok} {f7 : Addr} {od7 an7 : Option Addr} {sl7 : Array (Option Value)} {oc7 kV7 dc7 pm7 cd7 ct7 : Value} {f8 : Addr} {od8 an8 : Option Addr} {sl8 : Array (Option Value)} {oc8 kV8 dc8 pm8 cd8 ct8 : Value} {f9 : Addr} {od9 an9 : Option Addr} {sl9 : Array (Option Value)} {oc9 kV9 dc9 pm9 cd9 ct9 : Value} {C_Condition : Addr} {gCondition_init : Addr} {godCondition_init ganCondition_init : Option Addr} {gslCondition_init : Array (Option Value)} {gocCondition_init gkVCondition_init gdcCondition_init gpmCondition_init gcdCondition_init gctCondition_init : Value} {gCondition_of : Addr} {godCondition_of ganCondition_of : Option Addr} {gslCondition_of : Array (Option Value)} {gocCondition_of gkVCondition_of gdcCondition_of gpmCondition_of gcdCondition_of gctCondition_of : Value} {pCondition_of : Addr} {pdCondition_of : Option Addr} {pslCondition_of : Array (Option Value)} {pvCondition_of : Array Value} {prCondition_of : List Value} {gCondition_always : Addr} {godCondition_always ganCondition_always : Option Addr} {gslCondition_always : Array (Option Value)} {gocCondition_always gkVCondition_always gdcCondition_always gpmCondition_always gcdCondition_always gctCondition_always : Value} {pCondition_always : Addr} {pdCondition_always : Option Addr} {pslCondition_always : Array (Option Value)} {pvCondition_always : Array Value} {prCondition_always : List Value} {gCondition_never : Addr} {godCondition_never ganCondition_never : Option Addr} {gslCondition_never : Array (Option Value)} {gocCondition_never gkVCondition_never gdcCondition_never gpmCondition_never gcdCondition_never gctCondition_never : Value} {pCondition_never : Addr} {pdCondition_never : Option Addr} {pslCondition_never : Array (Option Value)} {pvCondition_never : Array Value} {prCondition_never : List Value} {f10 : Addr} {od10 an10 : Option Addr} {sl10 : Array (Option Value)} {oc10 kV10 dc10 pm10 cd10 ct10 : Value} {f11 : Addr} {od11 an11 : Option Addr} {sl11 : Array (Option Value)} {oc11 kV11 dc11 pm11 cd11 ct11 : Value} {f12 : Addr} {od12 an12 : Option Addr} {sl12 : Array (Option Value)} {oc12 kV12 dc12 pm12 cd12 ct12 : Value} {gCondition_eq : Addr} {godCondition_eq ganCondition_eq : Option Addr} {gslCondition_eq : Array (Option Value)} {gocCondition_eq gkVCondition_eq gdcCondition_eq gpmCondition_eq gcdCondition_eq gctCondition_eq : Value} {gCondition_le : Addr} {godCondition_le ganCondition_le : Option Addr} {gslCondition_le : Array (Option Value)} {gocCondition_le gkVCondition_le gdcCondition_le gpmCondition_le gcdCondition_le gctCondition_le : Value} {gCondition_lt : Addr} {godCondition_lt ganCondition_lt : Option Addr} {gslCondition_lt : Array (Option Value)} {gocCondition_lt gkVCondition_lt gdcCondition_lt gpmCondition_lt gcdCondition_lt gctCondition_lt : Value} {gCondition_and : Addr} {godCondition_and ganCondition_and : Option Addr} {gslCondition_and : Array (Option Value)} {gocCondition_and gkVCondition_and gdcCondition_and gpmCondition_and gcdCondition_and gctCondition_and : Value} {gCondition_or : Addr} {godCondition_or ganCondition_or : Option Addr} {gslCondition_or : Array (Option Value)} {gocCondition_or gkVCondition_or gdcCondition_or gpmCondition_or gcdCondition_or gctCondition_or : Value} {gCondition_invert : Addr} {godCondition_invert ganCondition_invert : Option Addr} {gslCondition_invert : Array (Option Value)} {gocCondition_invert gkVCondition_invert gdcCondition_invert gpmCondition_invert gcdCondition_invert gctCondition_invert : Value} {f13 : Addr} {od13 an13 : Option Addr} {sl13 : Array (Option Value)} {oc13 kV13 dc13 pm13 cd13 ct13 : Value} {f14 : Addr} {od14 an14 : Option Addr} {sl14 : Array (Option Value)} {oc14 kV14 dc14 pm14 cd14 ct14 : Value} {f15 : Addr} {od15 an15 : Option Addr} {sl15 : Array (Option Value)} {oc15 kV15 dc15 pm15 cd15 ct15 : Value} {f16 : Addr} {od16 an16 : Option Addr} {sl16 : Array (Option Value)} {oc16 kV16 dc16 pm16 cd16 ct16 : Value} {f17 : Addr} {od17 an17 : Option Addr} {sl17 : Array (Option Value)} {oc17 kV17 dc17 pm17 cd17 ct17 : Value} {f18 : Addr} {od18 an18 : Option Addr} {sl18 : Array (Option Value)} {oc18 kV18 dc18 pm18 cd18 ct18 : Value} {f19 : Addr} {od19 an19 : Option Addr} {sl19 : Array (Option Value)} {oc19 kV19 dc19 pm19 cd19 ct19 : Value} {f20 : Addr} {od20 an20 : Option Addr} {sl20 : Array (Option Value)} {oc20 kV20 dc20 pm20 cd20 ct20 : Value}
    (a0 : PySem.W.nsIn K mainGlobals "_law_draw" = some (some (.ref f0)))
    (l0 : K.lookup f0 = some ⟨oc0, od0, .func (PySem.W.fnOf "_law_draw" "_law_draw" (defArgs sDraw) (defBody sDraw) (defScope sDraw) .none kV0 dc0 pm0 an0 cd0 ct0), sl0⟩)
    (c0 : PySem.W.codeIn K cd0 "_law_draw" = true)
    (k0 : PySem.W.keepIn K (.ref f0) = true)
    (a1 : PySem.W.nsIn K mainGlobals "_law_pick" = some (some (.ref f1)))
    (l1 : K.lookup f1 = some ⟨oc1, od1, .func (PySem.W.fnOf "_law_pick" "_law_pick" (defArgs sPick) (defBody sPick) (defScope sPick) .none kV1 dc1 pm1 an1 cd1 ct1), sl1⟩)
    (c1 : PySem.W.codeIn K cd1 "_law_pick" = true)
    (k1 : PySem.W.keepIn K (.ref f1) = true)
    (a2 : PySem.W.nsIn K mainGlobals "_law_same" = some (some (.ref f2)))
    (l2 : K.lookup f2 = some ⟨oc2, od2, .func (PySem.W.fnOf "_law_same" "_law_same" (defArgs sSame) (defBody sSame) (defScope sSame) .none kV2 dc2 pm2 an2 cd2 ct2), sl2⟩)
    (c2 : PySem.W.codeIn K cd2 "_law_same" = true)
    (k2 : PySem.W.keepIn K (.ref f2) = true)
    (a3 : PySem.W.nsIn K mainGlobals "_law_name" = some (some (.ref f3)))
    (l3 : K.lookup f3 = some ⟨oc3, od3, .func (PySem.W.fnOf "_law_name" "_law_name" (defArgs sName) (defBody sName) (defScope sName) .none kV3 dc3 pm3 an3 cd3 ct3), sl3⟩)
    (c3 : PySem.W.codeIn K cd3 "_law_name" = true)
    (k3 : PySem.W.keepIn K (.ref f3) = true)
    (a4 : PySem.W.nsIn K mainGlobals "_law_names" = some (some (.ref f4)))
    (l4 : K.lookup f4 = some ⟨oc4, od4, .func (PySem.W.fnOf "_law_names" "_law_names" (defArgs sNames) (defBody sNames) (defScope sNames) .none kV4 dc4 pm4 an4 cd4 ct4), sl4⟩)
    (c4 : PySem.W.codeIn K cd4 "_law_names" = true)
    (k4 : PySem.W.keepIn K (.ref f4) = true)
    (a5 : PySem.W.nsIn K mainGlobals "is_letter" = some (some (.ref f5)))
    (l5 : K.lookup f5 = some ⟨oc5, od5, .func (PySem.W.fnOf "is_letter" "is_letter" (defArgs sLet) (defBody sLet) (defScope sLet) .none kV5 dc5 pm5 an5 cd5 ct5), sl5⟩)
    (c5 : PySem.W.codeIn K cd5 "is_letter" = true)
    (k5 : PySem.W.keepIn K (.ref f5) = true)
    (ac_RESERVED : PySem.W.nsIn K mainGlobals "RESERVED" = some (some (.ref TR_RESERVED)))
    (lc_RESERVED : K.lookup TR_RESERVED = some ⟨.type "tuple", dR_RESERVED, .seq iR_RESERVED nR_RESERVED, sR_RESERVED⟩)
    (zc_RESERVED : iR_RESERVED.size ≤ sizeLine)
    (vc_RESERVED : Vals (Reserved.map V.str) iR_RESERVED.toList)
    (ac_LONGEST : PySem.W.nsIn K mainGlobals "LONGEST" = some (some (.int 8 tc_LONGEST)))
    (a6 : PySem.W.nsIn K mainGlobals "is_name" = some (some (.ref f6)))
    (l6 : K.lookup f6 = some ⟨oc6, od6, .func (PySem.W.fnOf "is_name" "is_name" (defArgs sIsN) (defBody sIsN) (defScope sIsN) .none kV6 dc6 pm6 an6 cd6 ct6), sl6⟩)
    (c6 : PySem.W.codeIn K cd6 "is_name" = true)
    (k6 : PySem.W.keepIn K (.ref f6) = true)
    (aC_BadName : PySem.W.nsIn K mainGlobals "BadName" = some (some (.ref C_BadName)))
    (lCE_BadName : K.lookup C_BadName = some (excClassObj nmE_BadName qE_BadName C_BadName NE_BadName bsE_BadName bmE_BadName true snE_BadName subE_BadName abE_BadName colE_BadName ddE_BadName k0E_BadName k1E_BadName k2E_BadName k3E_BadName k5E_BadName "ValueError.__new__"))
    (rvE_BadName : PySem.HandSPX.refsVE bmE_BadName = true)
    (saE_BadName : PySem.W.findIn K (.ref C_BadName) "__setattr__" = some (some (.builtin "object.__setattr__")))
    (exCE_BadName : PySem.W.subIn K (.ref C_BadName) (.type "BaseException") = some true)
    (tyCE_BadName : PySem.W.typeIn K (.ref C_BadName) = some (.type "type"))
    (kCE_BadName : PySem.W.keepIn K (.ref C_BadName) = true)
    (iCE_BadName : PySem.W.findIn K (.ref C_BadName) "__init__" = some (some (.ref fE_BadName)))
    (lfE_BadName : K.lookup fE_BadName = some ⟨ocE_BadName, odE_BadName, .func (PySem.W.ksFn "__init__" "BadName.__init__" (defArgs sE_BadName) (defBody sE_BadName) (defScope sE_BadName) .none kVE_BadName docE_BadName pmE_BadName anE_BadName (.ref cdaE_BadName) ctE_BadName ccE_BadName), oslE_BadName⟩)
    (cfE_BadName : PySem.W.codeIn K (.ref cdaE_BadName) "BadName.__init__" = true)
    (tf_E_BadName : PySem.W.typeIn K (.ref fE_BadName) = some (.type "function"))
    (lcdE_BadName : K.lookup cdaE_BadName = some ⟨cclE_BadName, cddE_BadName, .fields vsE_BadName, ccsE_BadName⟩)
    (hvsE_BadName : vsE_BadName[2]? = some (.str fileE_BadName tfE_BadName))
    (hfileE_BadName : ((l.prog.main.file : Str) == fileE_BadName) = true)
    (lccE_BadName : K.lookup ccE_BadName = some ⟨clE_BadName, cldE_BadName, .cell (some (.ref C_BadName)), cslE_BadName⟩)
    (msE_BadName : PySem.W.mroIn K C_BadName (.ref C_BadName) = some true)
    (su_ : PySem.W.nsIn K mainGlobals "super" = some none)
    (tp_ : (l.prog.main.scope.names.lookup ("super" : Str)).isSome = false)
    (iniE_BadName : PySem.W.ks_superIn K C_BadName C_BadName "__init__" = some (some (.builtin "ValueError.__init__")))
    (basE_BadName : PySem.W.subIn K (.ref C_BadName) (.type "ValueError") = some true)
    (tpa_ : PySem.W.nsIn K cStatics "thirdparty.any" = some none)
    (no_BadName_name : PySem.W.findIn K (.ref C_BadName) "name" = some none)
    (a7 : PySem.W.nsIn K mainGlobals "check_name" = some (some (.ref f7)))
    (l7 : K.lookup f7 = some ⟨oc7, od7, .func (PySem.W.fnOf "check_name" "check_name" (defArgs sChE) (defBody sChE) (defScope sChE) .none kV7 dc7 pm7 an7 cd7 ct7), sl7⟩)
    (c7 : PySem.W.codeIn K cd7 "check_name" = true)
    (k7 : PySem.W.keepIn K (.ref f7) = true)
    (a8 : PySem.W.nsIn K mainGlobals "names_among" = some (some (.ref f8)))
    (l8 : K.lookup f8 = some ⟨oc8, od8, .func (PySem.W.fnOf "names_among" "names_among" (defArgs sNmA) (defBody sNmA) (defScope sNmA) .none kV8 dc8 pm8 an8 cd8 ct8), sl8⟩)
    (c8 : PySem.W.codeIn K cd8 "names_among" = true)
    (k8 : PySem.W.keepIn K (.ref f8) = true)
    (a9 : PySem.W.nsIn K mainGlobals "work_out" = some (some (.ref f9)))
    (l9 : K.lookup f9 = some ⟨oc9, od9, .func (PySem.W.fnOf "work_out" "work_out" (defArgs sWo) (defBody sWo) (defScope sWo) .none kV9 dc9 pm9 an9 cd9 ct9), sl9⟩)
    (c9 : PySem.W.codeIn K cd9 "work_out" = true)
    (k9 : PySem.W.keepIn K (.ref f9) = true)
    (aC_Condition : PySem.W.nsIn K mainGlobals "Condition" = some (some (.ref C_Condition)))
    (pg_Condition : PySem.W.plainGet K C_Condition Str.empty = true)
    (hd_Condition : PySem.W.hasDictIn K C_Condition = true)
    (po_Condition : PySem.W.plainOver K C_Condition = true)
    (sa_Condition : PySem.W.findIn K (.ref C_Condition) "__setattr__" = some (some (.builtin "object.__setattr__")))
    (pna_words : PySem.W.findIn K (.ref C_Condition) "_words" = some none)
    (giCondition_init : PySem.W.findIn K (.ref C_Condition) "__init__" = some (some (.ref gCondition_init)))
    (glCondition_init : K.lookup gCondition_init = some ⟨gocCondition_init, godCondition_init, .func (PySem.W.fnOf "__init__" "Condition.__init__" (defArgs sIni) (defBody sIni) (defScope sIni) .none gkVCondition_init gdcCondition_init gpmCondition_init ganCondition_init gcdCondition_init gctCondition_init), gslCondition_init⟩)
    (gcCondition_init : PySem.W.codeIn K gcdCondition_init "Condition.__init__" = true)
    (gfCondition_init : PySem.W.isFn K (.ref gCondition_init) = true)
    (gkCondition_init : PySem.W.keepIn K (.ref gCondition_init) = true)
    (mk_Condition : PySem.W.makesIn K C_Condition = true)
    (kC_Condition : PySem.W.keepIn K (.ref C_Condition) = true)
    (sg_Condition : PySem.W.specialIn K (.ref C_Condition) "__getattribute__" = some (some (.builtin "type.__getattribute__")))
    (st_Condition : PySem.W.typeIn K (.ref C_Condition) = some (.type "type"))
    (sr_Condition : PySem.W.readsIn K C_Condition (.type "type") = true)
    (gaCondition_of : PySem.W.findIn K (.type "type") "of" = some none)
    (giCondition_of : PySem.W.findIn K (.ref C_Condition) "of" = some (some (.ref pCondition_of)))
    (gtCondition_of : PySem.W.typeIn K (.ref pCondition_of) = some (.type "staticmethod"))
    (gsCondition_of : PySem.W.specialIn K (.ref pCondition_of) "__get__" = some (some (.builtin "staticmethod.__get__")))
    (gpCondition_of : K.lookup pCondition_of = some ⟨.type "staticmethod", pdCondition_of, .fields pvCondition_of, pslCondition_of⟩)
    (gvCondition_of : pvCondition_of.toList = .ref gCondition_of :: prCondition_of)
    (glCondition_of : K.lookup gCondition_of = some ⟨gocCondition_of, godCondition_of, .func (PySem.W.fnOf "of" "Condition.of" (defArgs sOf) (defBody sOf) (defScope sOf) .none gkVCondition_of gdcCondition_of gpmCondition_of ganCondition_of gcdCondition_of gctCondition_of), gslCondition_of⟩)
    (gcCondition_of : PySem.W.codeIn K gcdCondition_of "Condition.of" = true)
    (gkCondition_of : PySem.W.keepIn K (.ref gCondition_of) = true)
    (gaCondition_always : PySem.W.findIn K (.type "type") "always" = some none)
    (giCondition_always : PySem.W.findIn K (.ref C_Condition) "always" = some (some (.ref pCondition_always)))
    (gtCondition_always : PySem.W.typeIn K (.ref pCondition_always) = some (.type "staticmethod"))
    (gsCondition_always : PySem.W.specialIn K (.ref pCondition_always) "__get__" = some (some (.builtin "staticmethod.__get__")))
    (gpCondition_always : K.lookup pCondition_always = some ⟨.type "staticmethod", pdCondition_always, .fields pvCondition_always, pslCondition_always⟩)
    (gvCondition_always : pvCondition_always.toList = .ref gCondition_always :: prCondition_always)
    (glCondition_always : K.lookup gCondition_always = some ⟨gocCondition_always, godCondition_always, .func (PySem.W.fnOf "always" "Condition.always" (defArgs sAl) (defBody sAl) (defScope sAl) .none gkVCondition_always gdcCondition_always gpmCondition_always ganCondition_always gcdCondition_always gctCondition_always), gslCondition_always⟩)
    (gcCondition_always : PySem.W.codeIn K gcdCondition_always "Condition.always" = true)
    (gkCondition_always : PySem.W.keepIn K (.ref gCondition_always) = true)
    (gaCondition_never : PySem.W.findIn K (.type "type") "never" = some none)
    (giCondition_never : PySem.W.findIn K (.ref C_Condition) "never" = some (some (.ref pCondition_never)))
    (gtCondition_never : PySem.W.typeIn K (.ref pCondition_never) = some (.type "staticmethod"))
    (gsCondition_never : PySem.W.specialIn K (.ref pCondition_never) "__get__" = some (some (.builtin "staticmethod.__get__")))
    (gpCondition_never : K.lookup pCondition_never = some ⟨.type "staticmethod", pdCondition_never, .fields pvCondition_never, pslCondition_never⟩)
    (gvCondition_never : pvCondition_never.toList = .ref gCondition_never :: prCondition_never)
    (glCondition_never : K.lookup gCondition_never = some ⟨gocCondition_never, godCondition_never, .func (PySem.W.fnOf "never" "Condition.never" (defArgs sNv) (defBody sNv) (defScope sNv) .none gkVCondition_never gdcCondition_never gpmCondition_never ganCondition_never gcdCondition_never gctCondition_never), gslCondition_never⟩)
    (gcCondition_never : PySem.W.codeIn K gcdCondition_never "Condition.never" = true)
    (gkCondition_never : PySem.W.keepIn K (.ref gCondition_never) = true)
    (a10 : PySem.W.nsIn K mainGlobals "truth_columns" = some (some (.ref f10)))
    (l10 : K.lookup f10 = some ⟨oc10, od10, .func (PySem.W.fnOf "truth_columns" "truth_columns" (defArgs sTc) (defBody sTc) (defScope sTc) .none kV10 dc10 pm10 an10 cd10 ct10), sl10⟩)
    (c10 : PySem.W.codeIn K cd10 "truth_columns" = true)
    (k10 : PySem.W.keepIn K (.ref f10) = true)
    (a11 : PySem.W.nsIn K mainGlobals "are_equal" = some (some (.ref f11)))
    (l11 : K.lookup f11 = some ⟨oc11, od11, .func (PySem.W.fnOf "are_equal" "are_equal" (defArgs sAe) (defBody sAe) (defScope sAe) .none kV11 dc11 pm11 an11 cd11 ct11), sl11⟩)
    (c11 : PySem.W.codeIn K cd11 "are_equal" = true)
    (k11 : PySem.W.keepIn K (.ref f11) = true)
    (a12 : PySem.W.nsIn K mainGlobals "is_within" = some (some (.ref f12)))
    (l12 : K.lookup f12 = some ⟨oc12, od12, .func (PySem.W.fnOf "is_within" "is_within" (defArgs sIw) (defBody sIw) (defScope sIw) .none kV12 dc12 pm12 an12 cd12 ct12), sl12⟩)
    (c12 : PySem.W.codeIn K cd12 "is_within" = true)
    (k12 : PySem.W.keepIn K (.ref f12) = true)
    (ia_Condition : PySem.W.findIn K (.ref C_Condition) "__class__" = some (some (.builtin "object.__class__")))
    (in_ : PySem.W.specialIn K (.builtin "object.__class__") "__get__" = some (some (.builtin "getset_descriptor.__get__")))
    (it_ : PySem.W.takesIn K (.builtin "object.__class__") = some true)
    (im_Condition : PySem.W.mroIn K C_Condition (.type "object") = some true)
    (kit_Condition : PySem.W.kitOne K (.ref C_Condition) (.ref C_Condition) = some true)
    (giCondition_eq : PySem.W.findIn K (.ref C_Condition) "__eq__" = some (some (.ref gCondition_eq)))
    (glCondition_eq : K.lookup gCondition_eq = some ⟨gocCondition_eq, godCondition_eq, .func (PySem.W.fnOf "__eq__" "Condition.__eq__" (defArgs sCeq) (defBody sCeq) (defScope sCeq) .none gkVCondition_eq gdcCondition_eq gpmCondition_eq ganCondition_eq gcdCondition_eq gctCondition_eq), gslCondition_eq⟩)
    (gcCondition_eq : PySem.W.codeIn K gcdCondition_eq "Condition.__eq__" = true)
    (gfCondition_eq : PySem.W.isFn K (.ref gCondition_eq) = true)
    (gkCondition_eq : PySem.W.keepIn K (.ref gCondition_eq) = true)
    (giCondition_le : PySem.W.findIn K (.ref C_Condition) "__le__" = some (some (.ref gCondition_le)))
    (glCondition_le : K.lookup gCondition_le = some ⟨gocCondition_le, godCondition_le, .func (PySem.W.fnOf "__le__" "Condition.__le__" (defArgs sCle) (defBody sCle) (defScope sCle) .none gkVCondition_le gdcCondition_le gpmCondition_le ganCondition_le gcdCondition_le gctCondition_le), gslCondition_le⟩)
    (gcCondition_le : PySem.W.codeIn K gcdCondition_le "Condition.__le__" = true)
    (gfCondition_le : PySem.W.isFn K (.ref gCondition_le) = true)
    (gkCondition_le : PySem.W.keepIn K (.ref gCondition_le) = true)
    (giCondition_lt : PySem.W.findIn K (.ref C_Condition) "__lt__" = some (some (.ref gCondition_lt)))
    (glCondition_lt : K.lookup gCondition_lt = some ⟨gocCondition_lt, godCondition_lt, .func (PySem.W.fnOf "__lt__" "Condition.__lt__" (defArgs sClt) (defBody sClt) (defScope sClt) .none gkVCondition_lt gdcCondition_lt gpmCondition_lt ganCondition_lt gcdCondition_lt gctCondition_lt), gslCondition_lt⟩)
    (gcCondition_lt : PySem.W.codeIn K gcdCondition_lt "Condition.__lt__" = true)
    (gfCondition_lt : PySem.W.isFn K (.ref gCondition_lt) = true)
    (gkCondition_lt : PySem.W.keepIn K (.ref gCondition_lt) = true)
    (giCondition_and : PySem.W.findIn K (.ref C_Condition) "__and__" = some (some (.ref gCondition_and)))
    (glCondition_and : K.lookup gCondition_and = some ⟨gocCondition_and, godCondition_and, .func (PySem.W.fnOf "__and__" "Condition.__and__" (defArgs sAnd) (defBody sAnd) (defScope sAnd) .none gkVCondition_and gdcCondition_and gpmCondition_and ganCondition_and gcdCondition_and gctCondition_and), gslCondition_and⟩)
    (gcCondition_and : PySem.W.codeIn K gcdCondition_and "Condition.__and__" = true)
    (gfCondition_and : PySem.W.isFn K (.ref gCondition_and) = true)
    (gkCondition_and : PySem.W.keepIn K (.ref gCondition_and) = true)
    (giCondition_or : PySem.W.findIn K (.ref C_Condition) "__or__" = some (some (.ref gCondition_or)))
    (glCondition_or : K.lookup gCondition_or = some ⟨gocCondition_or, godCondition_or, .func (PySem.W.fnOf "__or__" "Condition.__or__" (defArgs sOr) (defBody sOr) (defScope sOr) .none gkVCondition_or gdcCondition_or gpmCondition_or ganCondition_or gcdCondition_or gctCondition_or), gslCondition_or⟩)
    (gcCondition_or : PySem.W.codeIn K gcdCondition_or "Condition.__or__" = true)
    (gfCondition_or : PySem.W.isFn K (.ref gCondition_or) = true)
    (gkCondition_or : PySem.W.keepIn K (.ref gCondition_or) = true)
    (giCondition_invert : PySem.W.findIn K (.ref C_Condition) "__invert__" = some (some (.ref gCondition_invert)))
    (glCondition_invert : K.lookup gCondition_invert = some ⟨gocCondition_invert, godCondition_invert, .func (PySem.W.fnOf "__invert__" "Condition.__invert__" (defArgs sInv) (defBody sInv) (defScope sInv) .none gkVCondition_invert gdcCondition_invert gpmCondition_invert ganCondition_invert gcdCondition_invert gctCondition_invert), gslCondition_invert⟩)
    (gcCondition_invert : PySem.W.codeIn K gcdCondition_invert "Condition.__invert__" = true)
    (gfCondition_invert : PySem.W.isFn K (.ref gCondition_invert) = true)
    (gkCondition_invert : PySem.W.keepIn K (.ref gCondition_invert) = true)
    (a13 : PySem.W.nsIn K mainGlobals "_law_condition" = some (some (.ref f13)))
    (l13 : K.lookup f13 = some ⟨oc13, od13, .func (PySem.W.fnOf "_law_condition" "_law_condition" (defArgs sCnd) (defBody sCnd) (defScope sCnd) .none kV13 dc13 pm13 an13 cd13 ct13), sl13⟩)
    (c13 : PySem.W.codeIn K cd13 "_law_condition" = true)
    (k13 : PySem.W.keepIn K (.ref f13) = true)
    (sf_Condition : PySem.W.selfFirst K C_Condition = true)
    (a14 : PySem.W.nsIn K mainGlobals "_law_built" = some (some (.ref f14)))
    (l14 : K.lookup f14 = some ⟨oc14, od14, .func (PySem.W.fnOf "_law_built" "_law_built" (defArgs sBlt) (defBody sBlt) (defScope sBlt) .none kV14 dc14 pm14 an14 cd14 ct14), sl14⟩)
    (c14 : PySem.W.codeIn K cd14 "_law_built" = true)
    (k14 : PySem.W.keepIn K (.ref f14) = true)
    (a15 : PySem.W.nsIn K mainGlobals "_law_sets" = some (some (.ref f15)))
    (l15 : K.lookup f15 = some ⟨oc15, od15, .func (PySem.W.fnOf "_law_sets" "_law_sets" (defArgs sLSt) (defBody sLSt) (defScope sLSt) .none kV15 dc15 pm15 an15 cd15 ct15), sl15⟩)
    (c15 : PySem.W.codeIn K cd15 "_law_sets" = true)
    (k15 : PySem.W.keepIn K (.ref f15) = true)
    (a16 : PySem.W.nsIn K mainGlobals "_law_text" = some (some (.ref f16)))
    (l16 : K.lookup f16 = some ⟨oc16, od16, .func (PySem.W.fnOf "_law_text" "_law_text" (defArgs sLTx) (defBody sLTx) (defScope sLTx) .none kV16 dc16 pm16 an16 cd16 ct16), sl16⟩)
    (c16 : PySem.W.codeIn K cd16 "_law_text" = true)
    (k16 : PySem.W.keepIn K (.ref f16) = true)
    (a17 : PySem.W.nsIn K mainGlobals "_law_wrapped" = some (some (.ref f17)))
    (l17 : K.lookup f17 = some ⟨oc17, od17, .func (PySem.W.fnOf "_law_wrapped" "_law_wrapped" (defArgs sLWr) (defBody sLWr) (defScope sLWr) .none kV17 dc17 pm17 an17 cd17 ct17), sl17⟩)
    (c17 : PySem.W.codeIn K cd17 "_law_wrapped" = true)
    (k17 : PySem.W.keepIn K (.ref f17) = true)
    (a18 : PySem.W.nsIn K mainGlobals "_law_holds" = some (some (.ref f18)))
    (l18 : K.lookup f18 = some ⟨oc18, od18, .func (PySem.W.fnOf "_law_holds" "_law_holds" (defArgs sLHo) (defBody sLHo) (defScope sLHo) .none kV18 dc18 pm18 an18 cd18 ct18), sl18⟩)
    (c18 : PySem.W.codeIn K cd18 "_law_holds" = true)
    (k18 : PySem.W.keepIn K (.ref f18) = true)
    (kit_sC : PySem.W.kitOne K (.type "str") (.ref C_Condition) = some false)
    (kit_iC : PySem.W.kitOne K (.type "int") (.ref C_Condition) = some false)
    (a19 : PySem.W.nsIn K mainGlobals "_law_changed" = some (some (.ref f19)))
    (l19 : K.lookup f19 = some ⟨oc19, od19, .func (PySem.W.fnOf "_law_changed" "_law_changed" (defArgs sLCh) (defBody sLCh) (defScope sLCh) .none kV19 dc19 pm19 an19 cd19 ct19), sl19⟩)
    (c19 : PySem.W.codeIn K cd19 "_law_changed" = true)
    (k19 : PySem.W.keepIn K (.ref f19) = true)
    (hmO : PySem.W.mroIn K C_Condition (.type "object") = some true)
    (hne : PySem.W.findIn K (.ref C_Condition) "__ne__" = some (some (.builtin "object.__ne__")))
    (hge : PySem.W.findIn K (.ref C_Condition) "__ge__" = some (some (.builtin "object.__ge__")))
    (hgt : PySem.W.findIn K (.ref C_Condition) "__gt__" = some (some (.builtin "object.__gt__")))
    (nfC : PySem.W.notFirst K C_Condition (.ref C_Condition) = true)
    (nfs : PySem.W.notFirst K C_Condition (.type "str") = true)
    (nfi : PySem.W.notFirst K C_Condition (.type "int") = true)
    (a20 : PySem.W.nsIn K mainGlobals "law" = some (some (.ref f20)))
    (l20 : K.lookup f20 = some ⟨oc20, od20, .func (PySem.W.fnOf "law" "law" (defArgs sLaw) (defBody sLaw) (defScope sLaw) .none kV20 dc20 pm20 an20 cd20 ct20), sl20⟩)
    (c20 : PySem.W.codeIn K cd20 "law" = true)
    (k20 : PySem.W.keepIn K (.ref f20) = true)
    (z_len : PySem.W.nsIn K mainGlobals "len" = some none)
    (z_list : PySem.W.nsIn K mainGlobals "list" = some none)
    (z_tuple : PySem.W.nsIn K mainGlobals "tuple" = some none)
    (z_int : PySem.W.nsIn K mainGlobals "int" = some none)
    (z_repr : PySem.W.nsIn K mainGlobals "repr" = some none)
    (z_range : PySem.W.nsIn K mainGlobals "range" = some none)
    (z_all : PySem.W.nsIn K mainGlobals "all" = some none)
    (z_zip : PySem.W.nsIn K mainGlobals "zip" = some none)
    (z_enumerate : PySem.W.nsIn K mainGlobals "enumerate" = some none)
    (z_isinstance : PySem.W.nsIn K mainGlobals "isinstance" = some none)
    (z_str : PySem.W.nsIn K mainGlobals "str" = some none)
    (z_bool : PySem.W.nsIn K mainGlobals "bool" = some none)
    (z_dict : PySem.W.nsIn K mainGlobals "dict" = some none)
    (z_any : PySem.W.nsIn K mainGlobals "any" = some none)
    (z_min : PySem.W.nsIn K mainGlobals "min" = some none)
    (z_sorted : PySem.W.nsIn K mainGlobals "sorted" = some none)
    (z_set : PySem.W.nsIn K mainGlobals "set" = some none)
    (z_max : PySem.W.nsIn K mainGlobals "max" = some none)
    (z_sum : PySem.W.nsIn K mainGlobals "sum" = some none)
    : ∃ fd : FuncData, (∀ (s : Shared) (v : Value), BindsTo s fd ⟨[v], []⟩ [("_law_script", v)]) ∧ ∀ base : Heap, K.In base → base.Ns mainGlobals mg → FnG l.prog w K mg base (L2.CX l.prog w) 43 fa fd ["_law_script"] (spD K FLaw) := by
  have e := hfa.symm.trans (PySem.W.mg_of X G a20)
  cases e
  have T : NoB mg := ⟨PySem.W.mg_none_of X G z_len, PySem.W.mg_none_of X G z_list, PySem.W.mg_none_of X G z_tuple, PySem.W.mg_none_of X G z_int, PySem.W.mg_none_of X G z_repr, PySem.W.mg_none_of X G z_range, PySem.W.mg_none_of X G z_all, PySem.W.mg_none_of X G z_zip, PySem.W.mg_none_of X G z_enumerate, PySem.W.mg_none_of X G z_isinstance, PySem.W.mg_none_of X G z_str, PySem.W.mg_none_of X G z_bool, PySem.W.mg_none_of X G z_dict, PySem.W.mg_none_of X G z_any, PySem.W.mg_none_of X G z_min, PySem.W.mg_none_of X G z_sorted, PySem.W.mg_none_of X G z_set, PySem.W.mg_none_of X G z_max, PySem.W.mg_none_of X G z_sum⟩
  refine ⟨PySem.W.fnOf "law" "law" (defArgs sLaw) (defBody sLaw) (defScope sLaw) .none kV20 dc20 pm20 an20 cd20 ct20, fun s v => .of_eq rfl, fun base _ _ => ?_⟩
  have F0 := fun_mk (st := sDraw) l0 c0 k0
  have b0 := F0.binds (ps := ["_law_stream", "_law_many"]) fun _ _ _ _ _ _ us hl => match us, hl with | [_, _], _ => rfl
  have cD := cal_draw (P := l.prog) (w := w) (K := K) (mg := mg) (base := base)  T F0 (PySem.W.mg_of X G a0) k0 b0
  have F1 := fun_mk (st := sPick) l1 c1 k1
  have b1 := F1.binds (ps := ["_law_stream", "_law_some"]) fun _ _ _ _ _ _ us hl => match us, hl with | [_, _], _ => rfl
  have cP := cal_pick (P := l.prog) (w := w) (K := K) (mg := mg) (base := base) cD T F1 (PySem.W.mg_of X G a1) k1 b1
  have F2 := fun_mk (st := sSame) l2 c2 k2
  have b2 := F2.binds (ps := ["_law_found", "_law_due"]) fun _ _ _ _ _ _ us hl => match us, hl with | [_, _], _ => rfl
  have cSm := cal_same (P := l.prog) (w := w) (K := K) (mg := mg) (base := base)  T F2 (PySem.W.mg_of X G a2) k2 b2
  have F3 := fun_mk (st := sName) l3 c3 k3
  have b3 := F3.binds (ps := ["_law_stream", "_law_taken"]) fun _ _ _ _ _ _ us hl => match us, hl with | [_, _], _ => rfl
  have cN := cal_name (P := l.prog) (w := w) (K := K) (mg := mg) (base := base) cD T F3 (PySem.W.mg_of X G a3) k3 b3
  have F4 := fun_mk (st := sNames) l4 c4 k4
  have b4 := F4.binds (ps := ["_law_stream", "_law_many", "_law_taken"]) fun _ _ _ _ _ _ us hl => match us, hl with | [_, _, _], _ => rfl
  have cNs := cal_names (P := l.prog) (w := w) (K := K) (mg := mg) (base := base) cN T F4 (PySem.W.mg_of X G a4) k4 b4
  have F5 := fun_mk (st := sLet) l5 c5 k5
  have b5 := F5.binds (ps := ["sign"]) fun _ _ _ _ _ _ us hl => match us, hl with | [_], _ => rfl
  have cLet := cal_let (P := l.prog) (w := w) (K := K) (mg := mg) (base := base)  T F5 (PySem.W.mg_of X G a5) k5 b5
  have hm_RESERVED := PySem.W.mg_of X G ac_RESERVED
  have l_RESERVED : ∀ H0 : Hp, SqT K H0 TR_RESERVED (Reserved.map V.str) := fun H0 => .inr ⟨_, iR_RESERVED, nR_RESERVED, lc_RESERVED, rfl, rfl, zc_RESERVED, vc_RESERVED⟩
  have hm_LONGEST := PySem.W.mg_of X G ac_LONGEST
  have F6 := fun_mk (st := sIsN) l6 c6 k6
  have b6 := F6.binds (ps := ["value"]) fun _ _ _ _ _ _ us hl => match us, hl with | [_], _ => rfl
  have cIsN := cal_isn (P := l.prog) (w := w) (K := K) (mg := mg) (base := base) cLet hm_RESERVED l_RESERVED hm_LONGEST T F6 (PySem.W.mg_of X G a6) k6 b6
  have TE_BadName : SupK l.prog K mg C_BadName cdaE_BadName ccE_BadName := ⟨⟨⟨nmE_BadName, qE_BadName, NE_BadName, bsE_BadName, bmE_BadName, snE_BadName, subE_BadName, abE_BadName, colE_BadName, ddE_BadName, k0E_BadName, k1E_BadName, k2E_BadName, k3E_BadName, k5E_BadName, lCE_BadName, rvE_BadName⟩, saE_BadName, exCE_BadName, tyCE_BadName, kCE_BadName⟩, ⟨_, _, _, _, _, _, lcdE_BadName, hvsE_BadName, hfileE_BadName⟩, ⟨_, _, _, lccE_BadName⟩, msE_BadName, PySem.W.mg_none_of X G su_, tp_, iniE_BadName, basE_BadName, tpa_⟩
  have hm_BadName := PySem.W.mg_of X G aC_BadName
  have erc_BadName : Erc l.prog w K mg base 1 "BadName" C_BadName eOk_BadName eFl_BadName := Dl.erc_BadName TE_BadName lfE_BadName cfE_BadName tf_E_BadName iCE_BadName hm_BadName no_BadName_name
  have F7 := fun_mk (st := sChE) l7 c7 k7
  have b7 := F7.binds (ps := ["name"]) fun _ _ _ _ _ _ us hl => match us, hl with | [_], _ => rfl
  have cChE := cal_che (P := l.prog) (w := w) (K := K) (mg := mg) (base := base) cIsN erc_BadName T F7 (PySem.W.mg_of X G a7) k7 b7
  have F8 := fun_mk (st := sNmA) l8 c8 k8
  have b8 := F8.binds (ps := ["words"]) fun _ _ _ _ _ _ us hl => match us, hl with | [_], _ => rfl
  have cnma := cal_nma (P := l.prog) (w := w) (K := K) (mg := mg) (base := base) hm_RESERVED l_RESERVED T F8 (PySem.W.mg_of X G a8) k8 b8
  have F9 := fun_mk (st := sWo) l9 c9 k9
  have b9 := F9.binds (ps := ["words", "worths"]) fun _ _ _ _ _ _ us hl => match us, hl with | [_, _], _ => rfl
  have cwo := cal_wo (P := l.prog) (w := w) (K := K) (mg := mg) (base := base)  T F9 (PySem.W.mg_of X G a9) k9 b9
  have cls_Condition : Cls K C_Condition := ⟨pg_Condition, hd_Condition, po_Condition, sa_Condition⟩
  have na_words : NoAttr K C_Condition ("_words" : Str) := pna_words
  have GCondition_init := fun_mk1 (st := sIni) glCondition_init gcCondition_init
  have gbCondition_init := (fun_mk (st := sIni) glCondition_init gcCondition_init gkCondition_init).binds (ps := ["self", "words"]) fun _ _ _ _ _ _ us hl => match us, hl with | [_, _], _ => rfl
  have MCondition_init : Mk K C_Condition gCondition_init := ⟨mk_Condition, giCondition_init, gfCondition_init, kC_Condition⟩
  have cCo := mak_cond (P := l.prog) (w := w) (K := K) (mg := mg) (base := base) cls_Condition na_words T GCondition_init (PySem.W.mg_of X G aC_Condition) MCondition_init gbCondition_init
  have GCondition_of := fun_mk1 (st := sOf) glCondition_of gcCondition_of
  have gbCondition_of := (fun_mk (st := sOf) glCondition_of gcCondition_of gkCondition_of).binds (ps := ["name"]) fun _ _ _ _ _ _ us hl => match us, hl with | [_], _ => rfl
  have MCondition_of : SMet K C_Condition "of" gCondition_of := smet_mk st_Condition sr_Condition sg_Condition gaCondition_of giCondition_of gtCondition_of gsCondition_of gpCondition_of gvCondition_of gkCondition_of
  have cOf := sta_Of (P := l.prog) (w := w) (K := K) (mg := mg) (base := base) cChE cCo T GCondition_of MCondition_of gbCondition_of
  have GCondition_always := fun_mk1 (st := sAl) glCondition_always gcCondition_always
  have gbCondition_always := (fun_mk (st := sAl) glCondition_always gcCondition_always gkCondition_always).binds (ps := []) fun _ _ _ _ _ _ us hl => match us, hl with | [], _ => rfl
  have MCondition_always : SMet K C_Condition "always" gCondition_always := smet_mk st_Condition sr_Condition sg_Condition gaCondition_always giCondition_always gtCondition_always gsCondition_always gpCondition_always gvCondition_always gkCondition_always
  have cAl := sta_Al (P := l.prog) (w := w) (K := K) (mg := mg) (base := base) cCo T GCondition_always MCondition_always gbCondition_always
  have GCondition_never := fun_mk1 (st := sNv) glCondition_never gcCondition_never
  have gbCondition_never := (fun_mk (st := sNv) glCondition_never gcCondition_never gkCondition_never).binds (ps := []) fun _ _ _ _ _ _ us hl => match us, hl with | [], _ => rfl
  have MCondition_never : SMet K C_Condition "never" gCondition_never := smet_mk st_Condition sr_Condition sg_Condition gaCondition_never giCondition_never gtCondition_never gsCondition_never gpCondition_never gvCondition_never gkCondition_never
  have cNv := sta_Nv (P := l.prog) (w := w) (K := K) (mg := mg) (base := base) cCo T GCondition_never MCondition_never gbCondition_never
  have F10 := fun_mk (st := sTc) l10 c10 k10
  have b10 := F10.binds (ps := ["names"]) fun _ _ _ _ _ _ us hl => match us, hl with | [_], _ => rfl
  have ctc := cal_tc (P := l.prog) (w := w) (K := K) (mg := mg) (base := base)  T F10 (PySem.W.mg_of X G a10) k10 b10
  have F11 := fun_mk (st := sAe) l11 c11 k11
  have b11 := F11.binds (ps := ["one", "other"]) fun _ _ _ _ _ _ us hl => match us, hl with | [_, _], _ => rfl
  have cae := cal_ae (P := l.prog) (w := w) (K := K) (mg := mg) (base := base) cnma ctc cwo T F11 (PySem.W.mg_of X G a11) k11 b11
  have F12 := fun_mk (st := sIw) l12 c12 k12
  have b12 := F12.binds (ps := ["one", "other"]) fun _ _ _ _ _ _ us hl => match us, hl with | [_, _], _ => rfl
  have ciw := cal_iw (P := l.prog) (w := w) (K := K) (mg := mg) (base := base) cnma ctc cwo T F12 (PySem.W.mg_of X G a12) k12 b12
  have hm_Condition := PySem.W.mg_of X G aC_Condition
  have isC_Condition : IsC K C_Condition := ⟨cls_Condition, ia_Condition, in_, it_, im_Condition⟩
  have GCondition_eq := fun_mk1 (st := sCeq) glCondition_eq gcCondition_eq
  have gbCondition_eq := (fun_mk (st := sCeq) glCondition_eq gcCondition_eq gkCondition_eq).binds (ps := ["self", "other"]) fun _ _ _ _ _ _ us hl => match us, hl with | [_, _], _ => rfl
  have MCondition_eq : Meth K C_Condition "__eq__" gCondition_eq := ⟨giCondition_eq, gfCondition_eq, gkCondition_eq⟩
  have cCeq := met_Ceq (P := l.prog) (w := w) (K := K) (mg := mg) (base := base) hm_Condition isC_Condition kit_Condition na_words cae T GCondition_eq cls_Condition MCondition_eq gbCondition_eq
  have GCondition_le := fun_mk1 (st := sCle) glCondition_le gcCondition_le
  have gbCondition_le := (fun_mk (st := sCle) glCondition_le gcCondition_le gkCondition_le).binds (ps := ["self", "other"]) fun _ _ _ _ _ _ us hl => match us, hl with | [_, _], _ => rfl
  have MCondition_le : Meth K C_Condition "__le__" gCondition_le := ⟨giCondition_le, gfCondition_le, gkCondition_le⟩
  have cCle := met_Cle (P := l.prog) (w := w) (K := K) (mg := mg) (base := base) hm_Condition isC_Condition kit_Condition na_words ciw T GCondition_le cls_Condition MCondition_le gbCondition_le
  have GCondition_lt := fun_mk1 (st := sClt) glCondition_lt gcCondition_lt
  have gbCondition_lt := (fun_mk (st := sClt) glCondition_lt gcCondition_lt gkCondition_lt).binds (ps := ["self", "other"]) fun _ _ _ _ _ _ us hl => match us, hl with | [_, _], _ => rfl
  have MCondition_lt : Meth K C_Condition "__lt__" gCondition_lt := ⟨giCondition_lt, gfCondition_lt, gkCondition_lt⟩
  have cClt := met_Clt (P := l.prog) (w := w) (K := K) (mg := mg) (base := base) hm_Condition isC_Condition kit_Condition na_words ciw T GCondition_lt cls_Condition MCondition_lt gbCondition_lt
  have GCondition_and := fun_mk1 (st := sAnd) glCondition_and gcCondition_and
  have gbCondition_and := (fun_mk (st := sAnd) glCondition_and gcCondition_and gkCondition_and).binds (ps := ["self", "other"]) fun _ _ _ _ _ _ us hl => match us, hl with | [_, _], _ => rfl
  have MCondition_and : Meth K C_Condition "__and__" gCondition_and := ⟨giCondition_and, gfCondition_and, gkCondition_and⟩
  have cAnd := met_And (P := l.prog) (w := w) (K := K) (mg := mg) (base := base) hm_Condition isC_Condition kit_Condition na_words cCo T GCondition_and cls_Condition MCondition_and gbCondition_and
  have GCondition_or := fun_mk1 (st := sOr) glCondition_or gcCondition_or
  have gbCondition_or := (fun_mk (st := sOr) glCondition_or gcCondition_or gkCondition_or).binds (ps := ["self", "other"]) fun _ _ _ _ _ _ us hl => match us, hl with | [_, _], _ => rfl
  have MCondition_or : Meth K C_Condition "__or__" gCondition_or := ⟨giCondition_or, gfCondition_or, gkCondition_or⟩
  have cOr := met_Or (P := l.prog) (w := w) (K := K) (mg := mg) (base := base) hm_Condition isC_Condition kit_Condition na_words cCo T GCondition_or cls_Condition MCondition_or gbCondition_or
  have GCondition_invert := fun_mk1 (st := sInv) glCondition_invert gcCondition_invert
  have gbCondition_invert := (fun_mk (st := sInv) glCondition_invert gcCondition_invert gkCondition_invert).binds (ps := ["self"]) fun _ _ _ _ _ _ us hl => match us, hl with | [_], _ => rfl
  have MCondition_invert : Meth K C_Condition "__invert__" gCondition_invert := ⟨giCondition_invert, gfCondition_invert, gkCondition_invert⟩
  have cInv := met_Inv (P := l.prog) (w := w) (K := K) (mg := mg) (base := base) na_words cCo T GCondition_invert cls_Condition MCondition_invert gbCondition_invert
  have F13 := fun_mk (st := sCnd) l13 c13 k13
  have b13 := F13.binds (ps := ["_law_stream", "_law_names_here", "_law_deep"]) fun _ _ _ _ _ _ us hl => match us, hl with | [_, _, _], _ => rfl
  have cC5 : Cal l.prog w K mg base 7 "_law_condition" (FCnd 5) [] := by
    have h : ∀ n, Cal l.prog w K mg base (n + 2) "_law_condition" (FCnd n) [] := fun n => by
      induction n with
      | zero => exact cal_no (PySem.W.mg_of X G a13) k13 b13 fun ds μ Q E ⟨_, _, _, _, _, h, _, _, _, _, _, _, _⟩ => Nat.not_lt_zero _ h
      | succ n ih => exact cal_cnd n cD cP ih T F13 (PySem.W.mg_of X G a13) k13 b13
    exact h 5
  have F14 := fun_mk (st := sBlt) l14 c14 k14
  have b14 := F14.binds (ps := ["_law_tree"]) fun _ _ _ _ _ _ us hl => match us, hl with | [_], _ => rfl
  have cB : Cal l.prog w K mg base 12 "_law_built" (FBlt C_Condition 8) [] := by
    have h : ∀ n, Cal l.prog w K mg base (n + 4) "_law_built" (FBlt C_Condition n) [] := fun n => by
      induction n with
      | zero => exact cal_no (PySem.W.mg_of X G a14) k14 b14 fun ds μ Q E ⟨_, _, _, h, _, _, _⟩ => Nat.not_lt_zero _ h
      | succ n ih => exact cal_blt n hm_Condition isC_Condition sf_Condition cOf cAl cNv cAnd cOr cInv ih T F14 (PySem.W.mg_of X G a14) k14 b14
    exact h 8
  have F15 := fun_mk (st := sLSt) l15 c15 k15
  have b15 := F15.binds (ps := ["_law_names_here"]) fun _ _ _ _ _ _ us hl => match us, hl with | [_], _ => rfl
  have cLSt := cal_lst (P := l.prog) (w := w) (K := K) (mg := mg) (base := base)  T F15 (PySem.W.mg_of X G a15) k15 b15
  have cBS : Cal l.prog w K mg base 24 "_law_built" (FBlS C_Condition 20) [] := by
    have h : ∀ n, Cal l.prog w K mg base (n + 4) "_law_built" (FBlS C_Condition n) [] := fun n => by
      induction n with
      | zero => exact cal_no (PySem.W.mg_of X G a14) k14 b14 fun ds μ Q E ⟨_, _, _, h, _, _, _⟩ => Nat.not_lt_zero _ h
      | succ n ih => exact cal_bls n hm_Condition isC_Condition sf_Condition cOf cAl cNv cAnd cOr cInv ih T F14 (PySem.W.mg_of X G a14) k14 b14
    exact h 20
  have F16 := fun_mk (st := sLTx) l16 c16 k16
  have b16 := F16.binds (ps := ["_law_tree"]) fun _ _ _ _ _ _ us hl => match us, hl with | [_], _ => rfl
  have F17 := fun_mk (st := sLWr) l17 c17 k17
  have b17 := F17.binds (ps := ["_law_tree", "_law_kinds"]) fun _ _ _ _ _ _ us hl => match us, hl with | [_, _], _ => rfl
  have cTx : Cal l.prog w K mg base 41 "_law_text" (FLTx 20) [] := by
    have h : ∀ n, Cal l.prog w K mg base (2 * n + 1) "_law_text" (FLTx n) [] := fun n => by
      induction n with
      | zero => exact cal_no (PySem.W.mg_of X G a16) k16 b16 fun ds μ Q E ⟨_, _, _, h, _, _⟩ => Nat.not_lt_zero _ h
      | succ n ih => exact cal_ltx n ih (cal_lwr n ih T F17 (PySem.W.mg_of X G a17) k17 b17) T F16 (PySem.W.mg_of X G a16) k16 b16
    exact h 20
  have F18 := fun_mk (st := sLHo) l18 c18 k18
  have b18 := F18.binds (ps := ["_law_tree", "_law_names_here"]) fun _ _ _ _ _ _ us hl => match us, hl with | [_, _], _ => rfl
  have cHo : Cal l.prog w K mg base 9 "_law_holds" (FLHo 8) [] := by
    have h : ∀ n, Cal l.prog w K mg base (n + 1) "_law_holds" (FLHo n) [] := fun n => by
      induction n with
      | zero => exact cal_no (PySem.W.mg_of X G a18) k18 b18 fun ds μ Q E ⟨_, _, _, _, _, h, _, _⟩ => Nat.not_lt_zero _ h
      | succ n ih => exact cal_lho n ih T F18 (PySem.W.mg_of X G a18) k18 b18
    exact h 8
  have cCeqT := met_CeqT (P := l.prog) (w := w) (K := K) (mg := mg) (base := base) hm_Condition kit_sC kit_iC na_words cae T GCondition_eq cls_Condition MCondition_eq gbCondition_eq
  have cHoS : Cal l.prog w K mg base 21 "_law_holds" (FLHo 20) [] := by
    have h : ∀ n, Cal l.prog w K mg base (n + 1) "_law_holds" (FLHo n) [] := fun n => by
      induction n with
      | zero => exact cal_no (PySem.W.mg_of X G a18) k18 b18 fun ds μ Q E ⟨_, _, _, _, _, h, _, _⟩ => Nat.not_lt_zero _ h
      | succ n ih => exact cal_lho n ih T F18 (PySem.W.mg_of X G a18) k18 b18
    exact h 20
  have F19 := fun_mk (st := sLCh) l19 c19 k19
  have b19 := F19.binds (ps := ["_law_stream", "_law_tree", "_law_names_here"]) fun _ _ _ _ _ _ us hl => match us, hl with | [_, _, _], _ => rfl
  have cCh : Cal l.prog w K mg base 11 "_law_changed" (FLCh 4) [] := by
    have h : ∀ n, Cal l.prog w K mg base (n + 7) "_law_changed" (FLCh n) [] := fun n => by
      induction n with
      | zero => exact cal_no (PySem.W.mg_of X G a19) k19 b19 fun ds μ Q E ⟨_, _, _, _, _, _, h, _, _, _, _, _, _, _, _⟩ => Nat.not_lt_zero _ h
      | succ n ih => exact cal_lch n cD cP cC5 ih T F19 (PySem.W.mg_of X G a19) k19 b19
    exact h 4
  have F20 := fun_mk (st := sLaw) l20 c20 k20
  have b20 := F20.binds (ps := ["_law_script"]) fun _ _ _ _ _ _ us hl => match us, hl with | [_], _ => rfl
  exact cal_law isC_Condition sf_Condition hmO hne hge hgt nfC nfs nfi cD cNs cSm cC5 cBS cHoS cCh cTx cLSt cCeq cCeqT cCle cClt cAnd cOr cInv T F20 hfa k20 b20
/-! ### what the top leaves -/
def tXs : List (PySem.W.Frag → Bool) := [fun K => decide (PySem.W.nsIn K mainGlobals "_law_draw" = some (some (.ref (gA "_law_draw" K)))),
  fun K => PySem.W.keepIn K (.ref (gA "_law_draw" K)),
  fun K => decide (PySem.W.nsIn K mainGlobals "_law_pick" = some (some (.ref (gA "_law_pick" K)))),
  fun K => PySem.W.keepIn K (.ref (gA "_law_pick" K)),
  fun K => decide (PySem.W.nsIn K mainGlobals "_law_same" = some (some (.ref (gA "_law_same" K)))),
  fun K => PySem.W.keepIn K (.ref (gA "_law_same" K)),
  fun K => decide (PySem.W.nsIn K mainGlobals "_law_name" = some (some (.ref (gA "_law_name" K)))),
  fun K => PySem.W.keepIn K (.ref (gA "_law_name" K)),
  fun K => decide (PySem.W.nsIn K mainGlobals "_law_names" = some (some (.ref (gA "_law_names" K)))),
  fun K => PySem.W.keepIn K (.ref (gA "_law_names" K)),
  fun K => decide (PySem.W.nsIn K mainGlobals "is_letter" = some (some (.ref (gA "is_letter" K)))),
  fun K => PySem.W.keepIn K (.ref (gA "is_letter" K)),
  fun K => decide (PySem.W.nsIn K mainGlobals "RESERVED" = some (some (.ref (gA "RESERVED" K)))),
  fun K => tupB (gA "RESERVED" K) (Reserved.map V.str) K,
  intB "LONGEST" 8,
  fun K => decide (PySem.W.nsIn K mainGlobals "is_name" = some (some (.ref (gA "is_name" K)))),
  fun K => PySem.W.keepIn K (.ref (gA "is_name" K)),
  fun K => decide (PySem.W.nsIn K mainGlobals "BadName" = some (some (.ref (gA "BadName" K)))),
  fun K => excB (gA "BadName" K) K,
  fun K => decide (PySem.W.findIn K (.ref (gA "BadName" K)) "__setattr__" = some (some (.builtin "object.__setattr__"))),
  fun K => decide (PySem.W.subIn K (.ref (gA "BadName" K)) (.type "BaseException") = some true),
  fun K => decide (PySem.W.typeIn K (.ref (gA "BadName" K)) = some (.type "type")),
  fun K => PySem.W.keepIn K (.ref (gA "BadName" K)),
  fun K => decide (PySem.W.findIn K (.ref (gA "BadName" K)) "__init__" = some (some (.ref (mA "BadName" "__init__" K)))),
  codB (mA "BadName" "__init__"),
  fun K => decide (PySem.W.typeIn K (.ref (mA "BadName" "__init__" K)) = some (.type "function")),
  fun K => fileB PySem.Challenge.rw_noneorsome_k04_whole_conditions_compared.prog (codeAt (mA "BadName" "__init__") K) K,
  fun K => cellB (cellAt (mA "BadName" "__init__") K) (gA "BadName" K) K,
  fun K => decide (PySem.W.mroIn K (gA "BadName" K) (.ref (gA "BadName" K)) = some true),
  fun K => decide (PySem.W.nsIn K mainGlobals "super" = some none),
  fun K => decide (PySem.W.ks_superIn K (gA "BadName" K) (gA "BadName" K) "__init__" = some (some (.builtin "ValueError.__init__"))),
  fun K => decide (PySem.W.subIn K (.ref (gA "BadName" K)) (.type "ValueError") = some true),
  fun K => decide (PySem.W.nsIn K cStatics "thirdparty.any" = some none),
  fun K => decide (PySem.W.findIn K (.ref (gA "BadName" K)) "name" = some none),
  fun K => decide (PySem.W.nsIn K mainGlobals "check_name" = some (some (.ref (gA "check_name" K)))),
  fun K => PySem.W.keepIn K (.ref (gA "check_name" K)),
  fun K => decide (PySem.W.nsIn K mainGlobals "names_among" = some (some (.ref (gA "names_among" K)))),
  fun K => PySem.W.keepIn K (.ref (gA "names_among" K)),
  fun K => decide (PySem.W.nsIn K mainGlobals "work_out" = some (some (.ref (gA "work_out" K)))),
  fun K => PySem.W.keepIn K (.ref (gA "work_out" K)),
  fun K => decide (PySem.W.nsIn K mainGlobals "Condition" = some (some (.ref (gA "Condition" K)))),
  fun K => PySem.W.plainGet K (gA "Condition" K) Str.empty,
  fun K => PySem.W.hasDictIn K (gA "Condition" K),
  fun K => PySem.W.plainOver K (gA "Condition" K),
  fun K => decide (PySem.W.findIn K (.ref (gA "Condition" K)) "__setattr__" = some (some (.builtin "object.__setattr__"))),
  fun K => decide (PySem.W.findIn K (.ref (gA "Condition" K)) "_words" = some none),
  fun K => decide (PySem.W.findIn K (.ref (gA "Condition" K)) "__init__" = some (some (.ref (mA "Condition" "__init__" K)))),
  fun K => PySem.W.isFn K (.ref (mA "Condition" "__init__" K)),
  fun K => PySem.W.keepIn K (.ref (mA "Condition" "__init__" K)),
  fun K => PySem.W.makesIn K (gA "Condition" K),
  fun K => PySem.W.keepIn K (.ref (gA "Condition" K)),
  fun K => decide (PySem.W.specialIn K (.ref (gA "Condition" K)) "__getattribute__" = some (some (.builtin "type.__getattribute__"))),
  fun K => decide (PySem.W.typeIn K (.ref (gA "Condition" K)) = some (.type "type")),
  fun K => PySem.W.readsIn K (gA "Condition" K) (.type "type"),
  fun K => decide (PySem.W.findIn K (.type "type") "of" = some none),
  fun K => decide (PySem.W.findIn K (.ref (gA "Condition" K)) "of" = some (some (.ref (mA "Condition" "of" K)))),
  fun K => decide (PySem.W.typeIn K (.ref (mA "Condition" "of" K)) = some (.type "staticmethod")),
  fun K => decide (PySem.W.specialIn K (.ref (mA "Condition" "of" K)) "__get__" = some (some (.builtin "staticmethod.__get__"))),
  fun K => staB (mA "Condition" "of" K) K,
  fun K => PySem.W.keepIn K (.ref (sA "Condition" "of" K)),
  fun K => decide (PySem.W.findIn K (.type "type") "always" = some none),
  fun K => decide (PySem.W.findIn K (.ref (gA "Condition" K)) "always" = some (some (.ref (mA "Condition" "always" K)))),
  fun K => decide (PySem.W.typeIn K (.ref (mA "Condition" "always" K)) = some (.type "staticmethod")),
  fun K => decide (PySem.W.specialIn K (.ref (mA "Condition" "always" K)) "__get__" = some (some (.builtin "staticmethod.__get__"))),
  fun K => staB (mA "Condition" "always" K) K,
  fun K => PySem.W.keepIn K (.ref (sA "Condition" "always" K)),
  fun K => decide (PySem.W.findIn K (.type "type") "never" = some none),
  fun K => decide (PySem.W.findIn K (.ref (gA "Condition" K)) "never" = some (some (.ref (mA "Condition" "never" K)))),
  fun K => decide (PySem.W.typeIn K (.ref (mA "Condition" "never" K)) = some (.type "staticmethod")),
  fun K => decide (PySem.W.specialIn K (.ref (mA "Condition" "never" K)) "__get__" = some (some (.builtin "staticmethod.__get__"))),
  fun K => staB (mA "Condition" "never" K) K,
  fun K => PySem.W.keepIn K (.ref (sA "Condition" "never" K)),
  fun K => decide (PySem.W.nsIn K mainGlobals "truth_columns" = some (some (.ref (gA "truth_columns" K)))),
  fun K => PySem.W.keepIn K (.ref (gA "truth_columns" K)),
  fun K => decide (PySem.W.nsIn K mainGlobals "are_equal" = some (some (.ref (gA "are_equal" K)))),
  fun K => PySem.W.keepIn K (.ref (gA "are_equal" K)),
  fun K => decide (PySem.W.nsIn K mainGlobals "is_within" = some (some (.ref (gA "is_within" K)))),
  fun K => PySem.W.keepIn K (.ref (gA "is_within" K)),
  fun K => decide (PySem.W.findIn K (.ref (gA "Condition" K)) "__class__" = some (some (.builtin "object.__class__"))),
  fun K => decide (PySem.W.specialIn K (.builtin "object.__class__") "__get__" = some (some (.builtin "getset_descriptor.__get__"))),
  fun K => decide (PySem.W.takesIn K (.builtin "object.__class__") = some true),
  fun K => decide (PySem.W.mroIn K (gA "Condition" K) (.type "object") = some true),
  fun K => decide (PySem.W.kitOne K (.ref (gA "Condition" K)) (.ref (gA "Condition" K)) = some true),
  fun K => decide (PySem.W.findIn K (.ref (gA "Condition" K)) "__eq__" = some (some (.ref (mA "Condition" "__eq__" K)))),
  fun K => PySem.W.isFn K (.ref (mA "Condition" "__eq__" K)),
  fun K => PySem.W.keepIn K (.ref (mA "Condition" "__eq__" K)),
  fun K => decide (PySem.W.findIn K (.ref (gA "Condition" K)) "__le__" = some (some (.ref (mA "Condition" "__le__" K)))),
  fun K => PySem.W.isFn K (.ref (mA "Condition" "__le__" K)),
  fun K => PySem.W.keepIn K (.ref (mA "Condition" "__le__" K)),
  fun K => decide (PySem.W.findIn K (.ref (gA "Condition" K)) "__lt__" = some (some (.ref (mA "Condition" "__lt__" K)))),
  fun K => PySem.W.isFn K (.ref (mA "Condition" "__lt__" K)),
  fun K => PySem.W.keepIn K (.ref (mA "Condition" "__lt__" K)),
  fun K => decide (PySem.W.findIn K (.ref (gA "Condition" K)) "__and__" = some (some (.ref (mA "Condition" "__and__" K)))),
  fun K => PySem.W.isFn K (.ref (mA "Condition" "__and__" K)),
  fun K => PySem.W.keepIn K (.ref (mA "Condition" "__and__" K)),
  fun K => decide (PySem.W.findIn K (.ref (gA "Condition" K)) "__or__" = some (some (.ref (mA "Condition" "__or__" K)))),
  fun K => PySem.W.isFn K (.ref (mA "Condition" "__or__" K)),
  fun K => PySem.W.keepIn K (.ref (mA "Condition" "__or__" K)),
  fun K => decide (PySem.W.findIn K (.ref (gA "Condition" K)) "__invert__" = some (some (.ref (mA "Condition" "__invert__" K)))),
  fun K => PySem.W.isFn K (.ref (mA "Condition" "__invert__" K)),
  fun K => PySem.W.keepIn K (.ref (mA "Condition" "__invert__" K)),
  fun K => decide (PySem.W.nsIn K mainGlobals "_law_condition" = some (some (.ref (gA "_law_condition" K)))),
  fun K => PySem.W.keepIn K (.ref (gA "_law_condition" K)),
  fun K => PySem.W.selfFirst K (gA "Condition" K),
  fun K => decide (PySem.W.nsIn K mainGlobals "_law_built" = some (some (.ref (gA "_law_built" K)))),
  fun K => PySem.W.keepIn K (.ref (gA "_law_built" K)),
  fun K => decide (PySem.W.nsIn K mainGlobals "_law_sets" = some (some (.ref (gA "_law_sets" K)))),
  fun K => PySem.W.keepIn K (.ref (gA "_law_sets" K)),
  fun K => decide (PySem.W.nsIn K mainGlobals "_law_text" = some (some (.ref (gA "_law_text" K)))),
  fun K => PySem.W.keepIn K (.ref (gA "_law_text" K)),
  fun K => decide (PySem.W.nsIn K mainGlobals "_law_wrapped" = some (some (.ref (gA "_law_wrapped" K)))),
  fun K => PySem.W.keepIn K (.ref (gA "_law_wrapped" K)),
  fun K => decide (PySem.W.nsIn K mainGlobals "_law_holds" = some (some (.ref (gA "_law_holds" K)))),
  fun K => PySem.W.keepIn K (.ref (gA "_law_holds" K)),
  fun K => decide (PySem.W.kitOne K (.type "str") (.ref (gA "Condition" K)) = some false),
  fun K => decide (PySem.W.kitOne K (.type "int") (.ref (gA "Condition" K)) = some false),
  fun K => decide (PySem.W.nsIn K mainGlobals "_law_changed" = some (some (.ref (gA "_law_changed" K)))),
  fun K => PySem.W.keepIn K (.ref (gA "_law_changed" K)),
  fun K => decide (PySem.W.mroIn K (gA "Condition" K) (.type "object") = some true),
  fun K => decide (PySem.W.findIn K (.ref (gA "Condition" K)) "__ne__" = some (some (.builtin "object.__ne__"))),
  fun K => decide (PySem.W.findIn K (.ref (gA "Condition" K)) "__ge__" = some (some (.builtin "object.__ge__"))),
  fun K => decide (PySem.W.findIn K (.ref (gA "Condition" K)) "__gt__" = some (some (.builtin "object.__gt__"))),
  fun K => PySem.W.notFirst K (gA "Condition" K) (.ref (gA "Condition" K)),
  fun K => PySem.W.notFirst K (gA "Condition" K) (.type "str"),
  fun K => PySem.W.notFirst K (gA "Condition" K) (.type "int"),
  fun K => decide (PySem.W.nsIn K mainGlobals "law" = some (some (.ref (gA "law" K)))),
  fun K => PySem.W.keepIn K (.ref (gA "law" K)),
  fun K => decide (PySem.W.nsIn K mainGlobals "len" = some none),
  fun K => decide (PySem.W.nsIn K mainGlobals "list" = some none),
  fun K => decide (PySem.W.nsIn K mainGlobals "tuple" = some none),
  fun K => decide (PySem.W.nsIn K mainGlobals "int" = some none),
  fun K => decide (PySem.W.nsIn K mainGlobals "repr" = some none),
  fun K => decide (PySem.W.nsIn K mainGlobals "range" = some none),
  fun K => decide (PySem.W.nsIn K mainGlobals "all" = some none),
  fun K => decide (PySem.W.nsIn K mainGlobals "zip" = some none),
  fun K => decide (PySem.W.nsIn K mainGlobals "enumerate" = some none),
  fun K => decide (PySem.W.nsIn K mainGlobals "isinstance" = some none),
  fun K => decide (PySem.W.nsIn K mainGlobals "str" = some none),
  fun K => decide (PySem.W.nsIn K mainGlobals "bool" = some none),
  fun K => decide (PySem.W.nsIn K mainGlobals "dict" = some none),
  fun K => decide (PySem.W.nsIn K mainGlobals "any" = some none),
  fun K => decide (PySem.W.nsIn K mainGlobals "min" = some none),
  fun K => decide (PySem.W.nsIn K mainGlobals "sorted" = some none),
  fun K => decide (PySem.W.nsIn K mainGlobals "set" = some none),
  fun K => decide (PySem.W.nsIn K mainGlobals "max" = some none),
  fun K => decide (PySem.W.nsIn K mainGlobals "sum" = some none)]
def tFs : List Fd := [⟨(gA "_law_draw"), "_law_draw", "_law_draw", sDraw, fun _ => [], fun _ => .none⟩,
  ⟨(gA "_law_pick"), "_law_pick", "_law_pick", sPick, fun _ => [], fun _ => .none⟩,
  ⟨(gA "_law_same"), "_law_same", "_law_same", sSame, fun _ => [], fun _ => .none⟩,
  ⟨(gA "_law_name"), "_law_name", "_law_name", sName, fun _ => [], fun _ => .none⟩,
  ⟨(gA "_law_names"), "_law_names", "_law_names", sNames, fun _ => [], fun _ => .none⟩,
  ⟨(gA "is_letter"), "is_letter", "is_letter", sLet, fun _ => [], fun _ => .none⟩,
  ⟨(gA "is_name"), "is_name", "is_name", sIsN, fun _ => [], fun _ => .none⟩,
  ⟨(mA "BadName" "__init__"), "__init__", "BadName.__init__", sE_BadName, fun K => [(("__class__" : Str), cellAt (mA "BadName" "__init__") K)], fun _ => .none⟩,
  ⟨(gA "check_name"), "check_name", "check_name", sChE, fun _ => [], fun _ => .none⟩,
  ⟨(gA "names_among"), "names_among", "names_among", sNmA, fun _ => [], fun _ => .none⟩,
  ⟨(gA "work_out"), "work_out", "work_out", sWo, fun _ => [], fun _ => .none⟩,
  ⟨(mA "Condition" "__init__"), "__init__", "Condition.__init__", sIni, fun _ => [], fun _ => .none⟩,
  ⟨(sA "Condition" "of"), "of", "Condition.of", sOf, fun _ => [], fun _ => .none⟩,
  ⟨(sA "Condition" "always"), "always", "Condition.always", sAl, fun _ => [], fun _ => .none⟩,
  ⟨(sA "Condition" "never"), "never", "Condition.never", sNv, fun _ => [], fun _ => .none⟩,
  ⟨(gA "truth_columns"), "truth_columns", "truth_columns", sTc, fun _ => [], fun _ => .none⟩,
  ⟨(gA "are_equal"), "are_equal", "are_equal", sAe, fun _ => [], fun _ => .none⟩,
  ⟨(gA "is_within"), "is_within", "is_within", sIw, fun _ => [], fun _ => .none⟩,
  ⟨(mA "Condition" "__eq__"), "__eq__", "Condition.__eq__", sCeq, fun _ => [], fun _ => .none⟩,
  ⟨(mA "Condition" "__le__"), "__le__", "Condition.__le__", sCle, fun _ => [], fun _ => .none⟩,
  ⟨(mA "Condition" "__lt__"), "__lt__", "Condition.__lt__", sClt, fun _ => [], fun _ => .none⟩,
  ⟨(mA "Condition" "__and__"), "__and__", "Condition.__and__", sAnd, fun _ => [], fun _ => .none⟩,
  ⟨(mA "Condition" "__or__"), "__or__", "Condition.__or__", sOr, fun _ => [], fun _ => .none⟩,
  ⟨(mA "Condition" "__invert__"), "__invert__", "Condition.__invert__", sInv, fun _ => [], fun _ => .none⟩,
  ⟨(gA "_law_condition"), "_law_condition", "_law_condition", sCnd, fun _ => [], fun _ => .none⟩,
  ⟨(gA "_law_built"), "_law_built", "_law_built", sBlt, fun _ => [], fun _ => .none⟩,
  ⟨(gA "_law_sets"), "_law_sets", "_law_sets", sLSt, fun _ => [], fun _ => .none⟩,
  ⟨(gA "_law_text"), "_law_text", "_law_text", sLTx, fun _ => [], fun _ => .none⟩,
  ⟨(gA "_law_wrapped"), "_law_wrapped", "_law_wrapped", sLWr, fun _ => [], fun _ => .none⟩,
  ⟨(gA "_law_holds"), "_law_holds", "_law_holds", sLHo, fun _ => [], fun _ => .none⟩,
  ⟨(gA "_law_changed"), "_law_changed", "_law_changed", sLCh, fun _ => [], fun _ => .none⟩,
  ⟨(gA "law"), "law", "law", sLaw, fun _ => [], fun _ => .none⟩]
theorem all_told {w : World} {K : PySem.W.Frag} {h : Heap} {mg : Str → Option Value} {fa : Addr} (X : K.In h) (G : h.Ns mainGlobals mg) (hfa : mg "law" = some (.ref fa)) (c : Told tXs tFs K) :
    ∃ fd : FuncData, (∀ (s : Shared) (v : Value), BindsTo s fd ⟨[v], []⟩ [("_law_script", v)]) ∧ ∀ base : Heap, K.In base → base.Ns mainGlobals mg → FnG PySem.Challenge.rw_noneorsome_k04_whole_conditions_compared.prog w K mg base (L2.CX PySem.Challenge.rw_noneorsome_k04_whole_conditions_compared.prog w) 43 fa fd ["_law_script"] (spD K FLaw) := by
  have a0 := of_dec (show (decide (PySem.W.nsIn K mainGlobals "_law_draw" = some (some (.ref (gA "_law_draw" K))))) = true from c.ex 0 (f := fun K => decide (PySem.W.nsIn K mainGlobals "_law_draw" = some (some (.ref (gA "_law_draw" K))))))
  obtain ⟨_, _, _, _, _, _, _, _, _, l0, c0⟩ := c.pl 0
  have k0 := (show (PySem.W.keepIn K (.ref (gA "_law_draw" K))) = true from c.ex 1 (f := fun K => PySem.W.keepIn K (.ref (gA "_law_draw" K))))
  have a1 := of_dec (show (decide (PySem.W.nsIn K mainGlobals "_law_pick" = some (some (.ref (gA "_law_pick" K))))) = true from c.ex 2 (f := fun K => decide (PySem.W.nsIn K mainGlobals "_law_pick" = some (some (.ref (gA "_law_pick" K))))))
  obtain ⟨_, _, _, _, _, _, _, _, _, l1, c1⟩ := c.pl 1
  have k1 := (show (PySem.W.keepIn K (.ref (gA "_law_pick" K))) = true from c.ex 3 (f := fun K => PySem.W.keepIn K (.ref (gA "_law_pick" K))))
  have a2 := of_dec (show (decide (PySem.W.nsIn K mainGlobals "_law_same" = some (some (.ref (gA "_law_same" K))))) = true from c.ex 4 (f := fun K => decide (PySem.W.nsIn K mainGlobals "_law_same" = some (some (.ref (gA "_law_same" K))))))
  obtain ⟨_, _, _, _, _, _, _, _, _, l2, c2⟩ := c.pl 2
  have k2 := (show (PySem.W.keepIn K (.ref (gA "_law_same" K))) = true from c.ex 5 (f := fun K => PySem.W.keepIn K (.ref (gA "_law_same" K))))
  have a3 := of_dec (show (decide (PySem.W.nsIn K mainGlobals "_law_name" = some (some (.ref (gA "_law_name" K))))) = true from c.ex 6 (f := fun K => decide (PySem.W.nsIn K mainGlobals "_law_name" = some (some (.ref (gA "_law_name" K))))))
  obtain ⟨_, _, _, _, _, _, _, _, _, l3, c3⟩ := c.pl 3
  have k3 := (show (PySem.W.keepIn K (.ref (gA "_law_name" K))) = true from c.ex 7 (f := fun K => PySem.W.keepIn K (.ref (gA "_law_name" K))))
  have a4 := of_dec (show (decide (PySem.W.nsIn K mainGlobals "_law_names" = some (some (.ref (gA "_law_names" K))))) = true from c.ex 8 (f := fun K => decide (PySem.W.nsIn K mainGlobals "_law_names" = some (some (.ref (gA "_law_names" K))))))
  obtain ⟨_, _, _, _, _, _, _, _, _, l4, c4⟩ := c.pl 4
  have k4 := (show (PySem.W.keepIn K (.ref (gA "_law_names" K))) = true from c.ex 9 (f := fun K => PySem.W.keepIn K (.ref (gA "_law_names" K))))
  have a5 := of_dec (show (decide (PySem.W.nsIn K mainGlobals "is_letter" = some (some (.ref (gA "is_letter" K))))) = true from c.ex 10 (f := fun K => decide (PySem.W.nsIn K mainGlobals "is_letter" = some (some (.ref (gA "is_letter" K))))))
  obtain ⟨_, _, _, _, _, _, _, _, _, l5, c5⟩ := c.pl 5
  have k5 := (show (PySem.W.keepIn K (.ref (gA "is_letter" K))) = true from c.ex 11 (f := fun K => PySem.W.keepIn K (.ref (gA "is_letter" K))))
  have ac_RESERVED := of_dec (show (decide (PySem.W.nsIn K mainGlobals "RESERVED" = some (some (.ref (gA "RESERVED" K))))) = true from c.ex 12 (f := fun K => decide (PySem.W.nsIn K mainGlobals "RESERVED" = some (some (.ref (gA "RESERVED" K))))))
  obtain ⟨_, _, _, _, lc_RESERVED, zc_RESERVED, vc_RESERVED⟩ := tupB_ok (show (tupB (gA "RESERVED" K) (Reserved.map V.str) K) = true from c.ex 13 (f := fun K => tupB (gA "RESERVED" K) (Reserved.map V.str) K))
  obtain ⟨_, ac_LONGEST⟩ := intB_ok (show (intB "LONGEST" 8 K) = true from c.ex 14 (f := intB "LONGEST" 8))
  have a6 := of_dec (show (decide (PySem.W.nsIn K mainGlobals "is_name" = some (some (.ref (gA "is_name" K))))) = true from c.ex 15 (f := fun K => decide (PySem.W.nsIn K mainGlobals "is_name" = some (some (.ref (gA "is_name" K))))))
  obtain ⟨_, _, _, _, _, _, _, _, _, l6, c6⟩ := c.pl 6
  have k6 := (show (PySem.W.keepIn K (.ref (gA "is_name" K))) = true from c.ex 16 (f := fun K => PySem.W.keepIn K (.ref (gA "is_name" K))))
  have aC_BadName := of_dec (show (decide (PySem.W.nsIn K mainGlobals "BadName" = some (some (.ref (gA "BadName" K))))) = true from c.ex 17 (f := fun K => decide (PySem.W.nsIn K mainGlobals "BadName" = some (some (.ref (gA "BadName" K))))))
  obtain ⟨_, _, _, _, _, _, _, _, _, _, _, _, _, _, _, lCE_BadName, rvE_BadName⟩ := excB_ok (show (excB (gA "BadName" K) K) = true from c.ex 18 (f := fun K => excB (gA "BadName" K) K))
  have saE_BadName := of_dec (show (decide (PySem.W.findIn K (.ref (gA "BadName" K)) "__setattr__" = some (some (.builtin "object.__setattr__")))) = true from c.ex 19 (f := fun K => decide (PySem.W.findIn K (.ref (gA "BadName" K)) "__setattr__" = some (some (.builtin "object.__setattr__")))))
  have exCE_BadName := of_dec (show (decide (PySem.W.subIn K (.ref (gA "BadName" K)) (.type "BaseException") = some true)) = true from c.ex 20 (f := fun K => decide (PySem.W.subIn K (.ref (gA "BadName" K)) (.type "BaseException") = some true)))
  have tyCE_BadName := of_dec (show (decide (PySem.W.typeIn K (.ref (gA "BadName" K)) = some (.type "type"))) = true from c.ex 21 (f := fun K => decide (PySem.W.typeIn K (.ref (gA "BadName" K)) = some (.type "type"))))
  have kCE_BadName := (show (PySem.W.keepIn K (.ref (gA "BadName" K))) = true from c.ex 22 (f := fun K => PySem.W.keepIn K (.ref (gA "BadName" K))))
  have iCE_BadName := of_dec (show (decide (PySem.W.findIn K (.ref (gA "BadName" K)) "__init__" = some (some (.ref (mA "BadName" "__init__" K))))) = true from c.ex 23 (f := fun K => decide (PySem.W.findIn K (.ref (gA "BadName" K)) "__init__" = some (some (.ref (mA "BadName" "__init__" K))))))
  obtain ⟨_, _, _, _, _, _, _, _, lfE_BadName, cfE_BadName⟩ := c.err 7 24
  have tf_E_BadName := of_dec (show (decide (PySem.W.typeIn K (.ref (mA "BadName" "__init__" K)) = some (.type "function"))) = true from c.ex 25 (f := fun K => decide (PySem.W.typeIn K (.ref (mA "BadName" "__init__" K)) = some (.type "function"))))
  obtain ⟨_, _, _, _, _, _, lcdE_BadName, hvsE_BadName, hfileE_BadName⟩ := fileB_ok (show (fileB PySem.Challenge.rw_noneorsome_k04_whole_conditions_compared.prog (codeAt (mA "BadName" "__init__") K) K) = true from c.ex 26 (f := fun K => fileB PySem.Challenge.rw_noneorsome_k04_whole_conditions_compared.prog (codeAt (mA "BadName" "__init__") K) K))
  obtain ⟨_, _, _, lccE_BadName⟩ := cellB_ok (show (cellB (cellAt (mA "BadName" "__init__") K) (gA "BadName" K) K) = true from c.ex 27 (f := fun K => cellB (cellAt (mA "BadName" "__init__") K) (gA "BadName" K) K))
  have msE_BadName := of_dec (show (decide (PySem.W.mroIn K (gA "BadName" K) (.ref (gA "BadName" K)) = some true)) = true from c.ex 28 (f := fun K => decide (PySem.W.mroIn K (gA "BadName" K) (.ref (gA "BadName" K)) = some true)))
  have su_ := of_dec (show (decide (PySem.W.nsIn K mainGlobals "super" = some none)) = true from c.ex 29 (f := fun K => decide (PySem.W.nsIn K mainGlobals "super" = some none)))
  have tp_ : (PySem.Challenge.rw_noneorsome_k04_whole_conditions_compared.prog.main.scope.names.lookup ("super" : Str)).isSome = false := by first | rfl | decide +kernel
  have iniE_BadName := of_dec (show (decide (PySem.W.ks_superIn K (gA "BadName" K) (gA "BadName" K) "__init__" = some (some (.builtin "ValueError.__init__")))) = true from c.ex 30 (f := fun K => decide (PySem.W.ks_superIn K (gA "BadName" K) (gA "BadName" K) "__init__" = some (some (.builtin "ValueError.__init__")))))
  have basE_BadName := of_dec (show (decide (PySem.W.subIn K (.ref (gA "BadName" K)) (.type "ValueError") = some true)) = true from c.ex 31 (f := fun K => decide (PySem.W.subIn K (.ref (gA "BadName" K)) (.type "ValueError") = some true)))
  have tpa_ := of_dec (show (decide (PySem.W.nsIn K cStatics "thirdparty.any" = some none)) = true from c.ex 32 (f := fun K => decide (PySem.W.nsIn K cStatics "thirdparty.any" = some none)))
  have no_BadName_name := of_dec (show (decide (PySem.W.findIn K (.ref (gA "BadName" K)) "name" = some none)) = true from c.ex 33 (f := fun K => decide (PySem.W.findIn K (.ref (gA "BadName" K)) "name" = some none)))
  have a7 := of_dec (show (decide (PySem.W.nsIn K mainGlobals "check_name" = some (some (.ref (gA "check_name" K))))) = true from c.ex 34 (f := fun K => decide (PySem.W.nsIn K mainGlobals "check_name" = some (some (.ref (gA "check_name" K))))))
  obtain ⟨_, _, _, _, _, _, _, _, _, l7, c7⟩ := c.pl 8
  have k7 := (show (PySem.W.keepIn K (.ref (gA "check_name" K))) = true from c.ex 35 (f := fun K => PySem.W.keepIn K (.ref (gA "check_name" K))))
  have a8 := of_dec (show (decide (PySem.W.nsIn K mainGlobals "names_among" = some (some (.ref (gA "names_among" K))))) = true from c.ex 36 (f := fun K => decide (PySem.W.nsIn K mainGlobals "names_among" = some (some (.ref (gA "names_among" K))))))
  obtain ⟨_, _, _, _, _, _, _, _, _, l8, c8⟩ := c.pl 9
  have k8 := (show (PySem.W.keepIn K (.ref (gA "names_among" K))) = true from c.ex 37 (f := fun K => PySem.W.keepIn K (.ref (gA "names_among" K))))
  have a9 := of_dec (show (decide (PySem.W.nsIn K mainGlobals "work_out" = some (some (.ref (gA "work_out" K))))) = true from c.ex 38 (f := fun K => decide (PySem.W.nsIn K mainGlobals "work_out" = some (some (.ref (gA "work_out" K))))))
  obtain ⟨_, _, _, _, _, _, _, _, _, l9, c9⟩ := c.pl 10
  have k9 := (show (PySem.W.keepIn K (.ref (gA "work_out" K))) = true from c.ex 39 (f := fun K => PySem.W.keepIn K (.ref (gA "work_out" K))))
  have aC_Condition := of_dec (show (decide (PySem.W.nsIn K mainGlobals "Condition" = some (some (.ref (gA "Condition" K))))) = true from c.ex 40 (f := fun K => decide (PySem.W.nsIn K mainGlobals "Condition" = some (some (.ref (gA "Condition" K))))))
  have pg_Condition := (show (PySem.W.plainGet K (gA "Condition" K) Str.empty) = true from c.ex 41 (f := fun K => PySem.W.plainGet K (gA "Condition" K) Str.empty))
  have hd_Condition := (show (PySem.W.hasDictIn K (gA "Condition" K)) = true from c.ex 42 (f := fun K => PySem.W.hasDictIn K (gA "Condition" K)))
  have po_Condition := (show (PySem.W.plainOver K (gA "Condition" K)) = true from c.ex 43 (f := fun K => PySem.W.plainOver K (gA "Condition" K)))
  have sa_Condition := of_dec (show (decide (PySem.W.findIn K (.ref (gA "Condition" K)) "__setattr__" = some (some (.builtin "object.__setattr__")))) = true from c.ex 44 (f := fun K => decide (PySem.W.findIn K (.ref (gA "Condition" K)) "__setattr__" = some (some (.builtin "object.__setattr__")))))
  have pna_words := of_dec (show (decide (PySem.W.findIn K (.ref (gA "Condition" K)) "_words" = some none)) = true from c.ex 45 (f := fun K => decide (PySem.W.findIn K (.ref (gA "Condition" K)) "_words" = some none)))
  have giCondition_init := of_dec (show (decide (PySem.W.findIn K (.ref (gA "Condition" K)) "__init__" = some (some (.ref (mA "Condition" "__init__" K))))) = true from c.ex 46 (f := fun K => decide (PySem.W.findIn K (.ref (gA "Condition" K)) "__init__" = some (some (.ref (mA "Condition" "__init__" K))))))
  obtain ⟨_, _, _, _, _, _, _, _, _, glCondition_init, gcCondition_init⟩ := c.pl 11
  have gfCondition_init := (show (PySem.W.isFn K (.ref (mA "Condition" "__init__" K))) = true from c.ex 47 (f := fun K => PySem.W.isFn K (.ref (mA "Condition" "__init__" K))))
  have gkCondition_init := (show (PySem.W.keepIn K (.ref (mA "Condition" "__init__" K))) = true from c.ex 48 (f := fun K => PySem.W.keepIn K (.ref (mA "Condition" "__init__" K))))
  have mk_Condition := (show (PySem.W.makesIn K (gA "Condition" K)) = true from c.ex 49 (f := fun K => PySem.W.makesIn K (gA "Condition" K)))
  have kC_Condition := (show (PySem.W.keepIn K (.ref (gA "Condition" K))) = true from c.ex 50 (f := fun K => PySem.W.keepIn K (.ref (gA "Condition" K))))
  have sg_Condition := of_dec (show (decide (PySem.W.specialIn K (.ref (gA "Condition" K)) "__getattribute__" = some (some (.builtin "type.__getattribute__")))) = true from c.ex 51 (f := fun K => decide (PySem.W.specialIn K (.ref (gA "Condition" K)) "__getattribute__" = some (some (.builtin "type.__getattribute__")))))
  have st_Condition := of_dec (show (decide (PySem.W.typeIn K (.ref (gA "Condition" K)) = some (.type "type"))) = true from c.ex 52 (f := fun K => decide (PySem.W.typeIn K (.ref (gA "Condition" K)) = some (.type "type"))))
  have sr_Condition := (show (PySem.W.readsIn K (gA "Condition" K) (.type "type")) = true from c.ex 53 (f := fun K => PySem.W.readsIn K (gA "Condition" K) (.type "type")))
  have gaCondition_of := of_dec (show (decide (PySem.W.findIn K (.type "type") "of" = some none)) = true from c.ex 54 (f := fun K => decide (PySem.W.findIn K (.type "type") "of" = some none)))
  have giCondition_of := of_dec (show (decide (PySem.W.findIn K (.ref (gA "Condition" K)) "of" = some (some (.ref (mA "Condition" "of" K))))) = true from c.ex 55 (f := fun K => decide (PySem.W.findIn K (.ref (gA "Condition" K)) "of" = some (some (.ref (mA "Condition" "of" K))))))
  have gtCondition_of := of_dec (show (decide (PySem.W.typeIn K (.ref (mA "Condition" "of" K)) = some (.type "staticmethod"))) = true from c.ex 56 (f := fun K => decide (PySem.W.typeIn K (.ref (mA "Condition" "of" K)) = some (.type "staticmethod"))))
  have gsCondition_of := of_dec (show (decide (PySem.W.specialIn K (.ref (mA "Condition" "of" K)) "__get__" = some (some (.builtin "staticmethod.__get__")))) = true from c.ex 57 (f := fun K => decide (PySem.W.specialIn K (.ref (mA "Condition" "of" K)) "__get__" = some (some (.builtin "staticmethod.__get__")))))
  obtain ⟨_, _, _, _, gpCondition_of, gvCondition_of⟩ := staB_ok (show (staB (mA "Condition" "of" K) K) = true from c.ex 58 (f := fun K => staB (mA "Condition" "of" K) K))
  obtain ⟨_, _, _, _, _, _, _, _, _, glCondition_of, gcCondition_of⟩ := c.pl 12
  have gkCondition_of := (show (PySem.W.keepIn K (.ref (sA "Condition" "of" K))) = true from c.ex 59 (f := fun K => PySem.W.keepIn K (.ref (sA "Condition" "of" K))))
  have gaCondition_always := of_dec (show (decide (PySem.W.findIn K (.type "type") "always" = some none)) = true from c.ex 60 (f := fun K => decide (PySem.W.findIn K (.type "type") "always" = some none)))
  have giCondition_always := of_dec (show (decide (PySem.W.findIn K (.ref (gA "Condition" K)) "always" = some (some (.ref (mA "Condition" "always" K))))) = true from c.ex 61 (f := fun K => decide (PySem.W.findIn K (.ref (gA "Condition" K)) "always" = some (some (.ref (mA "Condition" "always" K))))))
  have gtCondition_always := of_dec (show (decide (PySem.W.typeIn K (.ref (mA "Condition" "always" K)) = some (.type "staticmethod"))) = true from c.ex 62 (f := fun K => decide (PySem.W.typeIn K (.ref (mA "Condition" "always" K)) = some (.type "staticmethod"))))
  have gsCondition_always := of_dec (show (decide (PySem.W.specialIn K (.ref (mA "Condition" "always" K)) "__get__" = some (some (.builtin "staticmethod.__get__")))) = true from c.ex 63 (f := fun K => decide (PySem.W.specialIn K (.ref (mA "Condition" "always" K)) "__get__" = some (some (.builtin "staticmethod.__get__")))))
  obtain ⟨_, _, _, _, gpCondition_always, gvCondition_always⟩ := staB_ok (show (staB (mA "Condition" "always" K) K) = true from c.ex 64 (f := fun K => staB (mA "Condition" "always" K) K))
  obtain ⟨_, _, _, _, _, _, _, _, _, glCondition_always, gcCondition_always⟩ := c.pl 13
  have gkCondition_always := (show (PySem.W.keepIn K (.ref (sA "Condition" "always" K))) = true from c.ex 65 (f := fun K => PySem.W.keepIn K (.ref (sA "Condition" "always" K))))
  have gaCondition_never := of_dec (show (decide (PySem.W.findIn K (.type "type") "never" = some none)) = true from c.ex 66 (f := fun K => decide (PySem.W.findIn K (.type "type") "never" = some none)))
  have giCondition_never := of_dec (show (decide (PySem.W.findIn K (.ref (gA "Condition" K)) "never" = some (some (.ref (mA "Condition" "never" K))))) = true from c.ex 67 (f := fun K => decide (PySem.W.findIn K (.ref (gA "Condition" K)) "never" = some (some (.ref (mA "Condition" "never" K))))))
  have gtCondition_never := of_dec (show (decide (PySem.W.typeIn K (.ref (mA "Condition" "never" K)) = some (.type "staticmethod"))) = true from c.ex 68 (f := fun K => decide (PySem.W.typeIn K (.ref (mA "Condition" "never" K)) = some (.type "staticmethod"))))
  have gsCondition_never := of_dec (show (decide (PySem.W.specialIn K (.ref (mA "Condition" "never" K)) "__get__" = some (some (.builtin "staticmethod.__get__")))) = true from c.ex 69 (f := fun K => decide (PySem.W.specialIn K (.ref (mA "Condition" "never" K)) "__get__" = some (some (.builtin "staticmethod.__get__")))))
  obtain ⟨_, _, _, _, gpCondition_never, gvCondition_never⟩ := staB_ok (show (staB (mA "Condition" "never" K) K) = true from c.ex 70 (f := fun K => staB (mA "Condition" "never" K) K))
  obtain ⟨_, _, _, _, _, _, _, _, _, glCondition_never, gcCondition_never⟩ := c.pl 14
  have gkCondition_never := (show (PySem.W.keepIn K (.ref (sA "Condition" "never" K))) = true from c.ex 71 (f := fun K => PySem.W.keepIn K (.ref (sA "Condition" "never" K))))
  have a10 := of_dec (show (decide (PySem.W.nsIn K mainGlobals "truth_columns" = some (some (.ref (gA "truth_columns" K))))) = true from c.ex 72 (f := fun K => decide (PySem.W.nsIn K mainGlobals "truth_columns" = some (some (.ref (gA "truth_columns" K))))))
  obtain ⟨_, _, _, _, _, _, _, _, _, l10, c10⟩ := c.pl 15
  have k10 := (show (PySem.W.keepIn K (.ref (gA "truth_columns" K))) = true from c.ex 73 (f := fun K => PySem.W.keepIn K (.ref (gA "truth_columns" K))))
  have a11 := of_dec (show (decide (PySem.W.nsIn K mainGlobals "are_equal" = some (some (.ref (gA "are_equal" K))))) = true from c.ex 74 (f := fun K => decide (PySem.W.nsIn K mainGlobals "are_equal" = some (some (.ref (gA "are_equal" K))))))
  obtain ⟨_, _, _, _, _, _, _, _, _, l11, c11⟩ := c.pl 16
  have k11 := (show (PySem.W.keepIn K (.ref (gA "are_equal" K))) = true from c.ex 75 (f := fun K => PySem.W.keepIn K (.ref (gA "are_equal" K))))
  have a12 := of_dec (show (decide (PySem.W.nsIn K mainGlobals "is_within" = some (some (.ref (gA "is_within" K))))) = true from c.ex 76 (f := fun K => decide (PySem.W.nsIn K mainGlobals "is_within" = some (some (.ref (gA "is_within" K))))))
  obtain ⟨_, _, _, _, _, _, _, _, _, l12, c12⟩ := c.pl 17
  have k12 := (show (PySem.W.keepIn K (.ref (gA "is_within" K))) = true from c.ex 77 (f := fun K => PySem.W.keepIn K (.ref (gA "is_within" K))))
  have ia_Condition := of_dec (show (decide (PySem.W.findIn K (.ref (gA "Condition" K)) "__class__" = some (some (.builtin "object.__class__")))) = true from c.ex 78 (f := fun K => decide (PySem.W.findIn K (.ref (gA "Condition" K)) "__class__" = some (some (.builtin "object.__class__")))))
  have in_ := of_dec (show (decide (PySem.W.specialIn K (.builtin "object.__class__") "__get__" = some (some (.builtin "getset_descriptor.__get__")))) = true from c.ex 79 (f := fun K => decide (PySem.W.specialIn K (.builtin "object.__class__") "__get__" = some (some (.builtin "getset_descriptor.__get__")))))
  have it_ := of_dec (show (decide (PySem.W.takesIn K (.builtin "object.__class__") = some true)) = true from c.ex 80 (f := fun K => decide (PySem.W.takesIn K (.builtin "object.__class__") = some true)))
  have im_Condition := of_dec (show (decide (PySem.W.mroIn K (gA "Condition" K) (.type "object") = some true)) = true from c.ex 81 (f := fun K => decide (PySem.W.mroIn K (gA "Condition" K) (.type "object") = some true)))
  have kit_Condition := of_dec (show (decide (PySem.W.kitOne K (.ref (gA "Condition" K)) (.ref (gA "Condition" K)) = some true)) = true from c.ex 82 (f := fun K => decide (PySem.W.kitOne K (.ref (gA "Condition" K)) (.ref (gA "Condition" K)) = some true)))
  have giCondition_eq := of_dec (show (decide (PySem.W.findIn K (.ref (gA "Condition" K)) "__eq__" = some (some (.ref (mA "Condition" "__eq__" K))))) = true from c.ex 83 (f := fun K => decide (PySem.W.findIn K (.ref (gA "Condition" K)) "__eq__" = some (some (.ref (mA "Condition" "__eq__" K))))))
  obtain ⟨_, _, _, _, _, _, _, _, _, glCondition_eq, gcCondition_eq⟩ := c.pl 18
  have gfCondition_eq := (show (PySem.W.isFn K (.ref (mA "Condition" "__eq__" K))) = true from c.ex 84 (f := fun K => PySem.W.isFn K (.ref (mA "Condition" "__eq__" K))))
  have gkCondition_eq := (show (PySem.W.keepIn K (.ref (mA "Condition" "__eq__" K))) = true from c.ex 85 (f := fun K => PySem.W.keepIn K (.ref (mA "Condition" "__eq__" K))))
  have giCondition_le := of_dec (show (decide (PySem.W.findIn K (.ref (gA "Condition" K)) "__le__" = some (some (.ref (mA "Condition" "__le__" K))))) = true from c.ex 86 (f := fun K => decide (PySem.W.findIn K (.ref (gA "Condition" K)) "__le__" = some (some (.ref (mA "Condition" "__le__" K))))))
  obtain ⟨_, _, _, _, _, _, _, _, _, glCondition_le, gcCondition_le⟩ := c.pl 19
  have gfCondition_le := (show (PySem.W.isFn K (.ref (mA "Condition" "__le__" K))) = true from c.ex 87 (f := fun K => PySem.W.isFn K (.ref (mA "Condition" "__le__" K))))
  have gkCondition_le := (show (PySem.W.keepIn K (.ref (mA "Condition" "__le__" K))) = true from c.ex 88 (f := fun K => PySem.W.keepIn K (.ref (mA "Condition" "__le__" K))))
  have giCondition_lt := of_dec (show (decide (PySem.W.findIn K (.ref (gA "Condition" K)) "__lt__" = some (some (.ref (mA "Condition" "__lt__" K))))) = true from c.ex 89 (f := fun K => decide (PySem.W.findIn K (.ref (gA "Condition" K)) "__lt__" = some (some (.ref (mA "Condition" "__lt__" K))))))
  obtain ⟨_, _, _, _, _, _, _, _, _, glCondition_lt, gcCondition_lt⟩ := c.pl 20
  have gfCondition_lt := (show (PySem.W.isFn K (.ref (mA "Condition" "__lt__" K))) = true from c.ex 90 (f := fun K => PySem.W.isFn K (.ref (mA "Condition" "__lt__" K))))
  have gkCondition_lt := (show (PySem.W.keepIn K (.ref (mA "Condition" "__lt__" K))) = true from c.ex 91 (f := fun K => PySem.W.keepIn K (.ref (mA "Condition" "__lt__" K))))
  have giCondition_and := of_dec (show (decide (PySem.W.findIn K (.ref (gA "Condition" K)) "__and__" = some (some (.ref (mA "Condition" "__and__" K))))) = true from c.ex 92 (f := fun K => decide (PySem.W.findIn K (.ref (gA "Condition" K)) "__and__" = some (some (.ref (mA "Condition" "__and__" K))))))
  obtain ⟨_, _, _, _, _, _, _, _, _, glCondition_and, gcCondition_and⟩ := c.pl 21
  have gfCondition_and := (show (PySem.W.isFn K (.ref (mA "Condition" "__and__" K))) = true from c.ex 93 (f := fun K => PySem.W.isFn K (.ref (mA "Condition" "__and__" K))))
  have gkCondition_and := (show (PySem.W.keepIn K (.ref (mA "Condition" "__and__" K))) = true from c.ex 94 (f := fun K => PySem.W.keepIn K (.ref (mA "Condition" "__and__" K))))
  have giCondition_or := of_dec (show (decide (PySem.W.findIn K (.ref (gA "Condition" K)) "__or__" = some (some (.ref (mA "Condition" "__or__" K))))) = true from c.ex 95 (f := fun K => decide (PySem.W.findIn K (.ref (gA "Condition" K)) "__or__" = some (some (.ref (mA "Condition" "__or__" K))))))
  obtain ⟨_, _, _, _, _, _, _, _, _, glCondition_or, gcCondition_or⟩ := c.pl 22
  have gfCondition_or := (show (PySem.W.isFn K (.ref (mA "Condition" "__or__" K))) = true from c.ex 96 (f := fun K => PySem.W.isFn K (.ref (mA "Condition" "__or__" K))))
  have gkCondition_or := (show (PySem.W.keepIn K (.ref (mA "Condition" "__or__" K))) = true from c.ex 97 (f := fun K => PySem.W.keepIn K (.ref (mA "Condition" "__or__" K))))
  have giCondition_invert := of_dec (show (decide (PySem.W.findIn K (.ref (gA "Condition" K)) "__invert__" = some (some (.ref (mA "Condition" "__invert__" K))))) = true from c.ex 98 (f := fun K => decide (PySem.W.findIn K (.ref (gA "Condition" K)) "__invert__" = some (some (.ref (mA "Condition" "__invert__" K))))))
  obtain ⟨_, _, _, _, _, _, _, _, _, glCondition_invert, gcCondition_invert⟩ := c.pl 23
  have gfCondition_invert := (show (PySem.W.isFn K (.ref (mA "Condition" "__invert__" K))) = true from c.ex 99 (f := fun K => PySem.W.isFn K (.ref (mA "Condition" "__invert__" K))))
  have gkCondition_invert := (show (PySem.W.keepIn K (.ref (mA "Condition" "__invert__" K))) = true from c.ex 100 (f := fun K => PySem.W.keepIn K (.ref (mA "Condition" "__invert__" K))))
  have a13 := of_dec (show (decide (PySem.W.nsIn K mainGlobals "_law_condition" = some (some (.ref (gA "_law_condition" K))))) = true from c.ex 101 (f := fun K => decide (PySem.W.nsIn K mainGlobals "_law_condition" = some (some (.ref (gA "_law_condition" K))))))
  obtain ⟨_, _, _, _, _, _, _, _, _, l13, c13⟩ := c.pl 24
  have k13 := (show (PySem.W.keepIn K (.ref (gA "_law_condition" K))) = true from c.ex 102 (f := fun K => PySem.W.keepIn K (.ref (gA "_law_condition" K))))
  have sf_Condition := (show (PySem.W.selfFirst K (gA "Condition" K)) = true from c.ex 103 (f := fun K => PySem.W.selfFirst K (gA "Condition" K)))
  have a14 := of_dec (show (decide (PySem.W.nsIn K mainGlobals "_law_built" = some (some (.ref (gA "_law_built" K))))) = true from c.ex 104 (f := fun K => decide (PySem.W.nsIn K mainGlobals "_law_built" = some (some (.ref (gA "_law_built" K))))))
  obtain ⟨_, _, _, _, _, _, _, _, _, l14, c14⟩ := c.pl 25
  have k14 := (show (PySem.W.keepIn K (.ref (gA "_law_built" K))) = true from c.ex 105 (f := fun K => PySem.W.keepIn K (.ref (gA "_law_built" K))))
  have a15 := of_dec (show (decide (PySem.W.nsIn K mainGlobals "_law_sets" = some (some (.ref (gA "_law_sets" K))))) = true from c.ex 106 (f := fun K => decide (PySem.W.nsIn K mainGlobals "_law_sets" = some (some (.ref (gA "_law_sets" K))))))
  obtain ⟨_, _, _, _, _, _, _, _, _, l15, c15⟩ := c.pl 26
  have k15 := (show (PySem.W.keepIn K (.ref (gA "_law_sets" K))) = true from c.ex 107 (f := fun K => PySem.W.keepIn K (.ref (gA "_law_sets" K))))
  have a16 := of_dec (show (decide (PySem.W.nsIn K mainGlobals "_law_text" = some (some (.ref (gA "_law_text" K))))) = true from c.ex 108 (f := fun K => decide (PySem.W.nsIn K mainGlobals "_law_text" = some (some (.ref (gA "_law_text" K))))))
  obtain ⟨_, _, _, _, _, _, _, _, _, l16, c16⟩ := c.pl 27
  have k16 := (show (PySem.W.keepIn K (.ref (gA "_law_text" K))) = true from c.ex 109 (f := fun K => PySem.W.keepIn K (.ref (gA "_law_text" K))))
  have a17 := of_dec (show (decide (PySem.W.nsIn K mainGlobals "_law_wrapped" = some (some (.ref (gA "_law_wrapped" K))))) = true from c.ex 110 (f := fun K => decide (PySem.W.nsIn K mainGlobals "_law_wrapped" = some (some (.ref (gA "_law_wrapped" K))))))
  obtain ⟨_, _, _, _, _, _, _, _, _, l17, c17⟩ := c.pl 28
  have k17 := (show (PySem.W.keepIn K (.ref (gA "_law_wrapped" K))) = true from c.ex 111 (f := fun K => PySem.W.keepIn K (.ref (gA "_law_wrapped" K))))
  have a18 := of_dec (show (decide (PySem.W.nsIn K mainGlobals "_law_holds" = some (some (.ref (gA "_law_holds" K))))) = true from c.ex 112 (f := fun K => decide (PySem.W.nsIn K mainGlobals "_law_holds" = some (some (.ref (gA "_law_holds" K))))))
  obtain ⟨_, _, _, _, _, _, _, _, _, l18, c18⟩ := c.pl 29
  have k18 := (show (PySem.W.keepIn K (.ref (gA "_law_holds" K))) = true from c.ex 113 (f := fun K => PySem.W.keepIn K (.ref (gA "_law_holds" K))))
  have kit_sC := of_dec (show (decide (PySem.W.kitOne K (.type "str") (.ref (gA "Condition" K)) = some false)) = true from c.ex 114 (f := fun K => decide (PySem.W.kitOne K (.type "str") (.ref (gA "Condition" K)) = some false)))
  have kit_iC := of_dec (show (decide (PySem.W.kitOne K (.type "int") (.ref (gA "Condition" K)) = some false)) = true from c.ex 115 (f := fun K => decide (PySem.W.kitOne K (.type "int") (.ref (gA "Condition" K)) = some false)))
  have a19 := of_dec (show (decide (PySem.W.nsIn K mainGlobals "_law_changed" = some (some (.ref (gA "_law_changed" K))))) = true from c.ex 116 (f := fun K => decide (PySem.W.nsIn K mainGlobals "_law_changed" = some (some (.ref (gA "_law_changed" K))))))
  obtain ⟨_, _, _, _, _, _, _, _, _, l19, c19⟩ := c.pl 30
  have k19 := (show (PySem.W.keepIn K (.ref (gA "_law_changed" K))) = true from c.ex 117 (f := fun K => PySem.W.keepIn K (.ref (gA "_law_changed" K))))
  have hmO := of_dec (show (decide (PySem.W.mroIn K (gA "Condition" K) (.type "object") = some true)) = true from c.ex 118 (f := fun K => decide (PySem.W.mroIn K (gA "Condition" K) (.type "object") = some true)))
  have hne := of_dec (show (decide (PySem.W.findIn K (.ref (gA "Condition" K)) "__ne__" = some (some (.builtin "object.__ne__")))) = true from c.ex 119 (f := fun K => decide (PySem.W.findIn K (.ref (gA "Condition" K)) "__ne__" = some (some (.builtin "object.__ne__")))))
  have hge := of_dec (show (decide (PySem.W.findIn K (.ref (gA "Condition" K)) "__ge__" = some (some (.builtin "object.__ge__")))) = true from c.ex 120 (f := fun K => decide (PySem.W.findIn K (.ref (gA "Condition" K)) "__ge__" = some (some (.builtin "object.__ge__")))))
  have hgt := of_dec (show (decide (PySem.W.findIn K (.ref (gA "Condition" K)) "__gt__" = some (some (.builtin "object.__gt__")))) = true from c.ex 121 (f := fun K => decide (PySem.W.findIn K (.ref (gA "Condition" K)) "__gt__" = some (some (.builtin "object.__gt__")))))
  have nfC := (show (PySem.W.notFirst K (gA "Condition" K) (.ref (gA "Condition" K))) = true from c.ex 122 (f := fun K => PySem.W.notFirst K (gA "Condition" K) (.ref (gA "Condition" K))))
  have nfs := (show (PySem.W.notFirst K (gA "Condition" K) (.type "str")) = true from c.ex 123 (f := fun K => PySem.W.notFirst K (gA "Condition" K) (.type "str")))
  have nfi := (show (PySem.W.notFirst K (gA "Condition" K) (.type "int")) = true from c.ex 124 (f := fun K => PySem.W.notFirst K (gA "Condition" K) (.type "int")))
  have a20 := of_dec (show (decide (PySem.W.nsIn K mainGlobals "law" = some (some (.ref (gA "law" K))))) = true from c.ex 125 (f := fun K => decide (PySem.W.nsIn K mainGlobals "law" = some (some (.ref (gA "law" K))))))
  obtain ⟨_, _, _, _, _, _, _, _, _, l20, c20⟩ := c.pl 31
  have k20 := (show (PySem.W.keepIn K (.ref (gA "law" K))) = true from c.ex 126 (f := fun K => PySem.W.keepIn K (.ref (gA "law" K))))
  have z_len := of_dec (show (decide (PySem.W.nsIn K mainGlobals "len" = some none)) = true from c.ex 127 (f := fun K => decide (PySem.W.nsIn K mainGlobals "len" = some none)))
  have z_list := of_dec (show (decide (PySem.W.nsIn K mainGlobals "list" = some none)) = true from c.ex 128 (f := fun K => decide (PySem.W.nsIn K mainGlobals "list" = some none)))
  have z_tuple := of_dec (show (decide (PySem.W.nsIn K mainGlobals "tuple" = some none)) = true from c.ex 129 (f := fun K => decide (PySem.W.nsIn K mainGlobals "tuple" = some none)))
  have z_int := of_dec (show (decide (PySem.W.nsIn K mainGlobals "int" = some none)) = true from c.ex 130 (f := fun K => decide (PySem.W.nsIn K mainGlobals "int" = some none)))
  have z_repr := of_dec (show (decide (PySem.W.nsIn K mainGlobals "repr" = some none)) = true from c.ex 131 (f := fun K => decide (PySem.W.nsIn K mainGlobals "repr" = some none)))
  have z_range := of_dec (show (decide (PySem.W.nsIn K mainGlobals "range" = some none)) = true from c.ex 132 (f := fun K => decide (PySem.W.nsIn K mainGlobals "range" = some none)))
  have z_all := of_dec (show (decide (PySem.W.nsIn K mainGlobals "all" = some none)) = true from c.ex 133 (f := fun K => decide (PySem.W.nsIn K mainGlobals "all" = some none)))
  have z_zip := of_dec (show (decide (PySem.W.nsIn K mainGlobals "zip" = some none)) = true from c.ex 134 (f := fun K => decide (PySem.W.nsIn K mainGlobals "zip" = some none)))
  have z_enumerate := of_dec (show (decide (PySem.W.nsIn K mainGlobals "enumerate" = some none)) = true from c.ex 135 (f := fun K => decide (PySem.W.nsIn K mainGlobals "enumerate" = some none)))
  have z_isinstance := of_dec (show (decide (PySem.W.nsIn K mainGlobals "isinstance" = some none)) = true from c.ex 136 (f := fun K => decide (PySem.W.nsIn K mainGlobals "isinstance" = some none)))
  have z_str := of_dec (show (decide (PySem.W.nsIn K mainGlobals "str" = some none)) = true from c.ex 137 (f := fun K => decide (PySem.W.nsIn K mainGlobals "str" = some none)))
  have z_bool := of_dec (show (decide (PySem.W.nsIn K mainGlobals "bool" = some none)) = true from c.ex 138 (f := fun K => decide (PySem.W.nsIn K mainGlobals "bool" = some none)))
  have z_dict := of_dec (show (decide (PySem.W.nsIn K mainGlobals "dict" = some none)) = true from c.ex 139 (f := fun K => decide (PySem.W.nsIn K mainGlobals "dict" = some none)))
  have z_any := of_dec (show (decide (PySem.W.nsIn K mainGlobals "any" = some none)) = true from c.ex 140 (f := fun K => decide (PySem.W.nsIn K mainGlobals "any" = some none)))
  have z_min := of_dec (show (decide (PySem.W.nsIn K mainGlobals "min" = some none)) = true from c.ex 141 (f := fun K => decide (PySem.W.nsIn K mainGlobals "min" = some none)))
  have z_sorted := of_dec (show (decide (PySem.W.nsIn K mainGlobals "sorted" = some none)) = true from c.ex 142 (f := fun K => decide (PySem.W.nsIn K mainGlobals "sorted" = some none)))
  have z_set := of_dec (show (decide (PySem.W.nsIn K mainGlobals "set" = some none)) = true from c.ex 143 (f := fun K => decide (PySem.W.nsIn K mainGlobals "set" = some none)))
  have z_max := of_dec (show (decide (PySem.W.nsIn K mainGlobals "max" = some none)) = true from c.ex 144 (f := fun K => decide (PySem.W.nsIn K mainGlobals "max" = some none)))
  have z_sum := of_dec (show (decide (PySem.W.nsIn K mainGlobals "sum" = some none)) = true from c.ex 145 (f := fun K => decide (PySem.W.nsIn K mainGlobals "sum" = some none)))
  exact all_mk (l := PySem.Challenge.rw_noneorsome_k04_whole_conditions_compared) X G hfa a0 l0 c0 k0 a1 l1 c1 k1 a2 l2 c2 k2 a3 l3 c3 k3 a4 l4 c4 k4 a5 l5 c5 k5 ac_RESERVED lc_RESERVED zc_RESERVED vc_RESERVED ac_LONGEST a6 l6 c6 k6 aC_BadName lCE_BadName rvE_BadName saE_BadName exCE_BadName tyCE_BadName kCE_BadName iCE_BadName lfE_BadName cfE_BadName tf_E_BadName lcdE_BadName hvsE_BadName hfileE_BadName lccE_BadName msE_BadName su_ tp_ iniE_BadName basE_BadName tpa_ no_BadName_name a7 l7 c7 k7 a8 l8 c8 k8 a9 l9 c9 k9 aC_Condition pg_Condition hd_Condition po_Condition sa_Condition pna_words giCondition_init glCondition_init gcCondition_init gfCondition_init gkCondition_init mk_Condition kC_Condition sg_Condition st_Condition sr_Condition gaCondition_of giCondition_of gtCondition_of gsCondition_of gpCondition_of gvCondition_of glCondition_of gcCondition_of gkCondition_of gaCondition_always giCondition_always gtCondition_always gsCondition_always gpCondition_always gvCondition_always glCondition_always gcCondition_always gkCondition_always gaCondition_never giCondition_never gtCondition_never gsCondition_never gpCondition_never gvCondition_never glCondition_never gcCondition_never gkCondition_never a10 l10 c10 k10 a11 l11 c11 k11 a12 l12 c12 k12 ia_Condition in_ it_ im_Condition kit_Condition giCondition_eq glCondition_eq gcCondition_eq gfCondition_eq gkCondition_eq giCondition_le glCondition_le gcCondition_le gfCondition_le gkCondition_le giCondition_lt glCondition_lt gcCondition_lt gfCondition_lt gkCondition_lt giCondition_and glCondition_and gcCondition_and gfCondition_and gkCondition_and giCondition_or glCondition_or gcCondition_or gfCondition_or gkCondition_or giCondition_invert glCondition_invert gcCondition_invert gfCondition_invert gkCondition_invert a13 l13 c13 k13 sf_Condition a14 l14 c14 k14 a15 l15 c15 k15 a16 l16 c16 k16 a17 l17 c17 k17 a18 l18 c18 k18 kit_sC kit_iC a19 l19 c19 k19 hmO hne hge hgt nfC nfs nfi a20 l20 c20 k20 z_len z_list z_tuple z_int z_repr z_range z_all z_zip z_enumerate z_isinstance z_str z_bool z_dict z_any z_min z_sorted z_set z_max z_sum
abbrev tR : PySem.W.OpenRow := PySem.W.OpenLaw.row PySem.Challenge.rw_noneorsome_k04_whole_conditions_compared
abbrev tQ : Program := PySem.W.view tR.prog [34]
def tNames : List PySem.Str := (["PlanError", "BadName", "RESERVED", "LONGEST", "is_letter", "is_name", "check_name", "ENCLOSED", "names_among", "work_out", "holds_for", "truth_columns", "are_equal", "is_within", "write_words", "enclose", "Condition", "_law_draw", "_law_pick", "_law_same", "_law_name", "_law_names", "_law_condition", "_law_holds", "_law_built"] : List (PySem.Str)) ++ (["_law_text", "_law_wrapped", "_law_changed", "_law_sets"] : List (PySem.Str))
theorem tRunF (w : World) : HandSHeadRun.RunEq tR tQ (topHook tXs tFs) (topOb tXs tFs) 20000 tNames (w.withFollow "special-get-raises" false) := fun os => by kernel_rfl
theorem tRunT (w : World) : HandSHeadRun.RunEq tR tQ (topHook tXs tFs) (topOb tXs tFs) 20000 tNames (w.withFollow "special-get-raises" true) := fun os => by kernel_rfl
theorem tRun (w : World) : HandSHeadRun.RunEq tR tQ (topHook tXs tFs) (topOb tXs tFs) 20000 tNames w :=
  PySem.W.byRow2 "special-get-raises" (P := fun w => HandSHeadRun.RunEq tR tQ (topHook tXs tFs) (topOb tXs tFs) 20000 tNames w) tRunF tRunT w
end Dl
open PySem PySem.W PySem.Calls PyProof.Rows in
set_option maxRecDepth 100000 in
set_option maxHeartbeats 0 in
theorem PySem.Challenge.cw_noneorsome_k04_whole_conditions_compared_holds : PySem.Challenge.rw_noneorsome_k04_whole_conditions_compared.Holds := by
  w_on; o_law
  refine HandSHeadRun.head_any (r := OpenLaw.row PySem.Challenge.rw_noneorsome_k04_whole_conditions_compared) (q := Dl.tQ) (H := Dl.topHook Dl.tXs Dl.tFs) (ob := Dl.topOb Dl.tXs Dl.tFs) (M := 20000) (loose := Dl.tNames) (d := HandSHeadRun.topDef (OpenLaw.row PySem.Challenge.rw_noneorsome_k04_whole_conditions_compared).prog 34) (kwd := []) (fun s => Dl.topOb_eq Dl.tXs Dl.tFs s) (by kernel_rfl) (fun s => by kernel_rfl) Dl.tRun (by kernel_rfl) (by kernel_rfl) (by kernel_rfl) (by rfl) (by first | assumption | decide +kernel) (by decide +kernel) ⟨rfl, rfl, rfl, rfl, rfl, by decide +kernel⟩ ?hw ?hc
  case hw => w_witness2
  case hc =>
    refine Dl.walkY (l := PySem.Challenge.rw_noneorsome_k04_whole_conditions_compared) (n := 63) (k := 43) (F := Dl.FLaw) (x := "_law_script") rfl (by decide) (by kernel_rfl) ⟨rfl, by decide, by decide⟩ ?G (fun ns Q E hl hq => ⟨ns, rfl, hl, rfl, hq⟩)
    intro w mg fa h Y G hmg0
    obtain ⟨K, KX, c⟩ := Y
    have hmg : mg ("law" : PySem.Str) = some (.ref fa) := by
      have e : (HandSHeadRun.topDef (OpenLaw.row PySem.Challenge.rw_noneorsome_k04_whole_conditions_compared).prog 34).name = ("law" : PySem.Str) := by kernel_rfl
      rw [← e]
      exact hmg0
    exact ⟨K, KX, Dl.all_told KX G hmg c⟩


