import PyProof.Rows.All
import Wide.All
import OpenK.AllK
import Wide.FinOn
import HandS.ForMost
import HandS.ForExc
import HandS.Star
import HandS.DictComp
import KE.KOpsOwn
import HandS.Wide
import HandS.TupAny
import HandS.IsInst
import HandS.Comp
import HandS.Text
import HandS.Iter
import HandS.Ends
import HandS.EndOwn
import HandS.SlotsOwn
import HandS.ListItems
import KE.KExcSuper
import HandS.ExcInit
import HandS.FStr
import HandS.ExcField
import HandS.ClsMeth
import KE.KStateDown
import HandS.Head0
import HandS.Head1
import HandS.Head2
import HandS.HeadHook1
import HandS.HeadHook2
import KE.KFmtOwn
import KE.KCallOwn
import HandS.WrittenGet
import HandS.RaiseMore
import KE.KxIndex
import HandS.SetTxt0
import HandS.Set
import HandS.SetFor
import HandS.TupSets
import HandS.Strs
import PyProof.Rows.SortShellAny
import PyProof.ZipIter
import KE.GoesZip
import KE.GoesEnum
import KE.GoesMore
import HandS.Zip
import HandS.Defaults
import HandS.Style
import KE.LtSeq
import PyProof.Rows.IntBool
import KE.KEqDict
import PyProof.DictUpdate
import PyProof.DictDisplay
import KE.DataEq
import HandS.SortKw
import KE.SortKeyHeap
import HandS.More
import HandS.WordsDict
import HandS.NoneIn
import PyProof.SetRoads
import PySem.Challenge.RW_noneorsome_k16_states_listed
set_option Elab.async false
set_option linter.all false
set_option maxRecDepth 100000
set_option maxHeartbeats 4000000
/-! a def's promise where it is known that nothing that guards against itself (a repr) is under way -/
namespace Dl
open PySem PySem.Spec L2
open PyProof.Rows hiding St Binds

structure FnG (P : Program) (w : World) (K : W.Frag) (mg : Str → Option Value) (base : Heap) (CX : CXT) (k : Nat) (f : Addr) (fd : FuncData) (ps : List Str) (sp : Sp) : Prop where
  nargs : ∀ vs H Q E, sp vs H Q E → vs.length = ps.length
  go : ∀ (A : Around) (outer : List Env) (s : Shared) (H : Hp) (args : Args) (us : List Value) (vs : List V) (Q : VK) (E : XK),
    A.guards = some [] → Room k A → Env0 P w K mg base A outer s H → BindsTo s fd args (ps.zip us) → Vals vs us → sp vs H Q E →
      codeAny (model P w) A (.call (.ref f) args) (CR CX outer P w H s Q E) s

section
variable {P : Program} {w : World} {K : W.Frag} {mg : Str → Option Value} {base : Heap} {CX : CXT} {j k : Nat} {f : Addr} {fd : FuncData} {ps : List Str} {sp sp' : Sp}
theorem FnG.weak (F : FnG P w K mg base CX k f fd ps sp) (h : ∀ vs H Q E, sp' vs H Q E → sp vs H Q E) : FnG P w K mg base CX k f fd ps sp' :=
  ⟨fun vs H Q E q => F.nargs vs H Q E (h vs H Q E q), fun A outer s H args us vs Q E hg hr e0 hb hv hs => F.go A outer s H args us vs Q E hg hr e0 hb hv (h vs H Q E hs)⟩
end

/-- f(..), C(..), o.m(..), what is wished of an exception hangs on the slots -/
def gCall (sp : Sp) (dvs : List V) (EE : L2.St → XK) (t : TA) : TE := fun σ H Q => t σ H fun vs H1 => sp (vs ++ dvs) H1 Q (EE σ)
def gMeth (C : Addr) (m : Str) (sp : Sp) (dvs : List V) (EE : L2.St → XK) (ta : TE) (t : TA) : TE := fun σ H Q => ta σ H fun x H1 =>
  ∃ a dx fs, x = .ref a ∧ H1 a = some (.ins C dx fs) ∧ fs.lookup m = none ∧ t σ H1 fun vs H2 => sp (x :: (vs ++ dvs)) H2 Q (EE σ)
def gMake (C : Addr) (sp : Sp) (dvs : List V) (EE : L2.St → XK) (t : TA) : TE := fun σ H Q => t σ H fun vs H1 =>
  ∀ x dx, H1 x = none → H1 dx = none → dx ≠ x → sp (.ref x :: (vs ++ dvs)) (upd (upd H1 dx (.own x)) x (.ins C dx [])) (fun v H2 => v = .non ∧ Q (.ref x) H2) (EE σ)
section
variable {X : Cx} {CX : CXT} {k : Nat} {f C : Addr} {fd : FuncData} {ps : List Str} {sp : Sp} {dvs : List V} {ds : List Value} {E : XK} {EE : L2.St → XK} {x m : Str} {p pos apos : Pos} {e o : Expr} {es : List Expr} {ta : TE} {t : TA}
variable {pins : List (Addr × Obj)} {σ : L2.St} {H : Hp} {s : Shared} {Q : VK} {us : List Value} {vs : List V}

/-- the callee is run: what it hands back, what it raises -/
theorem g_run (hG : X.A.guards = some []) (F : FnG X.prog X.w X.K X.mg X.base CX k f fd ps sp) (hr : Room k X.A) (hb : Binds X.K fd ps ds) (hd : Vals dvs ds)
    (hx : PassesAt CX X σ E) (I : Inv X pins σ H s) (r : Vals vs us) (h : sp (vs ++ dvs) H Q E) :
    wpAny (model X.prog X.w) X.A (call (.ref f) us) (EP X pins σ Q) X.xe s := by
  have both := r.append hd
  have many : (us ++ ds).length = ps.length := both.length.symm.trans (F.nargs _ _ _ _ h)
  have ran := F.go X.A X.stack s H ⟨us, []⟩ _ _ Q E hG hr I.env0 (hb s us I.kIn many) both h
  exact wpAny_call (codeAny_mono ran fun r s' hq => match r, hq with
    | .error e, hq => hx pins H s e s' I hq
    | .ok (.ret _), hq => I.after hq
    | .ok .next, hq => False.elim hq
    | .ok .brk, hq => False.elim hq
    | .ok .cont, hq => False.elim hq)

theorem g_make (hG : X.A.guards = some []) (M : Mk X.K C f) (F : FnG X.prog X.w X.K X.mg X.base CX k f fd ps sp) (hr : Room (k + 1) X.A) (hb : Binds X.K fd ps ds)
    (hd : Vals dvs ds) (hx : PassesAt CX X σ E) (I : Inv X pins σ H s) (r : Vals vs us)
    (h : ∀ x dx, H x = none → H dx = none → dx ≠ x →
      sp (.ref x :: (vs ++ dvs)) (upd (upd H dx (.own x)) x (.ins C dx [])) (fun v H2 => v = .non ∧ Q (.ref x) H2) E) :
    wpAny (model X.prog X.w) X.A (call (.ref C) us) (EP X pins σ Q) X.xe s := by
  have I2 := Inv.made (C := C) I
  have new := h (s.heap.objs.size + 1) s.heap.objs.size (I.hok.fresh (Nat.le_succ _)) (I.hok.fresh (Nat.le_refl _)) (Nat.ne_of_lt (Nat.lt_succ_self _))
  have all : Vals (V.ref (s.heap.objs.size + 1) :: (vs ++ dvs)) (Value.ref (s.heap.objs.size + 1) :: (us ++ ds)) := .cons rfl (r.append hd)
  have many : (Value.ref (s.heap.objs.size + 1) :: us ++ ds).length = ps.length :=
    Eq.trans (show _ = (V.ref (s.heap.objs.size + 1) :: (vs ++ dvs)).length from all.length.symm) (F.nargs _ _ _ _ new)
  have hG2 : (X.A.under (.builtin "type.__call__" ⟨.ref C :: us, []⟩)).guards = some [] := by
    unfold Around.under
    rw [hG]
    rfl
  have ran := F.go _ X.stack _ _ ⟨Value.ref (s.heap.objs.size + 1) :: us, []⟩ _ _ _ E hG2 (hr.make C us [])
    (I2.env0.make C us []) (hb _ (Value.ref (s.heap.objs.size + 1) :: us) I2.kIn many) all new
  refine wpAny_call (make_map (f := f) I.kIn M.makes M.init (beq_iff_eq.mp M.fn) (codeAny_mono ran fun r s' hq => ?_))
  match r, hq with
  | .error e, hq => exact hx pins _ _ e s' I2 hq
  | .ok (.ret u), hq =>
    obtain ⟨v, H', I3, rv, ev, q3⟩ := I2.after hq
    cases ev
    exact ⟨rv, .ref (s.heap.objs.size + 1), H', I3, rfl, q3⟩
  | .ok .next, hq => exact False.elim hq
  | .ok .brk, hq => exact False.elim hq
  | .ok .cont, hq => exact False.elim hq

theorem ge_call (hG : X.A.guards = some []) (F : FnG X.prog X.w X.K X.mg X.base CX k f fd ps sp) (hr : Room k X.A) (hg : Gl X x) (hm : X.mg x = some (.ref f))
    (hk : W.keepIn X.K (.ref f) = true) (hb : Binds X.K fd ps ds) (hd : Vals dvs ds) (hx : ∀ σ, PassesAt CX X σ (EE σ)) (ha : PA X (e :: es) t)
    (hdb : (x == ("__debug__" : Str)) = false := by decide) (he : starEach (e :: es) X.env = (false, eval e X.env) :: starEach es X.env := by rfl)
    (hpl : (backTo pos (starEach es X.env)).any (·.1) = false := by rfl) : PE X (.Call (.Name x p) (e :: es) [] pos) (gCall sp dvs EE t) :=
  ⟨fun pins s σ H Q I h => wpAny_Call_Name_kw (ld_glob I hg hm (W.callWith_K (h₀ := X.base) I.ok.mod.kin hk
    (thn (ha.run pos pins s σ H _ I h) fun _ _ ⟨_, _, I1, r, q⟩ => ⟨I1.kIn, g_run hG F hr hb hd (hx _) I1 r q⟩) he hpl) hdb)⟩
theorem ge_make (hG : X.A.guards = some []) (M : Mk X.K C f) (F : FnG X.prog X.w X.K X.mg X.base CX k f fd ps sp) (hr : Room (k + 1) X.A) (hg : Gl X x)
    (hm : X.mg x = some (.ref C)) (hb : Binds X.K fd ps ds) (hd : Vals dvs ds) (hx : ∀ σ, PassesAt CX X σ (EE σ)) (ha : PA X (e :: es) t)
    (hdb : (x == ("__debug__" : Str)) = false := by decide) (he : starEach (e :: es) X.env = (false, eval e X.env) :: starEach es X.env := by rfl)
    (hpl : (backTo pos (starEach es X.env)).any (·.1) = false := by rfl) : PE X (.Call (.Name x p) (e :: es) [] pos) (gMake C sp dvs EE t) :=
  ⟨fun pins s σ H Q I h => wpAny_Call_Name_kw (ld_glob I hg hm (W.callWith_K (h₀ := X.base) I.ok.mod.kin M.kp
    (thn (ha.run pos pins s σ H _ I h) fun _ _ ⟨_, _, I1, r, q⟩ => ⟨I1.kIn, g_make hG M F hr hb hd (hx _) I1 r q⟩) he hpl) hdb)⟩
theorem ge_meth {pl : Sem Bool} (hG : X.A.guards = some []) (he : PE X o ta) (c : Cls X.K C) (hm : Meth X.K C m f) (F : FnG X.prog X.w X.K X.mg X.base CX k f fd ps sp)
    (hr : Room k X.A) (hb : Binds X.K fd ps ds) (hd : Vals dvs ds) (hx : ∀ σ, PassesAt CX X σ (EE σ)) (ha : PA X (e :: es) t)
    (hst : starEach (e :: es) X.env = (false, eval e X.env) :: starEach es X.env := by rfl) (hpl : (backTo pos (starEach es X.env)).any (·.1) = false := by rfl)
    (ht : eval (.Call (.Attribute o m apos) (e :: es) [] pos) X.env = (eval o X.env >>= fun ov => standAt apos.atName >>= fun _ =>
      holding [ov] (getMethod ov m pl) >>= fun fm => callWith pos fm.1 fm.2 (backTo pos (starEach (e :: es) X.env)) (backToKw pos (keywordEach [] X.env))) := by rfl) :
    PE X (.Call (.Attribute o m apos) (e :: es) [] pos) (gMeth C m sp dvs EE ta t) :=
  ⟨fun pins s σ H Q I h => W.methodCall_KW (pl := pl) (thn (he.run pins s σ H _ I h) fun u s1 ⟨_, _, I1, rx, a, dx, fs, ex, ea, l, q⟩ => by
    cases ex
    cases rx
    exact getmeth_ok I1 ea c hm l (W.callWith_K (first := [.ref a]) (h₀ := X.base) I.ok.mod.kin hm.kp
      (thn (ha.run pos pins s1 σ _ _ I1 q) fun us s2 ⟨vs, H2, I2, r, q2⟩ => ⟨I2.kIn, g_run (us := .ref a :: us) (vs := .ref a :: vs) hG F hr hb hd (hx _) I2 (.cons rfl r) q2⟩) hst hpl)) ht⟩
theorem ge_meth0 {pl : Sem Bool} (hG : X.A.guards = some []) (he : PE X o ta) (c : Cls X.K C) (hm : Meth X.K C m f) (F : FnG X.prog X.w X.K X.mg X.base CX k f fd ps sp)
    (hr : Room k X.A) (hb : Binds X.K fd ps ds) (hd : Vals dvs ds) (hx : ∀ σ, PassesAt CX X σ (EE σ))
    (ht : eval (.Call (.Attribute o m apos) [] [] pos) X.env = (eval o X.env >>= fun ov => standAt apos.atName >>= fun _ =>
      holding [ov] (getMethod ov m pl) >>= fun fm => callWith pos fm.1 fm.2 (backTo pos (starEach [] X.env)) (backToKw pos (keywordEach [] X.env))) := by rfl) :
    PE X (.Call (.Attribute o m apos) [] [] pos) (gMeth C m sp dvs EE ta tNil) :=
  ⟨fun pins s σ H Q I h => W.methodCall_KW (pl := pl) (thn (he.run pins s σ H _ I h) fun u s1 ⟨_, _, I1, rx, a, dx, fs, ex, ea, l, q⟩ => by
    cases ex
    cases rx
    exact getmeth_ok I1 ea c hm l (W.callWith_K0 (first := [.ref a]) I1.kIn hm.kp (g_run (us := [.ref a]) (vs := [.ref a]) hG F hr hb hd (hx _) I1 (.cons rfl .nil) q))) ht⟩
end

/-- a def of the text, by its body -/
theorem g_fn {CX : CXT} {P : Program} {w : World} {K : W.Frag} {mg : Str → Option Value} {base : Heap} {k : Nat} {f : Addr} {name qual : Str} {params : Arguments} {body : List Stmt} {scope : Scope}
    {dV kV doc pm cdv ct oc : Value} {an od : Option Addr} {osl : Array (Option Value)} {N ps : List Str} {sp : Sp}
    (lk : K.lookup f = some ⟨oc, od, .func (W.fnOf name qual params body scope dV kV doc pm an cdv ct), osl⟩) (hcd : W.codeIn K cdv qual = true) (S : FnScope N ps scope)
    (len : ∀ vs H Q E, sp vs H Q E → vs.length = ps.length)
    (hbody : ∀ (A : Around) (outer : List Env) (s : Shared) (H : Hp) (vs : List V) (Q : VK) (E : XK),
      (A.deeper (envOfC qual scope s.heap.objs.size f cdv)).guards = some [] → Room k (A.deeper (envOfC qual scope s.heap.objs.size f cdv)) → sp vs H Q E →
        ∃ t, PSs (cxOf CX P w K mg base N qual scope f cdv A outer s H E) body t ∧ t { nx := fun _ H' => Q .non H', rt := Q } (start N vs) H) :
    FnG P w K mg base CX (k + 1) f (W.fnOf name qual params body scope dV kV doc pm an cdv ct) ps sp := by
  refine ⟨len, fun A outer s H args us vs Q E hG hr e0 hb r hsp => ?_⟩
  have KX : K.In s.heap := e0.mod.kin.keeps fun b o e => (e0.bs b o e).1
  have lim := e0.mod.nolimit.keeps fun b o e => (e0.bs b o e).1
  have kinds : ∀ y ∈ ps.zip us, scope.names.lookup y.1 = some .local ∨
      (scope.names.lookup y.1 = some .cell ∧ ((cellsFrom (s.heap.objs.size + 1) scope.names []).lookup y.1).isSome = true) := fun y hy =>
    (S.par y.1 (List.of_mem_zip (show (y.1, y.2) ∈ ps.zip us from hy)).1).imp id fun q => ⟨q, W.cellsFrom_some _ _ _ (.inl q)⟩
  refine codeAny_call_function hr.depth (KX _ _ lk) rfl S.co S.gen rfl (W.codeRec_of KX hcd) (hb _ _ _ _ (wpAny_newFunctionEnv_cells S.kind kinds fun env he s1 x => ?_))
  subst he
  obtain ⟨t, ht, hq⟩ := hbody A outer s H vs Q E hG (hr.deeper _) hsp
  have I : Inv (cxOf CX P w K mg base N qual scope f cdv A outer s H E) [] (start N vs) H s1 := inv_start S hr.hd e0 (len _ _ _ _ hsp) r x
  refine ⟨lim.keeps x.toInCall.keep, codeAny_func (wpAny_mono (ht.run [] s1 (start N vs) H _ I hq) (fun fl s' hs => ?_) fun e s' hs => hs)⟩
  match fl, hs with
  | .ret u, ⟨v, _, H', J, rv, q⟩ => exact ⟨v, H', J.os, J.bare, J.base, J.hok, rv, q⟩
  | .next, ⟨_, H', J, q⟩ => exact ⟨.non, H', J.os, J.bare, J.base, J.hok, rfl, q⟩
  | .brk, ⟨_, _, _, q⟩ => exact False.elim q
  | .cont, ⟨_, _, _, q⟩ => exact False.elim q

section
variable {P : Program} {w : World} {K : W.Frag} {mg : Str → Option Value} {base : Heap} {x qual : Str} {st : Stmt} {f : Addr} {fd : FuncData} {N ps : List Str} {k : Nat} {sp : Sp}
/-- a def of the text, with any defaults -/
structure FunA (K : PySem.W.Frag) (x qual : Str) (st : Stmt) (f : Addr) (fd : FuncData) : Prop where
  ex : ∃ (oc : Value) (od : Option Addr) (dV kV doc pm : Value) (an : Option Addr) (cdv ct : Value) (osl : Array (Option Value)),
    fd = PySem.W.fnOf x qual (defArgs st) (defBody st) (defScope st) dV kV doc pm an cdv ct ∧ K.lookup f = some ⟨oc, od, .func fd, osl⟩ ∧ PySem.W.codeIn K cdv qual = true
theorem anyFun (F : Fun K x qual st f fd) : FunA K x qual st f fd := by
  obtain ⟨oc, od, kV, doc, pm, an, cdv, ct, osl, h⟩ := F.ex
  exact ⟨oc, od, .none, kV, doc, pm, an, cdv, ct, osl, h⟩
theorem gfunX (F : FunA K x qual st f fd) (S : FnScope N ps (defScope st)) (len : ∀ vs H Q E, sp vs H Q E → vs.length = ps.length)
    (hbody : ∀ (cdv : Value) (A : Around) (outer : List Env) (s : Shared) (H : Hp) (vs : List V) (Q : VK) (E : XK),
      (A.deeper (envOfC qual (defScope st) s.heap.objs.size f cdv)).guards = some [] → Room k (A.deeper (envOfC qual (defScope st) s.heap.objs.size f cdv)) → sp vs H Q E →
        ∃ t, PSs (cxOf (L2.CX P w) P w K mg base N qual (defScope st) f cdv A outer s H E) (defBody st) t ∧ t { nx := fun _ H' => Q .non H', rt := Q } (start N vs) H) :
    FnG P w K mg base (L2.CX P w) (k + 1) f fd ps sp := by
  obtain ⟨oc, od, dV, kV, doc, pm, an, cdv, ct, osl, rfl, lk, hcd⟩ := F.ex
  exact g_fn lk hcd S len fun A outer s H vs Q E hG hr hsp => hbody cdv A outer s H vs Q E hG hr hsp
end
end Dl

/-! data at values: what a value stands for as a whole, cells for what is changed -/
namespace Dl
open PySem PySem.Spec L2
open PyProof.Rows hiding St Binds

inductive D where
  | non | bl (b : Bool) | int (i : Int) | str (s : Str)
  | lst (ds : List D) | tup (ds : List D) | dct (kd : List (Key × D)) | ins (C : Addr) (fd : List (Str × D))
  | cell (n : Nat) | ref (a : Addr) | fzl (ds : List D) | ty (n : String)
inductive CT where
  | lst (ds : List D) | dct (kd : List (Key × D)) | ins (C : Addr) (fd : List (Str × D)) | lck (ob : Obj) (kv : List (Key × V)) (kd : List (Key × D))
abbrev Sto := List CT
abbrev Io := List Addr
abbrev Rho := List (Option D)

/-- v stands for d; ι: where the cells stand -/
inductive At (K : W.Frag) (ι : Io) (H : Hp) : V → D → Prop
  | non : At K ι H .non .non
  | bl (b : Bool) : At K ι H (.bl b) (.bl b)
  | int (i : Int) : At K ι H (.int i) (.int i)
  | str (s : Str) : At K ι H (.str s) (.str s)
  | lst {a : Addr} {vs : List V} {ds : List D} (h : H a = some (.lst vs)) (n : a ∉ ι) (l : vs.length = ds.length)
      (r : ∀ (i : Nat) (v : V) (d : D), vs[i]? = some v → ds[i]? = some d → At K ι H v d) : At K ι H (.ref a) (.lst ds)
  | tup {a : Addr} {vs : List V} {ds : List D} (h : Rd H a (.tup vs)) (n : a ∉ ι) (l : vs.length = ds.length)
      (r : ∀ (i : Nat) (v : V) (d : D), vs[i]? = some v → ds[i]? = some d → At K ι H v d) : At K ι H (.ref a) (.tup ds)
  | ktup {a : Addr} {vs : List V} {ds : List D} (h : ∀ H0 : Hp, SqT K H0 a vs) (l : vs.length = ds.length)
      (r : ∀ (i : Nat) (v : V) (d : D), vs[i]? = some v → ds[i]? = some d → At K ι H v d) : At K ι H (.ref a) (.tup ds)
  | dct {a : Addr} {kv : List (Key × V)} {kd : List (Key × D)} (h : Rd H a (.dK kv)) (n : a ∉ ι) (l : kv.map (·.1) = kd.map (·.1))
      (r : ∀ (i : Nat) (p : Key × V) (q : Key × D), kv[i]? = some p → kd[i]? = some q → At K ι H p.2 q.2) : At K ι H (.ref a) (.dct kd)
  | ins {a C dx : Addr} {fv : List (Str × V)} {fd : List (Str × D)} (h : H a = some (.ins C dx fv)) (n : a ∉ ι) (l : fv.map (·.1) = fd.map (·.1))
      (r : ∀ (i : Nat) (p : Str × V) (q : Str × D), fv[i]? = some p → fd[i]? = some q → At K ι H p.2 q.2) : At K ι H (.ref a) (.ins C fd)
  | cell {a : Addr} {n : Nat} (h : ι[n]? = some a) : At K ι H (.ref a) (.cell n)
  | ref (a : Addr) : At K ι H (.ref a) (.ref a)
  | ty (n : String) : At K ι H (.ty n) (.ty n)
  | fzl {a : Addr} {vs : List V} {ds : List D} (h : (∃ o, H a = some (.frz o (.lst vs)) ∧ a ∉ ι) ∨ ∀ H0 : Hp, SqL K H0 a vs) (l : vs.length = ds.length)
      (r : ∀ (i : Nat) (v : V) (d : D), vs[i]? = some v → ds[i]? = some d → At K ι H v d) : At K ι H (.ref a) (.fzl ds)

def Ats (K : W.Frag) (ι : Io) (H : Hp) (vs : List V) (ds : List D) : Prop := vs.length = ds.length ∧ ∀ (i : Nat) (v : V) (d : D), vs[i]? = some v → ds[i]? = some d → At K ι H v d
def Pts {κ : Type} (K : W.Frag) (ι : Io) (H : Hp) (kv : List (κ × V)) (kd : List (κ × D)) : Prop :=
  kv.map (·.1) = kd.map (·.1) ∧ ∀ (i : Nat) (p : κ × V) (q : κ × D), kv[i]? = some p → kd[i]? = some q → At K ι H p.2 q.2

/-- what was tracked and is no cell stays; the cells stay where they are -/
structure Gr (ι : Io) (H : Hp) (ι' : Io) (H' : Hp) : Prop where
  pre : ∀ (n : Nat) (a : Addr), ι[n]? = some a → ι'[n]? = some a
  keep : ∀ a o, H a = some o → a ∉ ι → H' a = some o ∧ a ∉ ι'
theorem Gr.refl (ι : Io) (H : Hp) : Gr ι H ι H := ⟨fun _ _ h => h, fun _ _ h n => ⟨h, n⟩⟩
theorem Gr.trans {ι ι1 ι2 : Io} {H H1 H2 : Hp} (a : Gr ι H ι1 H1) (b : Gr ι1 H1 ι2 H2) : Gr ι H ι2 H2 :=
  ⟨fun n x h => b.pre n x (a.pre n x h), fun x o h n => let ⟨h1, n1⟩ := a.keep x o h n; b.keep x o h1 n1⟩

section
variable {K : W.Frag} {ι ι' : Io} {H H' : Hp} {v : V} {d : D} {vs : List V} {ds : List D}
theorem Gr.rd (g : Gr ι H ι' H') {a : Addr} {u : HO} (h : Rd H a u) (n : a ∉ ι) : Rd H' a u ∧ a ∉ ι' := by
  rcases h with h | ⟨o, h⟩
  · exact ⟨.inl (g.keep a _ h n).1, (g.keep a _ h n).2⟩
  · exact ⟨.inr ⟨o, (g.keep a _ h n).1⟩, (g.keep a _ h n).2⟩
theorem At.gr (h : At K ι H v d) (g : Gr ι H ι' H') : At K ι' H' v d := by
  induction h with
  | non => exact .non
  | bl b => exact .bl b
  | int i => exact .int i
  | str s => exact .str s
  | lst h n l _ ih => exact .lst (g.keep _ _ h n).1 (g.keep _ _ h n).2 l ih
  | tup h n l _ ih => exact .tup (g.rd h n).1 (g.rd h n).2 l ih
  | ktup h l _ ih => exact .ktup h l ih
  | dct h n l _ ih => exact .dct (g.rd h n).1 (g.rd h n).2 l ih
  | ins h n l _ ih => exact .ins (g.keep _ _ h n).1 (g.keep _ _ h n).2 l ih
  | cell h => exact .cell (g.pre _ _ h)
  | ref a => exact .ref a
  | ty n => exact .ty n
  | fzl h l _ ih => exact .fzl (h.imp (fun ⟨o, e, n⟩ => ⟨o, g.keep _ _ e n⟩) id) l ih
theorem Ats.gr (h : Ats K ι H vs ds) (g : Gr ι H ι' H') : Ats K ι' H' vs ds := ⟨h.1, fun i v d e1 e2 => (h.2 i v d e1 e2).gr g⟩
theorem Pts.gr {κ : Type} {kv : List (κ × V)} {kd : List (κ × D)} (h : Pts K ι H kv kd) (g : Gr ι H ι' H') : Pts K ι' H' kv kd := ⟨h.1, fun i p q e1 e2 => (h.2 i p q e1 e2).gr g⟩
theorem Ats.nil : Ats K ι H [] [] := ⟨rfl, fun i v d h _ => by simp at h⟩
theorem Ats.cons (h : At K ι H v d) (r : Ats K ι H vs ds) : Ats K ι H (v :: vs) (d :: ds) := by
  refine ⟨by simp [r.1], fun i x y h1 h2 => ?_⟩
  cases i with
  | zero => cases Option.some.inj h1; cases Option.some.inj h2; exact h
  | succ i => exact r.2 i x y h1 h2
theorem Ats.app {vs' : List V} {ds' : List D} (r : Ats K ι H vs ds) (r' : Ats K ι H vs' ds') : Ats K ι H (vs ++ vs') (ds ++ ds') := by
  refine ⟨by simp [r.1, r'.1], fun i x y h1 h2 => ?_⟩
  by_cases hi : i < vs.length
  · rw [List.getElem?_append_left hi] at h1
    rw [List.getElem?_append_left (by rw [← r.1]; exact hi)] at h2
    exact r.2 i x y h1 h2
  · rw [List.getElem?_append_right (by omega)] at h1
    rw [List.getElem?_append_right (by rw [← r.1]; omega), ← r.1] at h2
    exact r'.2 _ x y h1 h2
theorem Ats.uncons (r : Ats K ι H vs (d :: ds)) : ∃ v vs', vs = v :: vs' ∧ At K ι H v d ∧ Ats K ι H vs' ds := by
  cases vs with
  | nil => have := r.1; simp at this
  | cons v vs' => exact ⟨v, vs', rfl, r.2 0 v d rfl rfl, by have := r.1; simpa using this, fun i x y h1 h2 => r.2 (i + 1) x y h1 h2⟩
theorem Ats.unnil (r : Ats K ι H vs []) : vs = [] := List.length_eq_zero_iff.mp r.1
theorem Ats.get (r : Ats K ι H vs ds) {i : Nat} {d : D} (h : ds[i]? = some d) : ∃ v, vs[i]? = some v ∧ At K ι H v d := by
  have hi := (List.getElem?_eq_some_iff.mp h).1
  have hv : i < vs.length := by rw [r.1]; exact hi
  exact ⟨vs[i], List.getElem?_eq_getElem hv, r.2 i _ _ (List.getElem?_eq_getElem hv) h⟩
end

/-- what stands in a cell -/
def CAt (K : W.Frag) (ι : Io) (H : Hp) (a : Addr) : CT → Prop
  | .lst ds => ∃ vs, H a = some (.lst vs) ∧ Ats K ι H vs ds
  | .dct kd => ∃ kv, H a = some (.dK kv) ∧ Pts K ι H kv kd
  | .lck ob kv kd => H a = some (.frz ob (.dK kv)) ∧ Pts K ι H kv kd
  | .ins C fd => ∃ dx fv, H a = some (.ins C dx fv) ∧ Pts K ι H fv fd
theorem CAt.there {K : W.Frag} {ι : Io} {H : Hp} {a : Addr} {c : CT} (h : CAt K ι H a c) : ∃ o, H a = some o := by
  cases c with
  | lst ds => obtain ⟨vs, h, _⟩ := h; exact ⟨_, h⟩
  | dct kd => obtain ⟨vs, h, _⟩ := h; exact ⟨_, h⟩
  | lck ob kv kd => exact ⟨_, h.1⟩
  | ins C fd => obtain ⟨_, vs, h, _⟩ := h; exact ⟨_, h⟩
/-- the store stands in the heap -/
structure Rep (K : W.Frag) (ι : Io) (μ : Sto) (H : Hp) : Prop where
  len : ι.length = μ.length
  nd : ι.Nodup
  at_ : ∀ (n : Nat) (a : Addr) (c : CT), ι[n]? = some a → μ[n]? = some c → CAt K ι H a c
theorem Rep.free {K : W.Frag} {ι : Io} {μ : Sto} {H : Hp} (r : Rep K ι μ H) {p : Addr} (h : H p = none) : p ∉ ι := fun z => by
  obtain ⟨n, e⟩ := List.mem_iff_getElem?.mp z
  have hn : n < μ.length := by rw [← r.len]; exact (List.getElem?_eq_some_iff.mp e).1
  obtain ⟨o, ho⟩ := (r.at_ n p _ e (List.getElem?_eq_getElem hn)).there
  rw [h] at ho; cases ho
theorem Rep.cell {K : W.Frag} {ι : Io} {μ : Sto} {H : Hp} (r : Rep K ι μ H) {n : Nat} {c : CT} (h : μ[n]? = some c) : ∃ a, ι[n]? = some a ∧ CAt K ι H a c := by
  have hn : n < ι.length := by rw [r.len]; exact (List.getElem?_eq_some_iff.mp h).1
  exact ⟨ι[n], List.getElem?_eq_getElem hn, r.at_ n _ c (List.getElem?_eq_getElem hn) h⟩

/-- new objects that are no cells -/
theorem Gr.new {ι : Io} {H : Hp} {p : Addr} {o : HO} (h : H p = none) (n : p ∉ ι) : Gr ι H ι (upd H p o) :=
  ⟨fun _ _ h => h, fun a u e m => ⟨by rw [upd_ne (ne_of_none e h)]; exact e, m⟩⟩
theorem Rep.new {K : W.Frag} {ι : Io} {μ : Sto} {H : Hp} {p : Addr} {o : HO} (r : Rep K ι μ H) (h : H p = none) : Rep K ι μ (upd H p o) := by
  have g := Gr.new (o := o) h (r.free h)
  refine ⟨r.len, r.nd, fun n a c e1 e2 => ?_⟩
  have z := r.at_ n a c e1 e2
  cases c with
  | lst ds => obtain ⟨vs, h1, h2⟩ := z; exact ⟨vs, by rw [upd_ne (ne_of_none h1 h)]; exact h1, h2.gr g⟩
  | dct kd => obtain ⟨kv, h1, h2⟩ := z; exact ⟨kv, by rw [upd_ne (ne_of_none h1 h)]; exact h1, h2.gr g⟩
  | lck ob kv kd => exact ⟨by rw [upd_ne (ne_of_none z.1 h)]; exact z.1, z.2.gr g⟩
  | ins C fd => obtain ⟨dx, fv, h1, h2⟩ := z; exact ⟨dx, fv, by rw [upd_ne (ne_of_none h1 h)]; exact h1, h2.gr g⟩
theorem nodup_ix2 {N : List Addr} (hN : N.Nodup) {i j : Nat} {x : Addr} (a : N[i]? = some x) (b : N[j]? = some x) : i = j := by
  obtain ⟨h1, e1⟩ := List.getElem?_eq_some_iff.mp a
  obtain ⟨h2, e2⟩ := List.getElem?_eq_some_iff.mp b
  exact (List.getElem_inj hN).mp (e1.trans e2.symm)
/-- the objects of one cell are changed -/
theorem Gr.chg {ι : Io} {H : Hp} {p : Addr} {o : HO} (m : p ∈ ι) : Gr ι H ι (upd H p o) :=
  ⟨fun _ _ h => h, fun a u e n => ⟨by rw [upd_ne (fun z => n (by rw [z]; exact m))]; exact e, n⟩⟩
theorem Rep.chg {K : W.Frag} {ι : Io} {μ : Sto} {H : Hp} {p : Addr} {o : HO} {n : Nat} {c : CT} (r : Rep K ι μ H) (hn : ι[n]? = some p)
    (hc : CAt K ι (upd H p o) p c) : Rep K ι (μ.set n c) (upd H p o) := by
  have m : p ∈ ι := List.mem_of_getElem? hn
  have g := Gr.chg (H := H) (o := o) m
  refine ⟨by simp [r.len], r.nd, fun j a c' e1 e2 => ?_⟩
  by_cases hj : n = j
  · subst hj
    have hl : n < μ.length := by rw [← r.len]; exact (List.getElem?_eq_some_iff.mp hn).1
    rw [List.getElem?_set_self hl] at e2
    cases e2
    rw [hn] at e1; cases e1
    exact hc
  · rw [List.getElem?_set_ne hj] at e2
    have ne : a ≠ p := fun z => hj (nodup_ix2 r.nd hn (z ▸ e1))
    have z := r.at_ j a c' e1 e2
    cases c' with
    | lst ds => obtain ⟨vs, h1, h2⟩ := z; exact ⟨vs, by rw [upd_ne ne]; exact h1, h2.gr g⟩
    | dct kd => obtain ⟨kv, h1, h2⟩ := z; exact ⟨kv, by rw [upd_ne ne]; exact h1, h2.gr g⟩
    | lck ob kv kd => exact ⟨by rw [upd_ne ne]; exact z.1, z.2.gr g⟩
    | ins C fd => obtain ⟨dx, fv, h1, h2⟩ := z; exact ⟨dx, fv, by rw [upd_ne ne]; exact h1, h2.gr g⟩

/-- the slots -/
def Loc (K : W.Frag) (ι : Io) (H : Hp) (σ : L2.St) (ρ : Rho) : Prop :=
  σ.length = ρ.length ∧ ∀ (i : Nat) (d : D), ρ[i]? = some (some d) → ∃ v, σ[i]? = some (some v) ∧ At K ι H v d
theorem Loc.gr {K : W.Frag} {ι ι' : Io} {H H' : Hp} {σ : L2.St} {ρ : Rho} (h : Loc K ι H σ ρ) (g : Gr ι H ι' H') : Loc K ι' H' σ ρ :=
  ⟨h.1, fun i d e => let ⟨v, e1, a⟩ := h.2 i d e; ⟨v, e1, a.gr g⟩⟩
theorem Loc.set {K : W.Frag} {ι : Io} {H : Hp} {σ : L2.St} {ρ : Rho} {v : V} {d : D} (h : Loc K ι H σ ρ) (a : At K ι H v d) (i : Nat) : Loc K ι H (σ.set i (some v)) (ρ.set i (some d)) := by
  refine ⟨by simp [h.1], fun j e q => ?_⟩
  by_cases hj : i = j
  · subst hj
    have hl : i < ρ.length := by
      have := (List.getElem?_eq_some_iff.mp q).1
      simpa using this
    rw [List.getElem?_set_self hl] at q
    cases q
    exact ⟨v, List.getElem?_set_self (by rw [h.1]; exact hl), a⟩
  · rw [List.getElem?_set_ne hj] at q
    obtain ⟨w, e1, a1⟩ := h.2 j e q
    exact ⟨w, by rw [List.getElem?_set_ne hj]; exact e1, a1⟩

/-! ### readings over data -/
abbrev QD := D → Sto → Prop
/-- an exception: its class, its attributes, the slots, the store -/
abbrev ED := Value → List (Str × D) → Rho → Sto → Prop
abbrev FE := Rho → Sto → QD → ED → Prop
def QV (K : W.Frag) (ι : Io) (H : Hp) (Q : VK) : QD := fun d μ => ∀ ι' H' v, Gr ι H ι' H' → Rep K ι' μ H' → At K ι' H' v d → Q v H'
def XV (K : W.Frag) (ι : Io) (H : Hp) (W : Value → Option Addr → Hp → Prop) (cls : Value) (fd : List (Str × D)) (μ : Sto) : Prop :=
  ∀ ι' H' dd fv, Gr ι H ι' H' → Rep K ι' μ H' → H' dd = some (.xd fv) → Pts K ι' H' fv fd → W cls (some dd) H'
def EW (K : W.Frag) (ι : Io) (H : Hp) (W : WX) (σ : L2.St) : ED := fun cls fd _ μ => XV K ι H (fun c d H' => W c d σ H') cls fd μ
def rdE (K : W.Frag) (W : WX) (f : FE) : TE := fun σ H Q => ∃ ι ρ μ, Rep K ι μ H ∧ Loc K ι H σ ρ ∧ f ρ μ (QV K ι H Q) (EW K ι H W σ)
def MonE (f : FE) : Prop := ∀ ρ μ (Q Q' : QD) (E E' : ED), (∀ d m, Q d m → Q' d m) → (∀ c l m, E c l ρ m → E' c l ρ m) → f ρ μ Q E → f ρ μ Q' E'
structure DE (X : Cx) (W : WX) (e : Expr) (f : FE) : Prop where
  mono : MonE f
  run : PE X e (rdE X.K W f)
theorem PE.imp {X : Cx} {e : Expr} {t t' : TE} (h : PE X e t) (k : ∀ σ H Q, t' σ H Q → t σ H Q) : PE X e t' :=
  ⟨fun pins s σ H Q I q => h.run pins s σ H Q I (k σ H Q q)⟩

section
variable {K : W.Frag} {ι ι' : Io} {H H' : Hp} {σ : L2.St} {W : WX}
theorem QV.gr {Q : VK} {d : D} {μ : Sto} (g : Gr ι H ι' H') (h : QV K ι H Q d μ) : QV K ι' H' Q d μ := fun _ _ v g' r a => h _ _ v (g.trans g') r a
theorem EW.gr {c : Value} {l : List (Str × D)} {ρ ρ' : Rho} {μ : Sto} (g : Gr ι H ι' H') (h : EW K ι H W σ c l ρ μ) : EW K ι' H' W σ c l ρ' μ :=
  fun _ _ dd fv g' r a p => h _ _ dd fv (g.trans g') r a p
end
end Dl

namespace Dl
open PySem PySem.Spec L2
open PyProof.Rows hiding St Binds

/-! ### tests, argument lists -/
abbrev FT := Rho → Sto → (Bool → Sto → Prop) → ED → Prop
abbrev FA := Rho → Sto → (List D → Sto → Prop) → ED → Prop
def TV (K : PySem.W.Frag) (ι : Io) (H : Hp) (Q : Bool → Hp → Prop) : Bool → Sto → Prop := fun b μ => ∀ ι' H', Gr ι H ι' H' → Rep K ι' μ H' → Q b H'
def AV (K : PySem.W.Frag) (ι : Io) (H : Hp) (Q : List V → Hp → Prop) : List D → Sto → Prop := fun ds μ => ∀ ι' H' vs, Gr ι H ι' H' → Rep K ι' μ H' → Ats K ι' H' vs ds → Q vs H'
def rdT (K : PySem.W.Frag) (W : WX) (f : FT) : TT := fun σ H Q => ∃ ι ρ μ, Rep K ι μ H ∧ Loc K ι H σ ρ ∧ f ρ μ (TV K ι H Q) (EW K ι H W σ)
def rdA (K : PySem.W.Frag) (W : WX) (f : FA) : TA := fun σ H Q => ∃ ι ρ μ, Rep K ι μ H ∧ Loc K ι H σ ρ ∧ f ρ μ (AV K ι H Q) (EW K ι H W σ)
def MonT (f : FT) : Prop := ∀ ρ μ (Q Q' : Bool → Sto → Prop) (E E' : ED), (∀ d m, Q d m → Q' d m) → (∀ c l m, E c l ρ m → E' c l ρ m) → f ρ μ Q E → f ρ μ Q' E'
def MonA (f : FA) : Prop := ∀ ρ μ (Q Q' : List D → Sto → Prop) (E E' : ED), (∀ d m, Q d m → Q' d m) → (∀ c l m, E c l ρ m → E' c l ρ m) → f ρ μ Q E → f ρ μ Q' E'
structure DT (X : Cx) (W : WX) (e : Expr) (f : FT) : Prop where
  mono : MonT f
  run : PT X e (rdT X.K W f)
structure DW (X : Cx) (W : WX) (e : Expr) (f : FT) : Prop where
  mono : MonT f
  run : PW X e (rdT X.K W f)
structure DA (X : Cx) (W : WX) (es : List Expr) (f : FA) : Prop where
  mono : MonA f
  run : PA X es (rdA X.K W f)
theorem PT.imp {X : Cx} {e : Expr} {t t' : TT} (h : PT X e t) (k : ∀ σ H Q, t' σ H Q → t σ H Q) : PT X e t' :=
  ⟨fun pins s σ H Q I q => h.run pins s σ H Q I (k σ H Q q)⟩
theorem PW.imp {X : Cx} {e : Expr} {t t' : TT} (h : PW X e t) (k : ∀ σ H Q, t' σ H Q → t σ H Q) : PW X e t' :=
  ⟨fun wh pins s σ H Q I q => h.run wh pins s σ H Q I (k σ H Q q)⟩
theorem PA.imp {X : Cx} {es : List Expr} {t t' : TA} (h : PA X es t) (k : ∀ σ H Q, t' σ H Q → t σ H Q) : PA X es t' :=
  ⟨fun pos pins s σ H Q I q => h.run pos pins s σ H Q I (k σ H Q q)⟩

section
variable {X : Cx} {W : WX} {a b c e : Expr} {es : List Expr} {fa fb fc f : FE} {ft fu : FT} {fl : FA} {pos : Pos} {K : PySem.W.Frag} {ι : Io} {H : Hp} {σ : L2.St} {ρ : Rho} {μ : Sto}

/-- one expression ahead of what follows -/
theorem chain1 (ha : MonE fa) {R : VK} {P : QD} (r : Rep K ι μ H) (l : Loc K ι H σ ρ) (h : fa ρ μ P (EW K ι H W σ))
    (k : ∀ d μ1 ι1 H1 v, P d μ1 → Gr ι H ι1 H1 → Rep K ι1 μ1 H1 → Loc K ι1 H1 σ ρ → At K ι1 H1 v d → R v H1) : rdE K W fa σ H R :=
  ⟨ι, ρ, μ, r, l, ha ρ μ _ _ _ _ (fun d m q ι1 H1 v g r1 a1 => k d m ι1 H1 v q g r1 (l.gr g) a1) (fun _ _ _ q => q) h⟩
theorem chainT (ha : MonT ft) {R : Bool → Hp → Prop} {P : Bool → Sto → Prop} (r : Rep K ι μ H) (l : Loc K ι H σ ρ) (h : ft ρ μ P (EW K ι H W σ))
    (k : ∀ d μ1 ι1 H1, P d μ1 → Gr ι H ι1 H1 → Rep K ι1 μ1 H1 → Loc K ι1 H1 σ ρ → R d H1) : rdT K W ft σ H R :=
  ⟨ι, ρ, μ, r, l, ha ρ μ _ _ _ _ (fun d m q ι1 H1 g r1 => k d m ι1 H1 q g r1 (l.gr g)) (fun _ _ _ q => q) h⟩
theorem chainA (ha : MonA fl) {R : List V → Hp → Prop} {P : List D → Sto → Prop} (r : Rep K ι μ H) (l : Loc K ι H σ ρ) (h : fl ρ μ P (EW K ι H W σ))
    (k : ∀ d μ1 ι1 H1 v, P d μ1 → Gr ι H ι1 H1 → Rep K ι1 μ1 H1 → Loc K ι1 H1 σ ρ → Ats K ι1 H1 v d → R v H1) : rdA K W fl σ H R :=
  ⟨ι, ρ, μ, r, l, ha ρ μ _ _ _ _ (fun d m q ι1 H1 v g r1 a1 => k d m ι1 H1 v q g r1 (l.gr g) a1) (fun _ _ _ q => q) h⟩

/-! ### names and constants -/
def fVar (i : Nat) : FE := fun ρ μ Q _ => ∃ d, ρ[i]? = some (some d) ∧ Q d μ
def fC (d : D) : FE := fun _ μ Q _ => Q d μ
theorem mVar (i : Nat) : MonE (fVar i) := fun ρ μ Q Q' E E' h _ ⟨d, e, q⟩ => ⟨d, e, h d μ q⟩
theorem mC (d : D) : MonE (fC d) := fun ρ μ Q Q' E E' h _ q => h d μ q
theorem de_var (i : Nat) {x : Str} (hN : X.N[i]? = some x := by rfl) (hv : Vis X.env.scope x := by first | exact Or.inl rfl | exact Or.inr (Or.inl rfl) | exact Or.inr (Or.inr rfl))
    (hd : (x == ("__debug__" : Str)) = false := by decide) (hcd : (x == ("__classdict__" : Str)) = false := by decide) : DE X W (.Name x pos) (fVar i) :=
  ⟨mVar i, PE.imp (pe_var hN hv hd hcd) fun σ H Q ⟨ι, ρ, μ, r, l, d, e, q⟩ => let ⟨v, e1, a⟩ := l.2 i d e; ⟨v, e1, q ι H v (Gr.refl _ _) r a⟩⟩
theorem de_k {v : V} {d : D} (h : PE X e (tC v)) (a : ∀ ι H, At X.K ι H v d) : DE X W e (fC d) :=
  ⟨mC d, PE.imp h fun σ H Q ⟨ι, ρ, μ, r, l, q⟩ => q ι H v (Gr.refl _ _) r (a ι H)⟩
theorem de_int {i : Int} {j} : DE X W (.Constant (.int i) j pos) (fC (.int i)) := de_k pe_int fun _ _ => .int i
theorem de_bl {b : Bool} {j} : DE X W (.Constant (.bool b) j pos) (fC (.bl b)) := de_k pe_bl fun _ _ => .bl b
theorem de_non {j} : DE X W (.Constant .none j pos) (fC .non) := de_k pe_non fun _ _ => .non
theorem de_str {x : Str} {j} : DE X W (.Constant (.str x) j pos) (fC (.str x)) := de_k pe_str fun _ _ => .str x

/-! ### operators -/
abbrev G2 := D → D → Sto → QD → Prop
def MonG (g : G2) : Prop := ∀ x y μ (Q Q' : QD), (∀ d m, Q d m → Q' d m) → g x y μ Q → g x y μ Q'
structure OpD (X : Cx) (f : Value → Value → Sem Value) (g : G2) : Prop where
  mono : MonG g
  run : ∃ r, OpR X f r ∧ ∀ ι H μ x y dx dy Q, Rep X.K ι μ H → At X.K ι H x dx → At X.K ι H y dy → g dx dy μ (QV X.K ι H Q) → r x y H Q
theorem OpD.or {p : Value → Value → Sem Value} {g g' : G2} (h : OpD X p g) (h' : OpD X p g') : OpD X p (fun x y μ Q => g x y μ Q ∨ g' x y μ Q) := by
  obtain ⟨r, o, k⟩ := h.run
  obtain ⟨r', o', k'⟩ := h'.run
  refine ⟨fun x y μ Q Q' m q => q.imp (h.mono x y μ Q Q' m) (h'.mono x y μ Q Q' m), fun x y H Q => r x y H Q ∨ r' x y H Q, fun pins s σ H x y v u Q I rx ry q => ?_, fun ι H μ x y dx dy Q r a b q => ?_⟩
  · rcases q with q | q
    · exact o pins s σ H x y v u Q I rx ry q
    · exact o' pins s σ H x y v u Q I rx ry q
  · exact q.imp (k ι H μ x y dx dy Q r a b) (k' ι H μ x y dx dy Q r a b)
def fOp (g : G2) (fa fb : FE) : FE := fun ρ μ Q E => fa ρ μ (fun x μ1 => fb ρ μ1 (fun y μ2 => g x y μ2 Q) E) E
theorem mOp {g : G2} (mg : MonG g) (ma : MonE fa) (mb : MonE fb) : MonE (fOp g fa fb) := fun ρ μ Q Q' E E' h he q =>
  ma ρ μ _ _ E E' (fun x m q1 => mb ρ m _ _ E E' (fun y m2 q2 => mg x y m2 Q Q' h q2) he q1) he q
theorem rdOp {g : G2} {r : R2} (mg : MonG g) (ma : MonE fa) (mb : MonE fb)
    (k : ∀ ι H μ x y dx dy Q, Rep K ι μ H → At K ι H x dx → At K ι H y dy → g dx dy μ (QV K ι H Q) → r x y H Q) {Q : VK} (h : rdE K W (fOp g fa fb) σ H Q) :
    tOp r (rdE K W fa) (rdE K W fb) σ H Q := by
  obtain ⟨ι, ρ, μ, rp, l, q⟩ := h
  refine chain1 ma rp l q fun x μ1 ι1 H1 v q1 g1 r1 l1 a1 => ?_
  refine chain1 mb r1 l1 (mb ρ μ1 _ _ _ _ (fun _ _ q => q) (fun _ _ _ z => EW.gr g1 z) q1) fun y μ2 ι2 H2 u q2 g2 r2 l2 a2 => ?_
  exact k ι2 H2 μ2 v u x y Q r2 (a1.gr g2) a2 (mg x y μ2 _ _ (fun d m z => QV.gr (g1.trans g2) z) q2)
theorem de_op {op : Operator} {g : G2} (o : OpD X (binaryOp op) g) (ha : DE X W a fa) (hb : DE X W b fb) : DE X W (.BinOp a op b pos) (fOp g fa fb) := by
  obtain ⟨r, ho, k⟩ := o.run
  exact ⟨mOp o.mono ha.mono hb.mono, PE.imp (pe_op ho ha.run hb.run) fun σ H Q h => rdOp o.mono ha.mono hb.mono k h⟩
theorem de_cmp {op : CmpOp} {g : G2} (o : OpD X (compareOp op) g) (ha : DE X W a fa) (hb : DE X W b fb) (hm : behindInMarks op b = false := by first | exact nomark _ | rfl) :
    DE X W (.Compare a [op] [b] pos) (fOp g fa fb) := by
  obtain ⟨r, ho, k⟩ := o.run
  exact ⟨mOp o.mono ha.mono hb.mono, PE.imp (pe_cmpR ho ha.run hb.run hm) fun σ H Q h => rdOp o.mono ha.mono hb.mono k h⟩

/-- a value that is a bool, as a test -/
def fB (f : FE) : FT := fun ρ μ Q E => f ρ μ (fun d m => ∃ b, d = .bl b ∧ Q b m) E
theorem mB (m : MonE f) : MonT (fB f) := fun ρ μ Q Q' E E' h he q => m ρ μ _ _ E E' (fun d m ⟨b, e, z⟩ => ⟨b, e, h b m z⟩) he q
theorem rdB (m : MonE f) {Q : Bool → Hp → Prop} (h : rdT K W (fB f) σ H Q) : tB (rdE K W f) σ H Q := by
  obtain ⟨ι, ρ, μ, rp, l, q⟩ := h
  refine chain1 m rp l q fun d μ1 ι1 H1 v q1 g1 r1 l1 a1 => ?_
  obtain ⟨b, rfl, z⟩ := q1
  cases a1
  exact ⟨b, rfl, z ι1 H1 g1 r1⟩
theorem dt_val (h : DE X W e f) (he : ∀ whole, isTrue e X.env whole = (do let v ← whole; standAt e.pos; holding [v] (truthy v)) := by intro _; rfl) : DT X W e (fB f) :=
  ⟨mB h.mono, PT.imp (pt_val h.run he) fun σ H Q q => rdB h.mono q⟩
theorem dt_cmp {op : CmpOp} {g : G2} (o : OpD X (compareOp op) g) (ha : DE X W a fa) (hb : DE X W b fb) (hm : behindInMarks op b = false := by first | exact nomark _ | rfl) :
    DT X W (.Compare a [op] [b] pos) (fB (fOp g fa fb)) := by
  obtain ⟨r, ho, k⟩ := o.run
  refine ⟨mB (mOp o.mono ha.mono hb.mono), PT.imp (pt_cmpR ho ha.run hb.run hm) fun σ H Q h => ?_⟩
  obtain ⟨ι, ρ, μ, rp, l, q⟩ := h
  refine rdOp (Q := fun x H1 => ∃ c, x = .bl c ∧ Q c H1) o.mono ha.mono hb.mono k ⟨ι, ρ, μ, rp, l, mOp o.mono ha.mono hb.mono ρ μ _ _ _ _ (fun d m z => ?_) (fun _ _ _ z => z) q⟩
  intro ι1 H1 v g1 r1 a1
  obtain ⟨b, e, z⟩ := z
  cases e
  cases a1
  exact ⟨b, rfl, z ι1 H1 g1 r1⟩

/-! ### not, and, or, if -/
def fNot (f : FT) : FT := fun ρ μ Q E => f ρ μ (fun b m => Q (!b) m) E
def fAnd (f u : FT) : FT := fun ρ μ Q E => f ρ μ (fun b m => if b = true then u ρ m Q E else Q false m) E
def fOr (f u : FT) : FT := fun ρ μ Q E => f ρ μ (fun b m => if b = true then Q true m else u ρ m Q E) E
theorem mNot (m : MonT ft) : MonT (fNot ft) := fun ρ μ Q Q' E E' h he q => m ρ μ _ _ E E' (fun d m z => h _ m z) he q
theorem mAnd (m : MonT ft) (m' : MonT fu) : MonT (fAnd ft fu) := fun ρ μ Q Q' E E' h he q => m ρ μ _ _ E E' (fun d mm z => by
  cases d with
  | true => exact m' ρ mm Q Q' E E' h he z
  | false => exact h false mm z) he q
theorem mOr (m : MonT ft) (m' : MonT fu) : MonT (fOr ft fu) := fun ρ μ Q Q' E E' h he q => m ρ μ _ _ E E' (fun d mm z => by
  cases d with
  | false => exact m' ρ mm Q Q' E E' h he z
  | true => exact h true mm z) he q
theorem dt_not (h : DT X W a ft) : DT X W (.UnaryOp .Not a pos) (fNot ft) :=
  ⟨mNot h.mono, PT.imp (pt_not h.run) fun σ H Q ⟨ι, ρ, μ, rp, l, q⟩ => chainT h.mono rp l q fun d μ1 ι1 H1 q1 g1 r1 l1 => q1 ι1 H1 g1 r1⟩
theorem dw_and1 (h : DT X W a ft) : DW X W (.BoolOp .And [a] pos) ft := ⟨h.mono, pw_and1 h.run⟩
theorem dw_or1 (h : DT X W a ft) : DW X W (.BoolOp .Or [a] pos) ft := ⟨h.mono, pw_or1 h.run⟩
theorem dw_and (h : DT X W a ft) (h' : DW X W (.BoolOp .And (b :: es) pos) fu) : DW X W (.BoolOp .And (a :: b :: es) pos) (fAnd ft fu) :=
  ⟨mAnd h.mono h'.mono, PW.imp (pw_and h.run h'.run) fun σ H Q ⟨ι, ρ, μ, rp, l, q⟩ => chainT h.mono rp l q fun d μ1 ι1 H1 q1 g1 r1 l1 => by
    cases d with
    | true => exact ⟨ι1, ρ, μ1, r1, l1, h'.mono ρ μ1 _ _ _ _ (fun b m z ι2 H2 g2 r2 => z ι2 H2 (g1.trans g2) r2) (fun _ _ _ z => EW.gr g1 z) q1⟩
    | false => exact q1 ι1 H1 g1 r1⟩
theorem dw_or (h : DT X W a ft) (h' : DW X W (.BoolOp .Or (b :: es) pos) fu) : DW X W (.BoolOp .Or (a :: b :: es) pos) (fOr ft fu) :=
  ⟨mOr h.mono h'.mono, PW.imp (pw_or h.run h'.run) fun σ H Q ⟨ι, ρ, μ, rp, l, q⟩ => chainT h.mono rp l q fun d μ1 ι1 H1 q1 g1 r1 l1 => by
    cases d with
    | false => exact ⟨ι1, ρ, μ1, r1, l1, h'.mono ρ μ1 _ _ _ _ (fun b m z ι2 H2 g2 r2 => z ι2 H2 (g1.trans g2) r2) (fun _ _ _ z => EW.gr g1 z) q1⟩
    | true => exact q1 ι1 H1 g1 r1⟩
theorem DW.pt (h : DW X W e ft) : DT X W e ft := ⟨h.mono, h.run.pt⟩
def fIf (t : FT) (f f' : FE) : FE := fun ρ μ Q E => t ρ μ (fun b m => if b = true then f ρ m Q E else f' ρ m Q E) E
theorem mIf (m : MonT ft) (ma : MonE fa) (mb : MonE fb) : MonE (fIf ft fa fb) := fun ρ μ Q Q' E E' h he q => m ρ μ _ _ E E' (fun d mm z => by
  cases d with
  | true => exact ma ρ mm Q Q' E E' h he z
  | false => exact mb ρ mm Q Q' E E' h he z) he q
theorem de_ifx (hc : DT X W c ft) (ha : DE X W a fa) (hb : DE X W b fb) : DE X W (.IfExp c a b pos) (fIf ft fa fb) :=
  ⟨mIf hc.mono ha.mono hb.mono, PE.imp (pe_ifExp hc.run ha.run hb.run) fun σ H Q ⟨ι, ρ, μ, rp, l, q⟩ => chainT hc.mono rp l q fun d μ1 ι1 H1 q1 g1 r1 l1 => by
    cases d with
    | true => exact ⟨ι1, ρ, μ1, r1, l1, ha.mono ρ μ1 _ _ _ _ (fun b m z => QV.gr g1 z) (fun _ _ _ z => EW.gr g1 z) q1⟩
    | false => exact ⟨ι1, ρ, μ1, r1, l1, hb.mono ρ μ1 _ _ _ _ (fun b m z => QV.gr g1 z) (fun _ _ _ z => EW.gr g1 z) q1⟩⟩
/-- .. as values -/
def fAndV (f f' : FE) : FE := fun ρ μ Q E => f ρ μ (fun d m => ∃ b, d = .bl b ∧ if b = true then f' ρ m Q E else Q (.bl false) m) E
def fOrV (f f' : FE) : FE := fun ρ μ Q E => f ρ μ (fun d m => ∃ b, d = .bl b ∧ if b = true then Q (.bl true) m else f' ρ m Q E) E
theorem mAndV (m : MonE fa) (m' : MonE fb) : MonE (fAndV fa fb) := fun ρ μ Q Q' E E' h he q => m ρ μ _ _ E E' (fun d mm ⟨b, e, z⟩ => ⟨b, e, by
  cases b with
  | true => exact m' ρ mm Q Q' E E' h he z
  | false => exact h _ mm z⟩) he q
theorem mOrV (m : MonE fa) (m' : MonE fb) : MonE (fOrV fa fb) := fun ρ μ Q Q' E E' h he q => m ρ μ _ _ E E' (fun d mm ⟨b, e, z⟩ => ⟨b, e, by
  cases b with
  | false => exact m' ρ mm Q Q' E E' h he z
  | true => exact h _ mm z⟩) he q
theorem de_one {op} (h : DE X W a fa) : DE X W (.BoolOp op [a] pos) fa := ⟨h.mono, pe_one h.run⟩
theorem de_and (h : DE X W a fa) (h' : DE X W (.BoolOp .And (b :: es) pos) fb) : DE X W (.BoolOp .And (a :: b :: es) pos) (fAndV fa fb) :=
  ⟨mAndV h.mono h'.mono, PE.imp (pe_and h.run h'.run) fun σ H Q ⟨ι, ρ, μ, rp, l, q⟩ => chain1 h.mono rp l q fun d μ1 ι1 H1 v q1 g1 r1 l1 a1 => by
    obtain ⟨k, rfl, z⟩ := q1
    cases a1
    refine ⟨k, rfl, ?_⟩
    cases k with
    | true => exact ⟨ι1, ρ, μ1, r1, l1, h'.mono ρ μ1 _ _ _ _ (fun b m z => QV.gr g1 z) (fun _ _ _ z => EW.gr g1 z) z⟩
    | false => exact z ι1 H1 _ g1 r1 (.bl false)⟩
theorem de_or (h : DE X W a fa) (h' : DE X W (.BoolOp .Or (b :: es) pos) fb) : DE X W (.BoolOp .Or (a :: b :: es) pos) (fOrV fa fb) :=
  ⟨mOrV h.mono h'.mono, PE.imp (pe_or h.run h'.run) fun σ H Q ⟨ι, ρ, μ, rp, l, q⟩ => chain1 h.mono rp l q fun d μ1 ι1 H1 v q1 g1 r1 l1 a1 => by
    obtain ⟨k, rfl, z⟩ := q1
    cases a1
    refine ⟨k, rfl, ?_⟩
    cases k with
    | false => exact ⟨ι1, ρ, μ1, r1, l1, h'.mono ρ μ1 _ _ _ _ (fun b m z => QV.gr g1 z) (fun _ _ _ z => EW.gr g1 z) z⟩
    | true => exact z ι1 H1 _ g1 r1 (.bl true)⟩
/-! ### argument lists, displays -/
def fNil : FA := fun _ μ Q _ => Q [] μ
def fCons (f : FE) (g : FA) : FA := fun ρ μ Q E => f ρ μ (fun d m => g ρ m (fun ds m2 => Q (d :: ds) m2) E) E
theorem mNil : MonA fNil := fun _ μ _ _ _ _ h _ q => h _ μ q
theorem mCons (m : MonE f) (m' : MonA fl) : MonA (fCons f fl) := fun ρ μ Q Q' E E' h he q => m ρ μ _ _ E E' (fun d mm z => m' ρ mm _ _ E E' (fun ds m2 z2 => h _ m2 z2) he z) he q
theorem da_nil : DA X W [] fNil := ⟨mNil, PA.imp pa_nil fun σ H Q ⟨ι, ρ, μ, rp, l, q⟩ => q ι H [] (Gr.refl _ _) rp Ats.nil⟩
theorem da_cons (h : DE X W e f) (h' : DA X W es fl) (hs : starEach (e :: es) X.env = (false, eval e X.env) :: starEach es X.env := by rfl) : DA X W (e :: es) (fCons f fl) :=
  ⟨mCons h.mono h'.mono, PA.imp (pa_cons h.run h'.run hs) fun σ H Q ⟨ι, ρ, μ, rp, l, q⟩ => chain1 h.mono rp l q fun d μ1 ι1 H1 v q1 g1 r1 l1 a1 =>
    chainA h'.mono r1 l1 (h'.mono ρ μ1 _ _ _ _ (fun _ _ z => z) (fun _ _ _ z => EW.gr g1 z) q1) fun ds μ2 ι2 H2 vs q2 g2 r2 l2 a2 => q2 ι2 H2 _ (g1.trans g2) r2 (Ats.cons (a1.gr g2) a2)⟩

theorem At.newL {vs : List V} {ds : List D} {p : Addr} (h : H p = none) (n : p ∉ ι) (a : Ats K ι H vs ds) : At K ι (upd H p (.lst vs)) (.ref p) (.lst ds) :=
  .lst upd_same n a.1 fun i v d e1 e2 => (a.2 i v d e1 e2).gr (Gr.new h n)
theorem At.newT {vs : List V} {ds : List D} {p : Addr} (h : H p = none) (n : p ∉ ι) (a : Ats K ι H vs ds) : At K ι (upd H p (.tup vs)) (.ref p) (.tup ds) :=
  .tup (.inl upd_same) n a.1 fun i v d e1 e2 => (a.2 i v d e1 e2).gr (Gr.new h n)
/-- a new cell -/
theorem Gr.cellNew {p : Addr} {o : HO} (h : H p = none) (n : p ∉ ι) : Gr ι H (ι ++ [p]) (upd H p o) := by
  refine ⟨fun n a e => by rw [List.getElem?_append_left (List.getElem?_eq_some_iff.mp e).1]; exact e, fun a u e m => ⟨by rw [upd_ne (ne_of_none e h)]; exact e, fun z => ?_⟩⟩
  rcases List.mem_append.mp z with z | z
  · exact m z
  · rw [List.mem_singleton.mp z, h] at e; cases e
theorem Rep.cellNew {p : Addr} {o : HO} {c : CT} (r : Rep K ι μ H) (h : H p = none) (hc : CAt K (ι ++ [p]) (upd H p o) p c) : Rep K (ι ++ [p]) (μ ++ [c]) (upd H p o) := by
  have n := r.free h
  have g := Gr.cellNew (o := o) h n
  refine ⟨by simp [r.len], ?_, fun j a c' e1 e2 => ?_⟩
  · refine List.nodup_append.mpr ⟨r.nd, by simp, fun a ha b hb e => ?_⟩
    rw [List.mem_singleton.mp hb] at e
    exact n (e ▸ ha)
  · by_cases hj : j < ι.length
    · rw [List.getElem?_append_left hj] at e1
      rw [List.getElem?_append_left (by rw [← r.len]; exact hj)] at e2
      have z := r.at_ j a c' e1 e2
      have ne : a ≠ p := fun w => n (w ▸ List.mem_of_getElem? e1)
      cases c' with
      | lst ds => obtain ⟨vs, h1, h2⟩ := z; exact ⟨vs, by rw [upd_ne ne]; exact h1, h2.gr g⟩
      | dct kd => obtain ⟨kv, h1, h2⟩ := z; exact ⟨kv, by rw [upd_ne ne]; exact h1, h2.gr g⟩
      | lck ob kv kd => exact ⟨by rw [upd_ne ne]; exact z.1, z.2.gr g⟩
      | ins C fd => obtain ⟨dx, fv, h1, h2⟩ := z; exact ⟨dx, fv, by rw [upd_ne ne]; exact h1, h2.gr g⟩
    · have hl : j = ι.length := by
        have := (List.getElem?_eq_some_iff.mp e1).1
        rw [List.length_append, List.length_singleton] at this
        omega
      subst hl
      rw [List.getElem?_append_right (Nat.le_refl _), Nat.sub_self] at e1
      rw [List.getElem?_append_right (by rw [r.len]; exact Nat.le_refl _), r.len, Nat.sub_self] at e2
      cases Option.some.inj e1
      cases Option.some.inj e2
      exact hc
/-- a new list: as data, or as a cell -/
def gNewL (ds : List D) (μ : Sto) (Q : QD) : Prop := ds.length ≤ sizeLine ∧ (Q (.lst ds) μ ∨ Q (.cell μ.length) (μ ++ [.lst ds]))
theorem gNewL_mono {ds : List D} {Q Q' : QD} (h : ∀ d m, Q d m → Q' d m) (q : gNewL ds μ Q) : gNewL ds μ Q' := ⟨q.1, q.2.imp (h _ _) (h _ _)⟩
theorem newL_ok {vs : List V} {ds : List D} {Q : VK} (r : Rep K ι μ H) (a : Ats K ι H vs ds) (q : gNewL ds μ (QV K ι H Q)) (p : Addr) (h : H p = none) : Q (.ref p) (upd H p (.lst vs)) := by
  have n := r.free h
  rcases q.2 with q | q
  · exact q ι _ _ (Gr.new h n) (r.new h) (.newL h n a)
  · have g := Gr.cellNew (o := .lst vs) h n
    exact q _ _ _ g (r.cellNew h ⟨vs, upd_same, a.gr g⟩) (.cell (by rw [List.getElem?_append_right (by rw [r.len]; exact Nat.le_refl _), r.len, Nat.sub_self]; rfl))
def fLst (g : FA) : FE := fun ρ μ Q E => g ρ μ (fun ds m => gNewL ds m Q) E
def fTup (g : FA) : FE := fun ρ μ Q E => g ρ μ (fun ds m => ds.length ≤ sizeLine ∧ Q (.tup ds) m) E
theorem mLst (m : MonA fl) : MonE (fLst fl) := fun ρ μ Q Q' E E' h he q => m ρ μ _ _ E E' (fun d mm z => gNewL_mono h z) he q
theorem mTup (m : MonA fl) : MonE (fTup fl) := fun ρ μ Q Q' E E' h he q => m ρ μ _ _ E E' (fun d mm z => ⟨z.1, h _ mm z.2⟩) he q
theorem de_lst (h : DA X W es fl) : DE X W (.List es pos) (fLst fl) :=
  ⟨mLst h.mono, PE.imp (pe_lst h.run) fun σ H Q ⟨ι, ρ, μ, rp, l, q⟩ => chainA h.mono rp l q fun ds μ1 ι1 H1 vs q1 g1 r1 l1 a1 =>
    ⟨by rw [a1.1]; exact q1.1, newL_ok r1 a1 (gNewL_mono (fun d m z => QV.gr g1 z) q1)⟩⟩
theorem de_tup {x1} (h : DA X W es fl) : DE X W (.Tuple es x1 pos) (fTup fl) :=
  ⟨mTup h.mono, PE.imp (pe_tup h.run) fun σ H Q ⟨ι, ρ, μ, rp, l, q⟩ => chainA h.mono rp l q fun ds μ1 ι1 H1 vs q1 g1 r1 l1 a1 =>
    ⟨by rw [a1.1]; exact q1.1, fun p hp => q1.2 ι1 _ _ (g1.trans (Gr.new hp (r1.free hp))) (r1.new hp) (.newT hp (r1.free hp) a1)⟩⟩
end
end Dl

namespace Dl
open PySem PySem.Spec L2
open PyProof.Rows hiding St Binds

/-! ### what a datum is read as -/
def asL (μ : Sto) : D → Option (List D)
  | .lst ds => some ds
  | .cell n => match μ[n]? with | some (.lst ds) => some ds | _ => none
  | _ => none
def asD (μ : Sto) : D → Option (List (Key × D))
  | .dct kd => some kd
  | .cell n => match μ[n]? with | some (.dct kd) => some kd | some (.lck _ _ kd) => some kd | _ => none
  | _ => none
/-- a list or a tuple -/
def asS (μ : Sto) : D → Option (List D)
  | .tup ds => some ds
  | d => asL μ d
section
variable {K : PySem.W.Frag} {ι : Io} {H : Hp} {μ : Sto} {v : V} {d : D} {ds : List D} {kd : List (Key × D)}
theorem asL_at (r : Rep K ι μ H) (a : At K ι H v d) (h : asL μ d = some ds) : ∃ p vs, v = .ref p ∧ H p = some (.lst vs) ∧ Ats K ι H vs ds := by
  cases a with
  | lst h1 n l q => cases Option.some.inj h; exact ⟨_, _, rfl, h1, l, q⟩
  | @cell p n hn =>
    simp only [asL] at h
    split at h
    · rename_i e
      cases Option.some.inj h
      obtain ⟨vs, h1, h2⟩ := r.at_ n p _ hn e
      exact ⟨p, vs, rfl, h1, h2⟩
    · cases h
  | _ => cases h
theorem asD_at (r : Rep K ι μ H) (a : At K ι H v d) (h : asD μ d = some kd) : ∃ p kv, v = .ref p ∧ Rd H p (.dK kv) ∧ Pts K ι H kv kd := by
  cases a with
  | dct h1 n l q => cases Option.some.inj h; exact ⟨_, _, rfl, h1, l, q⟩
  | @cell p n hn =>
    simp only [asD] at h
    split at h
    · rename_i e
      cases Option.some.inj h
      obtain ⟨kv, h1, h2⟩ := r.at_ n p _ hn e
      exact ⟨p, kv, rfl, .inl h1, h2⟩
    · rename_i e
      cases Option.some.inj h
      obtain ⟨h1, h2⟩ := r.at_ n p _ hn e
      exact ⟨p, _, rfl, .inr ⟨_, h1⟩, h2⟩
    · cases h
  | _ => cases h
theorem asS_at (r : Rep K ι μ H) (a : At K ι H v d) (h : asS μ d = some ds) : ∃ p vs, v = .ref p ∧ (SqL K H p vs ∨ SqT K H p vs) ∧ Ats K ι H vs ds := by
  cases a with
  | tup h1 n l q => cases Option.some.inj h; exact ⟨_, _, rfl, .inr (.inl h1), l, q⟩
  | ktup h1 l q => cases Option.some.inj h; exact ⟨_, _, rfl, .inr (h1 H), l, q⟩
  | lst h1 n l q => cases Option.some.inj h; exact ⟨_, _, rfl, .inl (SqL.of h1), l, q⟩
  | cell hn =>
    obtain ⟨p, vs, e, h1, h2⟩ := asL_at r (.cell hn) (show asL μ (.cell _) = some ds from h)
    exact ⟨p, vs, e, .inl (SqL.of h1), h2⟩
  | _ => cases h
theorem tup_at (a : At K ι H v (.tup ds)) : ∃ p vs, v = .ref p ∧ SqT K H p vs ∧ Ats K ι H vs ds := by
  cases a with
  | tup h1 n l q => exact ⟨_, _, rfl, .inl h1, l, q⟩
  | ktup h1 l q => exact ⟨_, _, rfl, h1 H, l, q⟩
end

/-! ### the two-place operators -/
theorem OpD.imp {X : Cx} {f : Value → Value → Sem Value} {g g' : G2} (h : OpD X f g') (m : MonG g) (k : ∀ x y μ Q, g x y μ Q → g' x y μ Q) : OpD X f g := by
  obtain ⟨r, o, q⟩ := h.run
  exact ⟨m, r, o, fun ι H μ x y dx dy Q r a b z => q ι H μ x y dx dy Q r a b (k _ _ _ _ z)⟩
theorem opd_ii {X : Cx} {f : Value → Value → Sem Value} {C : Int → Int → Prop} {g : Int → Int → V} {gd : Int → Int → D} (o : OpR X f (rI C g)) (hg : ∀ i j K ι H, At K ι H (g i j) (gd i j)) :
    OpD X f (fun x y μ Q => ∃ i j, x = .int i ∧ y = .int j ∧ C i j ∧ Q (gd i j) μ) :=
  ⟨fun x y μ Q Q' h ⟨i, j, e1, e2, c, q⟩ => ⟨i, j, e1, e2, c, h _ _ q⟩, _, o, fun ι H μ x y dx dy Q r a b ⟨i, j, e1, e2, c, q⟩ => by
    subst e1; subst e2
    cases a; cases b
    exact ⟨i, j, rfl, rfl, c, q ι H _ (Gr.refl _ _) r (hg i j _ _ _)⟩⟩
theorem opd_ii0 {X : Cx} {f : Value → Value → Sem Value} {g : Int → Int → V} {gd : Int → Int → D} (o : OpR X f (rI0 g)) (hg : ∀ i j K ι H, At K ι H (g i j) (gd i j)) :
    OpD X f (fun x y μ Q => ∃ i j, x = .int i ∧ y = .int j ∧ Q (gd i j) μ) :=
  ⟨fun x y μ Q Q' h ⟨i, j, e1, e2, q⟩ => ⟨i, j, e1, e2, h _ _ q⟩, _, o, fun ι H μ x y dx dy Q r a b ⟨i, j, e1, e2, q⟩ => by
    subst e1; subst e2
    cases a; cases b
    exact ⟨i, j, rfl, rfl, q ι H _ (Gr.refl _ _) r (hg i j _ _ _)⟩⟩
/-- two texts to a value -/
theorem opd_ss {X : Cx} {f : Value → Value → Sem Value} {C : Str → Str → Prop} {g : Str → Str → V} {gd : Str → Str → D}
    (o : OpR X f (fun x y H Q => ∃ i j, x = .str i ∧ y = .str j ∧ C i j ∧ Q (g i j) H)) (hg : ∀ i j K ι H, At K ι H (g i j) (gd i j)) :
    OpD X f (fun x y μ Q => ∃ i j, x = .str i ∧ y = .str j ∧ C i j ∧ Q (gd i j) μ) :=
  ⟨fun x y μ Q Q' h ⟨i, j, e1, e2, c, q⟩ => ⟨i, j, e1, e2, c, h _ _ q⟩, _, o, fun ι H μ x y dx dy Q r a b ⟨i, j, e1, e2, c, q⟩ => by
    subst e1; subst e2
    cases a; cases b
    exact ⟨i, j, rfl, rfl, c, q ι H _ (Gr.refl _ _) r (hg i j _ _ _)⟩⟩
theorem opd_ss0 {X : Cx} {f : Value → Value → Sem Value} {g : Str → Str → V} {gd : Str → Str → D}
    (o : OpR X f (fun x y H Q => ∃ i j, x = .str i ∧ y = .str j ∧ Q (g i j) H)) (hg : ∀ i j K ι H, At K ι H (g i j) (gd i j)) :
    OpD X f (fun x y μ Q => ∃ i j, x = .str i ∧ y = .str j ∧ Q (gd i j) μ) :=
  ⟨fun x y μ Q Q' h ⟨i, j, e1, e2, q⟩ => ⟨i, j, e1, e2, h _ _ q⟩, _, o, fun ι H μ x y dx dy Q r a b ⟨i, j, e1, e2, q⟩ => by
    subst e1; subst e2
    cases a; cases b
    exact ⟨i, j, rfl, rfl, q ι H _ (Gr.refl _ _) r (hg i j _ _ _)⟩⟩

section
variable {X : Cx}
/-- x + y -/
def addD : G2 := fun x y μ Q => match x, y with
  | .int i, .int j => Q (.int (i + j)) μ
  | .str s, .str t => s.length + t.length ≤ sizeLine ∧ Q (.str (s ++ t)) μ
  | .tup xs, .tup ys => xs.length + ys.length ≤ sizeLine ∧ Q (.tup (xs ++ ys)) μ
  | x, y => ∃ xs ys, asL μ x = some xs ∧ asL μ y = some ys ∧ gNewL (xs ++ ys) μ Q
theorem opd_catL : OpD X (binaryOp .Add) (fun x y μ Q => ∃ xs ys, asL μ x = some xs ∧ asL μ y = some ys ∧ gNewL (xs ++ ys) μ Q) :=
  ⟨fun x y μ Q Q' h ⟨xs, ys, e1, e2, q⟩ => ⟨xs, ys, e1, e2, gNewL_mono h q⟩, _, op_cat, fun ι H μ x y dx dy Q r a b ⟨xs, ys, e1, e2, q⟩ => by
    obtain ⟨p, vs, rfl, h1, r1⟩ := asL_at r a e1
    obtain ⟨p', vs', rfl, h2, r2⟩ := asL_at r b e2
    refine ⟨p, p', vs, vs', rfl, rfl, h1, h2, ?_, fun l hl => newL_ok r (r1.app r2) q l hl⟩
    have := q.1
    rw [List.length_append] at this
    rw [r1.1, r2.1]; exact this⟩
theorem opd_catT : OpD X (binaryOp .Add) (fun x y μ Q => ∃ xs ys, x = .tup xs ∧ y = .tup ys ∧ xs.length + ys.length ≤ sizeLine ∧ Q (.tup (xs ++ ys)) μ) :=
  ⟨fun x y μ Q Q' h ⟨xs, ys, e1, e2, c, q⟩ => ⟨xs, ys, e1, e2, c, h _ _ q⟩, _, op_catA, fun ι H μ x y dx dy Q r a b ⟨xs, ys, e1, e2, c, q⟩ => by
    subst e1; subst e2
    have t1 : ∃ p vs, x = .ref p ∧ SqT X.K H p vs ∧ Ats X.K ι H vs xs := by
      cases a with
      | tup h1 n l q => exact ⟨_, _, rfl, .inl h1, l, q⟩
      | ktup h1 l q => exact ⟨_, _, rfl, h1 H, l, q⟩
    have t2 : ∃ p vs, y = .ref p ∧ SqT X.K H p vs ∧ Ats X.K ι H vs ys := by
      cases b with
      | tup h1 n l q => exact ⟨_, _, rfl, .inl h1, l, q⟩
      | ktup h1 l q => exact ⟨_, _, rfl, h1 H, l, q⟩
    obtain ⟨p, vs, rfl, h1, r1⟩ := t1
    obtain ⟨p', vs', rfl, h2, r2⟩ := t2
    refine ⟨p, p', vs, vs', rfl, rfl, h1, h2, by rw [r1.1, r2.1]; exact c, fun e => ?_, fun _ e => ?_, fun _ _ l hl => ?_⟩
    · subst e
      have : xs = [] := List.length_eq_zero_iff.mp r1.1.symm
      subst this
      exact q ι H _ (Gr.refl _ _) r b
    · subst e
      have : ys = [] := List.length_eq_zero_iff.mp r2.1.symm
      subst this
      rw [List.append_nil] at q
      exact q ι H _ (Gr.refl _ _) r a
    · exact q ι _ _ (Gr.new hl (r.free hl)) (r.new hl) (.newT hl (r.free hl) (r1.app r2))⟩
theorem opd_add : OpD X (binaryOp .Add) addD :=
  OpD.imp (((opd_ii0 (gd := fun i j => .int (i + j)) op_add fun _ _ _ _ _ => .int _).or (opd_ss (gd := fun s t => .str (s ++ t)) op_add_str fun _ _ _ _ _ => .str _)).or (opd_catT.or opd_catL))
    (fun x y μ Q Q' h q => by
      unfold addD at q ⊢
      split at q
      · exact h _ _ q
      · exact ⟨q.1, h _ _ q.2⟩
      · exact ⟨q.1, h _ _ q.2⟩
      · obtain ⟨xs, ys, e1, e2, q⟩ := q; exact ⟨xs, ys, e1, e2, gNewL_mono h q⟩)
    (fun x y μ Q q => by
      unfold addD at q
      split at q
      · exact .inl (.inl ⟨_, _, rfl, rfl, q⟩)
      · exact .inl (.inr ⟨_, _, rfl, rfl, q⟩)
      · exact .inr (.inl ⟨_, _, rfl, rfl, q⟩)
      · exact .inr (.inr q))
def subD : G2 := fun x y μ Q => ∃ i j, x = .int i ∧ y = .int j ∧ Q (.int (i - j)) μ
theorem opd_sub : OpD X (binaryOp .Sub) subD := opd_ii0 (gd := fun i j => .int (i - j)) op_sub fun _ _ _ _ _ => .int _
def modD : G2 := fun x y μ Q => ∃ i j, x = .int i ∧ y = .int j ∧ 0 < j ∧ Q (.int (i % j)) μ
theorem opd_mod : OpD X (binaryOp .Mod) modD := opd_ii (gd := fun i j => .int (i % j)) op_mod fun _ _ _ _ _ => .int _
def fdivD : G2 := fun x y μ Q => ∃ i j, x = .int i ∧ y = .int j ∧ CDivW i j ∧ Q (.int (i / j)) μ
theorem opd_fdiv : OpD X (binaryOp .FloorDiv) fdivD := opd_ii (gd := fun i j => .int (i / j)) op_fdivW fun _ _ _ _ _ => .int _
def powD : G2 := fun x y μ Q => ∃ i j, x = .int i ∧ y = .int j ∧ CPow i j ∧ Q (.int (i ^ j.toNat)) μ
theorem opd_pow : OpD X (binaryOp .Pow) powD := opd_ii (gd := fun i j => .int (i ^ j.toNat)) op_pow fun _ _ _ _ _ => .int _
theorem Ats.rep {K : PySem.W.Frag} {ι : Io} {H : Hp} {vs : List V} {ds : List D} (r : Ats K ι H vs ds) : ∀ n : Nat, Ats K ι H (List.replicate n vs).flatten (List.replicate n ds).flatten
  | 0 => Ats.nil
  | n + 1 => by
    rw [List.replicate_succ, List.replicate_succ, List.flatten_cons, List.flatten_cons]
    exact r.app (r.rep n)
theorem opd_repL : OpD X (binaryOp .Mult) (fun x y μ Q => ∃ xs k, y = .int k ∧ asL μ x = some xs ∧ -(2 ^ 63) ≤ k ∧ k < 2 ^ 63 ∧ xs.length * k.toNat ≤ sizeLine ∧ gNewL (List.replicate k.toNat xs).flatten μ Q) :=
  ⟨fun x y μ Q Q' h ⟨xs, k, e1, e2, c1, c2, c3, q⟩ => ⟨xs, k, e1, e2, c1, c2, c3, gNewL_mono h q⟩, _, op_rep, fun ι H μ x y dx dy Q r a b ⟨xs, k, e1, e2, c1, c2, c3, q⟩ => by
    subst e1
    obtain ⟨p, vs, rfl, h1, r1⟩ := asL_at r a e2
    cases b
    exact ⟨p, k, vs, rfl, rfl, h1, c1, c2, by rw [r1.1]; exact c3, fun l hl => newL_ok r (r1.rep _) q l hl⟩⟩
/-! ### comparisons -/
def ltD : G2 := fun x y μ Q => match x, y with
  | .int i, .int j => Q (.bl (decide (i < j))) μ
  | .str s, .str t => Q (.bl (decide (s.cps.toList < t.cps.toList))) μ
  | _, _ => False
def leD : G2 := fun x y μ Q => match x, y with
  | .int i, .int j => Q (.bl (decide (i ≤ j))) μ
  | .str s, .str t => Q (.bl (!decide (t.cps.toList < s.cps.toList))) μ
  | _, _ => False
def gtD : G2 := fun x y μ Q => ∃ i j, x = .int i ∧ y = .int j ∧ Q (.bl (decide (j < i))) μ
def geD : G2 := fun x y μ Q => ∃ i j, x = .int i ∧ y = .int j ∧ Q (.bl (decide (j ≤ i))) μ
theorem opd_gt : OpD X (compareOp .Gt) gtD := opd_ii0 (gd := fun i j => .bl (decide (j < i))) op_gt fun _ _ _ _ _ => .bl _
theorem opd_lt : OpD X (compareOp .Lt) ltD :=
  OpD.imp ((opd_ii0 (gd := fun i j => .bl (decide (i < j))) op_lt fun _ _ _ _ _ => .bl _).or (opd_ss0 (gd := fun s t => .bl (decide (s.cps.toList < t.cps.toList))) op_lt_str fun _ _ _ _ _ => .bl _))
    (fun x y μ Q Q' h q => by unfold ltD at q ⊢; split at q <;> first | exact h _ _ q | exact q)
    (fun x y μ Q q => by
      unfold ltD at q
      split at q
      · exact .inl ⟨_, _, rfl, rfl, q⟩
      · exact .inr ⟨_, _, rfl, rfl, q⟩
      · exact q.elim)
theorem opd_le : OpD X (compareOp .LtE) leD :=
  OpD.imp ((opd_ii0 (gd := fun i j => .bl (decide (i ≤ j))) op_le fun _ _ _ _ _ => .bl _).or (opd_ss0 (gd := fun s t => .bl (!decide (t.cps.toList < s.cps.toList))) op_le_str fun _ _ _ _ _ => .bl _))
    (fun x y μ Q Q' h q => by unfold leD at q ⊢; split at q <;> first | exact h _ _ q | exact q)
    (fun x y μ Q q => by
      unfold leD at q
      split at q
      · exact .inl ⟨_, _, rfl, rfl, q⟩
      · exact .inr ⟨_, _, rfl, rfl, q⟩
      · exact q.elim)
end

/-! ### data without cells, instances and dicts as the library's data -/
mutual
def D.py : D → Option PyData
  | .non => some .none
  | .bl b => some (.bool b)
  | .int i => some (.int i)
  | .str s => some (.str s)
  | .lst ds => (pyAll ds).map .list
  | .tup ds => (pyAll ds).map .tuple
  | _ => none
def pyAll : List D → Option (List PyData)
  | [] => some []
  | d :: ds => match d.py, pyAll ds with | some p, some ps => some (p :: ps) | _, _ => none
end
def pyS (μ : Sto) : D → Option PyData
  | .cell n => match μ[n]? with | some (.lst ds) => (pyAll ds).map .list | _ => none
  | d => d.py
theorem pyAll_cons {d : D} {ds : List D} {ps : List PyData} (h : pyAll (d :: ds) = some ps) : ∃ p qs, d.py = some p ∧ pyAll ds = some qs ∧ ps = p :: qs := by
  unfold pyAll at h
  split at h
  · rename_i e1 e2
    exact ⟨_, _, e1, e2, (Option.some.inj h).symm⟩
  · cases h
section
variable {K : PySem.W.Frag} {ι : Io} {H : Hp} {μ : Sto}
mutual
theorem dp_of : ∀ {d : D} {v : V} {p : PyData}, At K ι H v d → d.py = some p → Dp K H v p
  | .non, _, _, a, h => by cases a; unfold D.py at h; cases Option.some.inj h; exact .non
  | .bl b, _, _, a, h => by cases a; unfold D.py at h; cases Option.some.inj h; exact .bl b
  | .int i, _, _, a, h => by cases a; unfold D.py at h; cases Option.some.inj h; exact .int i
  | .str s, _, _, a, h => by cases a; unfold D.py at h; cases Option.some.inj h; exact .str s
  | .lst ds, _, _, a, h => by
    unfold D.py at h
    obtain ⟨ps, e, rfl⟩ := Option.map_eq_some_iff.mp h
    cases a with
    | lst h1 n l q => exact .lst (SqL.of h1) (dpAll_of ⟨l, q⟩ e)
  | .tup ds, _, _, a, h => by
    unfold D.py at h
    obtain ⟨ps, e, rfl⟩ := Option.map_eq_some_iff.mp h
    cases a with
    | tup h1 n l q => exact .tup (.inl h1) (dpAll_of ⟨l, q⟩ e)
    | ktup h1 l q => exact .tup (h1 H) (dpAll_of ⟨l, q⟩ e)
  | .dct _, _, _, _, h => by unfold D.py at h; cases h
  | .ins _ _, _, _, _, h => by unfold D.py at h; cases h
  | .cell _, _, _, _, h => by unfold D.py at h; cases h
  | .ref _, _, _, _, h => by unfold D.py at h; cases h
  | .fzl _, _, _, _, h => by unfold D.py at h; cases h
  | .ty _, _, _, _, h => by unfold D.py at h; cases h
theorem dpAll_of : ∀ {ds : List D} {vs : List V} {ps : List PyData}, Ats K ι H vs ds → pyAll ds = some ps → DpAll K H vs ps
  | [], vs, ps, a, h => by
    unfold pyAll at h
    cases Option.some.inj h
    cases Ats.unnil a
    exact .nil
  | d :: ds, vs, ps, a, h => by
    obtain ⟨p, qs, e1, e2, rfl⟩ := pyAll_cons h
    obtain ⟨v, vs', rfl, a1, a2⟩ := a.uncons
    exact .cons (dp_of a1 e1) (dpAll_of a2 e2)
end
theorem dpS_of {d : D} {v : V} {p : PyData} (r : Rep K ι μ H) (a : At K ι H v d) (h : pyS μ d = some p) : Dp K H v p := by
  cases d with
  | cell n =>
    cases a with
    | cell hn =>
      simp only [pyS] at h
      split at h
      · rename_i e
        obtain ⟨ps, e2, rfl⟩ := Option.map_eq_some_iff.mp h
        obtain ⟨vs, h1, h2⟩ := r.at_ n _ _ hn e
        exact .lst (SqL.of h1) (dpAll_of h2 e2)
      · cases h
  | _ => exact dp_of a h
end
section
variable {X : Cx}
theorem opd_eqP (hu : X.A.units + 64 < cLine) : OpD X (compareOp .Eq) (fun x y μ Q => ∃ p q, pyS μ x = some p ∧ pyS μ y = some q ∧ SeqAt.shaped p = true ∧ SeqAt.shaped q = true ∧ Q (.bl (PyData.eqv p q)) μ) :=
  ⟨fun x y μ Q Q' h ⟨p, q, e1, e2, c1, c2, z⟩ => ⟨p, q, e1, e2, c1, c2, h _ _ z⟩, _, op_eqD hu, fun ι H μ x y dx dy Q r a b ⟨p, q, e1, e2, c1, c2, z⟩ =>
    ⟨p, q, dpS_of r a e1, dpS_of r b e2, c1, c2, z ι H _ (Gr.refl _ _) r (.bl _)⟩⟩
theorem opd_neP (hu : X.A.units + 64 < cLine) : OpD X (compareOp .NotEq) (fun x y μ Q => ∃ p q, pyS μ x = some p ∧ pyS μ y = some q ∧ SeqAt.shaped p = true ∧ SeqAt.shaped q = true ∧ Q (.bl (!PyData.eqv p q)) μ) :=
  ⟨fun x y μ Q Q' h ⟨p, q, e1, e2, c1, c2, z⟩ => ⟨p, q, e1, e2, c1, c2, h _ _ z⟩, _, op_neD hu, fun ι H μ x y dx dy Q r a b ⟨p, q, e1, e2, c1, c2, z⟩ =>
    ⟨p, q, dpS_of r a e1, dpS_of r b e2, c1, c2, z ι H _ (Gr.refl _ _) r (.bl _)⟩⟩
theorem opd_eqs : OpD X (compareOp .Eq) (fun x y μ Q => (∃ i j, x = .int i ∧ y = .int j ∧ Q (.bl (decide (i = j))) μ) ∨ (∃ i j, x = .str i ∧ y = .str j ∧ Q (.bl (decide (i = j))) μ) ∨ (∃ i j, x = .bl i ∧ y = .bl j ∧ Q (.bl (decide (i = j))) μ)) :=
  ⟨fun x y μ Q Q' h q => q.imp (fun ⟨i, j, e1, e2, q⟩ => ⟨i, j, e1, e2, h _ _ q⟩) (fun q => q.imp (fun ⟨i, j, e1, e2, q⟩ => ⟨i, j, e1, e2, h _ _ q⟩) fun ⟨i, j, e1, e2, q⟩ => ⟨i, j, e1, e2, h _ _ q⟩), _, op_eq,
    fun ι H μ x y dx dy Q r a b q => by
      rcases q with ⟨i, j, rfl, rfl, q⟩ | ⟨i, j, rfl, rfl, q⟩ | ⟨i, j, rfl, rfl, q⟩ <;> cases a <;> cases b
      · exact ⟨rfl, by have z := q ι H _ (Gr.refl _ _) r (.bl _); rwa [show decide (V.int i = V.int j) = decide (i = j) from decide_eq_decide.mpr ⟨fun e => V.int.inj e, fun e => by rw [e]⟩]⟩
      · exact ⟨rfl, by have z := q ι H _ (Gr.refl _ _) r (.bl _); rwa [show decide (V.str i = V.str j) = decide (i = j) from decide_eq_decide.mpr ⟨fun e => V.str.inj e, fun e => by rw [e]⟩]⟩
      · exact ⟨rfl, by have z := q ι H _ (Gr.refl _ _) r (.bl _); rwa [show decide (V.bl i = V.bl j) = decide (i = j) from decide_eq_decide.mpr ⟨fun e => V.bl.inj e, fun e => by rw [e]⟩]⟩⟩
end
end Dl

namespace Dl
open PySem PySem.Spec L2
open PyProof.Rows hiding St Binds

/-! ### cells below n alone -/
mutual
def D.bd (n : Nat) : D → Bool
  | .lst ds => bdL n ds
  | .tup ds => bdL n ds
  | .dct kd => bdK n kd
  | .ins _ fd => bdF n fd
  | .cell m => decide (m < n)
  | .fzl ds => bdL n ds
  | _ => true
def bdL (n : Nat) : List D → Bool
  | [] => true
  | d :: ds => d.bd n && bdL n ds
def bdK (n : Nat) : List (Key × D) → Bool
  | [] => true
  | (_, d) :: ds => d.bd n && bdK n ds
def bdF (n : Nat) : List (Str × D) → Bool
  | [] => true
  | (_, d) :: ds => d.bd n && bdF n ds
end
def CT.bd (n : Nat) : CT → Bool
  | .lst ds => bdL n ds
  | .dct kd => bdK n kd
  | .lck _ _ kd => bdK n kd
  | .ins _ fd => bdF n fd
def bdS (n : Nat) (μ : Sto) : Bool := μ.all (CT.bd n)
section
variable {n : Nat}
theorem bdL_get : ∀ {ds : List D} {i : Nat} {d : D}, bdL n ds = true → ds[i]? = some d → d.bd n = true
  | [], _, _, _, h => by simp at h
  | d :: ds, 0, e, b, h => by simp at h; subst h; unfold bdL at b; exact (Bool.and_eq_true_iff.mp b).1
  | d :: ds, i + 1, e, b, h => by unfold bdL at b; exact bdL_get (i := i) (Bool.and_eq_true_iff.mp b).2 (by simpa using h)
theorem bdK_get : ∀ {ds : List (Key × D)} {i : Nat} {p : Key × D}, bdK n ds = true → ds[i]? = some p → p.2.bd n = true
  | [], _, _, _, h => by simp at h
  | (k, d) :: ds, 0, e, b, h => by simp at h; subst h; unfold bdK at b; exact (Bool.and_eq_true_iff.mp b).1
  | (k, d) :: ds, i + 1, e, b, h => by unfold bdK at b; exact bdK_get (i := i) (Bool.and_eq_true_iff.mp b).2 (by simpa using h)
theorem bdF_get : ∀ {ds : List (Str × D)} {i : Nat} {p : Str × D}, bdF n ds = true → ds[i]? = some p → p.2.bd n = true
  | [], _, _, _, h => by simp at h
  | (k, d) :: ds, 0, e, b, h => by simp at h; subst h; unfold bdF at b; exact (Bool.and_eq_true_iff.mp b).1
  | (k, d) :: ds, i + 1, e, b, h => by unfold bdF at b; exact bdF_get (i := i) (Bool.and_eq_true_iff.mp b).2 (by simpa using h)
end
section
variable {K : PySem.W.Frag} {ι ext : Io} {H H' : Hp} {μ : Sto} {v : V} {d : D}
theorem At.trunc (a : At K (ι ++ ext) H v d) (b : d.bd ι.length = true) : At K ι H v d := by
  have nn : ∀ {x : Addr}, x ∉ ι ++ ext → x ∉ ι := fun h z => h (List.mem_append_left _ z)
  induction a with
  | non => exact .non
  | bl c => exact .bl c
  | int i => exact .int i
  | str s => exact .str s
  | lst h n l _ ih => unfold D.bd at b; exact .lst h (nn n) l fun i v d e1 e2 => ih i v d e1 e2 (bdL_get b e2)
  | tup h n l _ ih => unfold D.bd at b; exact .tup h (nn n) l fun i v d e1 e2 => ih i v d e1 e2 (bdL_get b e2)
  | ktup h l _ ih => unfold D.bd at b; exact .ktup h l fun i v d e1 e2 => ih i v d e1 e2 (bdL_get b e2)
  | dct h n l _ ih => unfold D.bd at b; exact .dct h (nn n) l fun i p q e1 e2 => ih i p q e1 e2 (bdK_get b e2)
  | ins h n l _ ih => unfold D.bd at b; exact .ins h (nn n) l fun i p q e1 e2 => ih i p q e1 e2 (bdF_get b e2)
  | @cell a n h =>
    unfold D.bd at b
    have hn : n < ι.length := of_decide_eq_true b
    exact .cell (by rw [List.getElem?_append_left hn] at h; exact h)
  | ref a => exact .ref a
  | ty n => exact .ty n
  | fzl h l _ ih => unfold D.bd at b; exact .fzl (h.imp (fun ⟨o, e, n⟩ => ⟨o, e, nn n⟩) id) l fun i v d e1 e2 => ih i v d e1 e2 (bdL_get b e2)
theorem CAt.trunc {a : Addr} {c : CT} (h : CAt K (ι ++ ext) H a c) (b : c.bd ι.length = true) : CAt K ι H a c := by
  cases c with
  | lst ds => obtain ⟨vs, h1, h2⟩ := h; exact ⟨vs, h1, h2.1, fun i v d e1 e2 => (h2.2 i v d e1 e2).trunc (bdL_get b e2)⟩
  | dct kd => obtain ⟨vs, h1, h2⟩ := h; exact ⟨vs, h1, h2.1, fun i v d e1 e2 => (h2.2 i v d e1 e2).trunc (bdK_get b e2)⟩
  | lck ob kv kd => exact ⟨h.1, h.2.1, fun i v d e1 e2 => (h.2.2 i v d e1 e2).trunc (bdK_get b e2)⟩
  | ins C fd => obtain ⟨dx, vs, h1, h2⟩ := h; exact ⟨dx, vs, h1, h2.1, fun i v d e1 e2 => (h2.2 i v d e1 e2).trunc (bdF_get b e2)⟩
theorem Rep.trunc {μx : Sto} (r : Rep K (ι ++ ext) (μ ++ μx) H) (l : ι.length = μ.length) (b : bdS μ.length μ = true) : Rep K ι μ H := by
  refine ⟨l, (List.nodup_append.mp r.nd).1, fun n a c e1 e2 => ?_⟩
  have h1 : (ι ++ ext)[n]? = some a := by rw [List.getElem?_append_left (List.getElem?_eq_some_iff.mp e1).1]; exact e1
  have h2 : (μ ++ μx)[n]? = some c := by rw [List.getElem?_append_left (List.getElem?_eq_some_iff.mp e2).1]; exact e2
  refine (r.at_ n a c h1 h2).trunc ?_
  rw [l]
  exact List.all_eq_true.mp b c (List.mem_of_getElem? e2)
theorem Gr.trunc {ι0 : Io} {H0 : Hp} (g : Gr ι0 H0 (ι ++ ext) H) (l : ι0.length ≤ ι.length) : Gr ι0 H0 ι H :=
  ⟨fun n a e => by
    have h := g.pre n a e
    rwa [List.getElem?_append_left (Nat.lt_of_lt_of_le (List.getElem?_eq_some_iff.mp e).1 l)] at h, fun a o e n => ⟨(g.keep a o e n).1, fun z => (g.keep a o e n).2 (List.mem_append_left _ z)⟩⟩
end
theorem Gr.len_le {ι ι' : Io} {H H' : Hp} (g : Gr ι H ι' H') : ι.length ≤ ι'.length := by
  cases e : ι.length with
  | zero => exact Nat.zero_le _
  | succ n =>
    have hn : n < ι.length := by omega
    have h2 := g.pre n _ (List.getElem?_eq_getElem hn)
    have := (List.getElem?_eq_some_iff.mp h2).1
    omega
/-- (d, μ) may be given out as (d', μ'): the newest cells are forgotten, or become data; n cells stand before -/
inductive Fz (n : Nat) : D → Sto → D → Sto → Prop
  | refl {d μ} : Fz n d μ d μ
  | drop {d μ μx d' μ'} (l : n ≤ μ.length) (b : d.bd μ.length = true) (bs : bdS μ.length μ = true) (r : Fz n d μ d' μ') : Fz n d (μ ++ μx) d' μ'
  | lst {ds μ d' μ'} (l : n ≤ μ.length) (b : bdL μ.length ds = true) (bs : bdS μ.length μ = true) (r : Fz n (.lst ds) μ d' μ') : Fz n (.cell μ.length) (μ ++ [.lst ds]) d' μ'
  | dct {kd μ d' μ'} (l : n ≤ μ.length) (b : bdK μ.length kd = true) (bs : bdS μ.length μ = true) (r : Fz n (.dct kd) μ d' μ') : Fz n (.cell μ.length) (μ ++ [.dct kd]) d' μ'
  | ins {C fd μ d' μ'} (l : n ≤ μ.length) (b : bdF μ.length fd = true) (bs : bdS μ.length μ = true) (r : Fz n (.ins C fd) μ d' μ') : Fz n (.cell μ.length) (μ ++ [.ins C fd]) d' μ'
  | tup2 {k1 k2 μ d' μ'} (l : n ≤ μ.length) (b1 : bdK μ.length k1 = true) (b2 : bdK μ.length k2 = true) (bs : bdS μ.length μ = true) (r : Fz n (.tup [.dct k1, .dct k2]) μ d' μ') : Fz n (.tup [.cell μ.length, .cell (μ.length + 1)]) (μ ++ [.dct k1, .dct k2]) d' μ'
theorem split_io {K : PySem.W.Frag} {ι : Io} {H : Hp} {μ μx : Sto} (r : Rep K ι (μ ++ μx) H) : ∃ ι0 ext, ι = ι0 ++ ext ∧ ι0.length = μ.length ∧ ext.length = μx.length := by
  have h := r.len
  rw [List.length_append] at h
  exact ⟨ι.take μ.length, ι.drop μ.length, (List.take_append_drop _ _).symm, by rw [List.length_take]; omega, by rw [List.length_drop]; omega⟩
theorem Fz.sound {K : PySem.W.Frag} {n : Nat} {d d' : D} {μ μ' : Sto} (z : Fz n d μ d' μ') : ∀ {ι0 : Io} {H0 : Hp} {ι : Io} {H : Hp} {v : V}, ι0.length = n → Rep K ι μ H → At K ι H v d → Gr ι0 H0 ι H →
    ∃ ι', Rep K ι' μ' H ∧ At K ι' H v d' ∧ Gr ι0 H0 ι' H := by
  induction z with
  | refl => intro ι0 H0 ι H v _ r a g; exact ⟨ι, r, a, g⟩
  | drop l b bs _ ih =>
    intro ι0 H0 ι H v h0 r a g
    obtain ⟨ι1, ext, rfl, l1, _⟩ := split_io r
    exact ih h0 (r.trunc l1 bs) (a.trunc (by rw [l1]; exact b)) (g.trunc (by rw [h0, l1]; exact l))
  | @lst ds μ d' μ' l b bs _ ih =>
    intro ι0 H0 ι H v h0 r a g
    obtain ⟨ι1, ext, rfl, l1, l2⟩ := split_io r
    obtain ⟨p, rfl⟩ : ∃ p, ext = [p] := List.length_eq_one_iff.mp l2
    have hp : (ι1 ++ [p])[μ.length]? = some p := by rw [List.getElem?_append_right (by rw [l1]; exact Nat.le_refl _), l1, Nat.sub_self]; rfl
    cases a with
    | cell hc =>
      rw [hp] at hc; cases hc
      obtain ⟨vs, e1, e2⟩ := r.at_ _ _ (.lst ds) hp (by rw [List.getElem?_append_right (Nat.le_refl _), Nat.sub_self]; rfl)
      have nin : p ∉ ι1 := fun z => (List.nodup_append.mp r.nd).2.2 p z p (by simp) rfl
      exact ih h0 (r.trunc l1 bs) (.lst e1 nin e2.1 fun i v d q1 q2 => (e2.2 i v d q1 q2).trunc (by rw [l1]; exact bdL_get b q2)) (g.trunc (by rw [h0, l1]; exact l))
  | @dct ds μ d' μ' l b bs _ ih =>
    intro ι0 H0 ι H v h0 r a g
    obtain ⟨ι1, ext, rfl, l1, l2⟩ := split_io r
    obtain ⟨p, rfl⟩ : ∃ p, ext = [p] := List.length_eq_one_iff.mp l2
    have hp : (ι1 ++ [p])[μ.length]? = some p := by rw [List.getElem?_append_right (by rw [l1]; exact Nat.le_refl _), l1, Nat.sub_self]; rfl
    cases a with
    | cell hc =>
      rw [hp] at hc; cases hc
      obtain ⟨vs, e1, e2⟩ := r.at_ _ _ (.dct ds) hp (by rw [List.getElem?_append_right (Nat.le_refl _), Nat.sub_self]; rfl)
      have nin : p ∉ ι1 := fun z => (List.nodup_append.mp r.nd).2.2 p z p (by simp) rfl
      exact ih h0 (r.trunc l1 bs) (.dct (.inl e1) nin e2.1 fun i v d q1 q2 => (e2.2 i v d q1 q2).trunc (by rw [l1]; exact bdK_get b q2)) (g.trunc (by rw [h0, l1]; exact l))
  | @ins C ds μ d' μ' l b bs _ ih =>
    intro ι0 H0 ι H v h0 r a g
    obtain ⟨ι1, ext, rfl, l1, l2⟩ := split_io r
    obtain ⟨p, rfl⟩ : ∃ p, ext = [p] := List.length_eq_one_iff.mp l2
    have hp : (ι1 ++ [p])[μ.length]? = some p := by rw [List.getElem?_append_right (by rw [l1]; exact Nat.le_refl _), l1, Nat.sub_self]; rfl
    cases a with
    | cell hc =>
      rw [hp] at hc; cases hc
      obtain ⟨dx, vs, e1, e2⟩ := r.at_ _ _ (.ins C ds) hp (by rw [List.getElem?_append_right (Nat.le_refl _), Nat.sub_self]; rfl)
      have nin : p ∉ ι1 := fun z => (List.nodup_append.mp r.nd).2.2 p z p (by simp) rfl
      exact ih h0 (r.trunc l1 bs) (.ins e1 nin e2.1 fun i v d q1 q2 => (e2.2 i v d q1 q2).trunc (by rw [l1]; exact bdF_get b q2)) (g.trunc (by rw [h0, l1]; exact l))
  | @tup2 k1 k2 μ d' μ' l b1 b2 bs _ ih =>
    intro ι0 H0 ι H v h0 r a g
    obtain ⟨ι1, ext, rfl, l1, l2⟩ := split_io r
    obtain ⟨p, q, rfl⟩ : ∃ p q, ext = [p, q] := match ext, l2 with | [p, q], _ => ⟨p, q, rfl⟩
    have hp : (ι1 ++ [p, q])[μ.length]? = some p := by rw [List.getElem?_append_right (by rw [l1]; exact Nat.le_refl _), l1, Nat.sub_self]; rfl
    have hq : (ι1 ++ [p, q])[μ.length + 1]? = some q := by rw [List.getElem?_append_right (by omega), l1, show μ.length + 1 - μ.length = 1 by omega]; rfl
    obtain ⟨v1, e1, a1⟩ := r.at_ _ _ (.dct k1) hp (by rw [List.getElem?_append_right (Nat.le_refl _), Nat.sub_self]; rfl)
    obtain ⟨v2, e2, a2⟩ := r.at_ _ _ (.dct k2) hq (by rw [List.getElem?_append_right (by omega), show μ.length + 1 - μ.length = 1 by omega]; rfl)
    have np : p ∉ ι1 := fun z => (List.nodup_append.mp r.nd).2.2 p z p (by simp) rfl
    have nq : q ∉ ι1 := fun z => (List.nodup_append.mp r.nd).2.2 q z q (by simp) rfl
    have d1 : At K ι1 H (.ref p) (.dct k1) := .dct (.inl e1) np a1.1 fun i v d q1 q2 => (a1.2 i v d q1 q2).trunc (by rw [l1]; exact bdK_get b1 q2)
    have d2 : At K ι1 H (.ref q) (.dct k2) := .dct (.inl e2) nq a2.1 fun i v d q1 q2 => (a2.2 i v d q1 q2).trunc (by rw [l1]; exact bdK_get b2 q2)
    have parts : ∀ {vs : List V}, (∀ (i : Nat) (v : V) (d : D), vs[i]? = some v → [D.cell μ.length, .cell (μ.length + 1)][i]? = some d → At K (ι1 ++ [p, q]) H v d) → ∀ (i : Nat) (v : V) (d : D), vs[i]? = some v → [D.dct k1, .dct k2][i]? = some d → At K ι1 H v d := by
      intro vs hr i v d q1 q2
      match i, q2 with
      | 0, q2 =>
        cases Option.some.inj q2
        cases hr 0 v _ q1 rfl with
        | cell hc => rw [hp] at hc; cases hc; exact d1
      | 1, q2 =>
        cases Option.some.inj q2
        cases hr 1 v _ q1 rfl with
        | cell hc => rw [hq] at hc; cases hc; exact d2
    have g' := g.trunc (by rw [h0, l1]; exact l)
    cases a with
    | tup h n lv hr => exact ih h0 (r.trunc l1 bs) (.tup h (fun z => n (List.mem_append_left _ z)) lv (parts hr)) g'
    | ktup h lv hr => exact ih h0 (r.trunc l1 bs) (.ktup h lv (parts hr)) g'

/-! ### promises over data -/
abbrev XD := Value → List (Str × D) → Sto → Prop
abbrev FD := List D → Sto → QD → XD → Prop
def MonF (F : FD) : Prop := ∀ ds μ (Q Q' : QD) (E E' : XD), (∀ d m, Q d m → Q' d m) → (∀ c l m, E c l m → E' c l m) → F ds μ Q E → F ds μ Q' E'
def spD (K : PySem.W.Frag) (F : FD) : Sp := fun vs H Q E => ∃ ι μ ds, Rep K ι μ H ∧ Ats K ι H vs ds ∧ F ds μ (QV K ι H Q) (XV K ι H E)
/-- a def under a name -/
structure Cal (P : Program) (w : World) (K : PySem.W.Frag) (mg : Str → Option Value) (base : Heap) (k : Nat) (x : Str) (F : FD) (dds : List D) : Prop where
  mono : MonF F
  ex : ∃ (f : Addr) (fd : FuncData) (ps : List Str) (dvs : List V) (ds : List Value), FnG P w K mg base (L2.CX P w) k f fd ps (spD K F) ∧ mg x = some (.ref f) ∧ PySem.W.keepIn K (.ref f) = true ∧
    L2.Binds K fd ps ds ∧ Vals dvs ds ∧ ∀ ι H, Ats K ι H dvs dds
/-- a class with its __init__ -/
structure Mak (P : Program) (w : World) (K : PySem.W.Frag) (mg : Str → Option Value) (base : Heap) (k : Nat) (x : Str) (C : Addr) (F : FD) (dds : List D) : Prop where
  mono : MonF F
  ex : ∃ (f : Addr) (fd : FuncData) (ps : List Str) (dvs : List V) (ds : List Value), FnG P w K mg base (L2.CX P w) k f fd ps (spD K F) ∧ mg x = some (.ref C) ∧ Mk K C f ∧
    L2.Binds K fd ps ds ∧ Vals dvs ds ∧ ∀ ι H, Ats K ι H dvs dds
/-- a method -/
structure Met (P : Program) (w : World) (K : PySem.W.Frag) (mg : Str → Option Value) (base : Heap) (k : Nat) (C : Addr) (m : Str) (F : FD) (dds : List D) : Prop where
  mono : MonF F
  cls : Cls K C
  ex : ∃ (f : Addr) (fd : FuncData) (ps : List Str) (dvs : List V) (ds : List Value), FnG P w K mg base (L2.CX P w) k f fd ps (spD K F) ∧ Meth K C m f ∧
    L2.Binds K fd ps ds ∧ Vals dvs ds ∧ ∀ ι H, Ats K ι H dvs dds
abbrev CalX (X : Cx) := Cal X.prog X.w X.K X.mg X.base
abbrev MakX (X : Cx) := Mak X.prog X.w X.K X.mg X.base
abbrev MetX (X : Cx) := Met X.prog X.w X.K X.mg X.base

def asI (μ : Sto) : D → Option (Addr × List (Str × D))
  | .ins C fd => some (C, fd)
  | .cell n => match μ[n]? with | some (.ins C fd) => some (C, fd) | _ => none
  | _ => none
theorem asI_at {K : PySem.W.Frag} {ι : Io} {H : Hp} {μ : Sto} {v : V} {d : D} {C : Addr} {fd : List (Str × D)} (r : Rep K ι μ H) (a : At K ι H v d) (h : asI μ d = some (C, fd)) :
    ∃ p dx fv, v = .ref p ∧ H p = some (.ins C dx fv) ∧ Pts K ι H fv fd := by
  cases a with
  | ins h1 n l q => cases Option.some.inj h; exact ⟨_, _, _, rfl, h1, l, q⟩
  | @cell p n hn =>
    simp only [asI] at h
    split at h
    · rename_i e
      cases Option.some.inj h
      obtain ⟨dx, fv, h1, h2⟩ := r.at_ n p _ hn e
      exact ⟨p, dx, fv, rfl, h1, h2⟩
    · cases h
  | _ => cases h
theorem lookup_keys {β γ : Type} : ∀ {l : List (Str × β)} {m : List (Str × γ)} {f : Str}, l.map (·.1) = m.map (·.1) → (l.lookup f).isSome = (m.lookup f).isSome
  | [], [], _, _ => rfl
  | [], _ :: _, _, h => by simp at h
  | _ :: _, [], _, h => by simp at h
  | (k, b) :: l, (k', c) :: m, f, h => by
    simp only [List.map_cons, List.cons.injEq] at h
    obtain ⟨h1, h2⟩ := h
    have h1 : k = k' := h1
    subst h1
    rw [List.lookup_cons, List.lookup_cons]
    cases e : f == k with
    | true => rfl
    | false => exact lookup_keys h2
theorem Pts.none {K : PySem.W.Frag} {ι : Io} {H : Hp} {fv : List (Str × V)} {fd : List (Str × D)} (p : Pts K ι H fv fd) {f : Str} (h : fd.lookup f = none) : fv.lookup f = none := by
  have q := lookup_keys (f := f) p.1
  rw [h] at q
  cases e : fv.lookup f with
  | none => rfl
  | some _ => rw [e] at q; simp at q
theorem Pts.uncons {κ : Type} {K : PySem.W.Frag} {ι : Io} {H : Hp} {k : κ} {d : D} {fv : List (κ × V)} {fd : List (κ × D)} (p : Pts K ι H fv ((k, d) :: fd)) : ∃ v fv', fv = (k, v) :: fv' ∧ At K ι H v d ∧ Pts K ι H fv' fd := by
  cases fv with
  | nil => have := p.1; simp at this
  | cons x fv' =>
    obtain ⟨k', v⟩ := x
    have h := p.1
    simp only [List.map_cons, List.cons.injEq] at h
    obtain ⟨h1, h2⟩ := h
    have h1 : k' = k := h1
    subst h1
    exact ⟨v, fv', rfl, p.2 0 _ _ rfl rfl, h2, fun i p' q e1 e2 => p.2 (i + 1) p' q e1 e2⟩
theorem Pts.nil {κ : Type} {K : PySem.W.Frag} {ι : Io} {H : Hp} : Pts (κ := κ) K ι H [] [] := ⟨rfl, fun i p q h _ => by simp at h⟩
theorem Pts.cons {κ : Type} {K : PySem.W.Frag} {ι : Io} {H : Hp} {k : κ} {v : V} {d : D} {fv : List (κ × V)} {fd : List (κ × D)} (a : At K ι H v d) (p : Pts K ι H fv fd) : Pts K ι H ((k, v) :: fv) ((k, d) :: fd) := by
  refine ⟨by simp [p.1], fun i x y h1 h2 => ?_⟩
  cases i with
  | zero => cases Option.some.inj h1; cases Option.some.inj h2; exact a
  | succ i => exact p.2 i x y h1 h2
theorem Pts.lookup {K : PySem.W.Frag} {ι : Io} {H : Hp} {f : Str} : ∀ {fv : List (Str × V)} {fd : List (Str × D)} {d : D}, Pts K ι H fv fd → fd.lookup f = some d → ∃ v, fv.lookup f = some v ∧ At K ι H v d
  | fv, [], d, _, h => by simp at h
  | fv, (k, e) :: fd, d, p, h => by
    obtain ⟨v, fv', rfl, a, p'⟩ := p.uncons
    rw [List.lookup_cons] at h ⊢
    cases q : f == k with
    | true => rw [q] at h; cases Option.some.inj h; exact ⟨v, rfl, a⟩
    | false => rw [q] at h; exact Pts.lookup p' h

section
variable {X : Cx} {W : WX} {a b c e o : Expr} {es : List Expr} {fa fb fc f fo : FE} {fl : FA} {pos p apos : Pos} {K : PySem.W.Frag} {ι : Io} {H : Hp} {σ : L2.St} {ρ : Rho} {μ : Sto} {x m fn : Str} {F : FD} {dds : List D} {j k : Nat} {C : Addr}

def fCall (F : FD) (dds : List D) (g : FA) : FE := fun ρ μ Q E => g ρ μ (fun ds m => F (ds ++ dds) m Q (fun c l m' => E c l ρ m')) E
theorem mCall (mF : MonF F) (m : MonA fl) : MonE (fCall F dds fl) := fun ρ μ Q Q' E E' h he q =>
  m ρ μ _ _ E E' (fun ds mm z => mF _ mm Q Q' _ _ h (fun c l m' w => he c l m' w) z) he q
theorem rdCall {dvs : List V} (mF : MonF F) (mg : MonA fl) (hd : ∀ ι H, Ats K ι H dvs dds) {Q : VK} (h : rdE K W (fCall F dds fl) σ H Q) :
    gCall (spD K F) dvs (WE W) (rdA K W fl) σ H Q := by
  obtain ⟨ι, ρ, μ, rp, l, q⟩ := h
  refine chainA mg rp l q fun ds μ1 ι1 H1 vs q1 g1 r1 l1 a1 => ?_
  exact ⟨ι1, μ1, ds ++ dds, r1, a1.app (hd ι1 H1), mF _ μ1 _ _ _ _ (fun d m z => QV.gr g1 z) (fun c l m z => EW.gr (ρ := ρ) (ρ' := ρ) g1 z) q1⟩
theorem de_call (c : CalX X k x F dds) (hG : X.A.guards = some []) (hr : Room j X.A) (hk : k ≤ j) (hg : Gl X x) (tk : Takes X W) (ha : DA X W (e :: es) fl)
    (hdb : (x == ("__debug__" : Str)) = false := by decide) (he : starEach (e :: es) X.env = (false, eval e X.env) :: starEach es X.env := by rfl)
    (hpl : (backTo pos (starEach es X.env)).any (·.1) = false := by rfl) : DE X W (.Call (.Name x p) (e :: es) [] pos) (fCall F dds fl) := by
  obtain ⟨f, fd, ps, dvs, ds, Fg, hm, hkp, hb, hv, hd⟩ := c.ex
  exact ⟨mCall c.mono ha.mono, PE.imp (ge_call hG Fg (hr.mono hk) hg hm hkp hb hv (passAt tk) ha.run hdb he hpl) fun σ H Q h => rdCall c.mono ha.mono hd h⟩
/-- a new instance, given out as it stands or as data -/
def gMade (n : Nat) (Q : QD) : QD := fun d μ' => d = .non ∧ ∃ d2 μ2, Fz n (.cell n) μ' d2 μ2 ∧ Q d2 μ2
def fMake (C : Addr) (F : FD) (dds : List D) (g : FA) : FE := fun ρ μ Q E => g ρ μ (fun ds m => F (.cell m.length :: (ds ++ dds)) (m ++ [.ins C []]) (gMade m.length Q)
  (fun c l m' => ∃ m2 mx, m' = m2 ++ mx ∧ m.length ≤ m2.length ∧ bdF m2.length l = true ∧ bdS m2.length m2 = true ∧ E c l ρ m2)) E
theorem gMade_mono {n : Nat} {Q Q' : QD} (h : ∀ d m, Q d m → Q' d m) : ∀ d m, gMade n Q d m → gMade n Q' d m := fun d m ⟨e, d2, μ2, z, q⟩ => ⟨e, d2, μ2, z, h _ _ q⟩
theorem mMake (mF : MonF F) (m : MonA fl) : MonE (fMake C F dds fl) := fun ρ μ Q Q' E E' h he q =>
  m ρ μ _ _ E E' (fun ds mm z => mF _ _ _ _ _ _ (gMade_mono h) (fun c l m' ⟨m2, mx, e, ll, b1, b2, w⟩ => ⟨m2, mx, e, ll, b1, b2, he c l m2 w⟩) z) he q
theorem XV.trunc {W : Value → Option Addr → Hp → Prop} {ι0 ι : Io} {H0 H : Hp} {c : Value} {l : List (Str × D)} {m2 mx : Sto} (g : Gr ι0 H0 ι H) (ll : ι0.length ≤ m2.length) (b1 : bdF m2.length l = true) (b2 : bdS m2.length m2 = true)
    (h : XV K ι0 H0 W c l m2) : XV K ι H W c l (m2 ++ mx) := fun ι' H' dd fv g' r a p => by
  obtain ⟨ι1, ext, rfl, l1, _⟩ := split_io r
  exact h ι1 H' dd fv ((g.trans g').trunc (by rw [l1]; exact ll)) (r.trunc l1 b2) a ⟨p.1, fun i x y e1 e2 => (p.2 i x y e1 e2).trunc (by rw [l1]; exact bdF_get b1 e2)⟩
theorem rdMake {dvs : List V} (mF : MonF F) (mg : MonA fl) (hd : ∀ ι H, Ats K ι H dvs dds) {Q : VK} (h : rdE K W (fMake C F dds fl) σ H Q) :
    gMake C (spD K F) dvs (WE W) (rdA K W fl) σ H Q := by
  obtain ⟨ι, ρ, μ, rp, l, q⟩ := h
  refine chainA mg rp l q fun ds μ1 ι1 H1 vs q1 g1 r1 l1 a1 => ?_
  intro y dx hy hdx ne
  have r2 := r1.new (o := .own y) hdx
  have gd := Gr.new (o := .own y) hdx (r1.free hdx)
  have hy2 : upd H1 dx (.own y) y = none := by rw [upd_ne (Ne.symm ne)]; exact hy
  have g2 := Gr.cellNew (o := .ins C dx []) hy2 (r2.free hy2)
  have r3 := r2.cellNew (o := .ins C dx []) (c := .ins C []) hy2 ⟨dx, [], upd_same, Pts.nil⟩
  have at_ : At K (ι1 ++ [y]) (upd (upd H1 dx (.own y)) y (.ins C dx [])) (.ref y) (.cell μ1.length) := .cell (by rw [List.getElem?_append_right (by rw [r1.len]; exact Nat.le_refl _), r1.len, Nat.sub_self]; rfl)
  have gg := gd.trans g2
  refine ⟨_, _, .cell μ1.length :: (ds ++ dds), r3, Ats.cons at_ ((a1.gr gg).app (hd _ _)), mF _ _ _ _ _ _ (fun d m z => ?_) (fun c l m z => ?_) q1⟩
  · intro ι' H' v g' r' av
    obtain ⟨e, d2, μ2, fz, qq⟩ := z
    subst e
    cases av
    refine ⟨rfl, ?_⟩
    obtain ⟨ι2, s1, s2, s3⟩ := fz.sound (K := K) (ι0 := ι1) (H0 := H1) (ι := ι') (H := H') (v := .ref y) r1.len r' (at_.gr g') (gg.trans g')
    exact qq ι2 H' _ (g1.trans s3) s1 s2
  · obtain ⟨m2, mx, e, ll, b1, b2, w⟩ := z
    subst e
    exact XV.trunc (g1.trans gg) (by have e1 := r1.len; have e2 := g1.len_le; omega) b1 b2 w
theorem de_make (c : MakX X k x C F dds) (hG : X.A.guards = some []) (hr : Room j X.A) (hk : k + 1 ≤ j) (hg : Gl X x) (tk : Takes X W) (ha : DA X W (e :: es) fl)
    (hdb : (x == ("__debug__" : Str)) = false := by decide) (he : starEach (e :: es) X.env = (false, eval e X.env) :: starEach es X.env := by rfl)
    (hpl : (backTo pos (starEach es X.env)).any (·.1) = false := by rfl) : DE X W (.Call (.Name x p) (e :: es) [] pos) (fMake C F dds fl) := by
  obtain ⟨f, fd, ps, dvs, ds, Fg, hm, hM, hb, hv, hd⟩ := c.ex
  exact ⟨mMake c.mono ha.mono, PE.imp (ge_make hG hM Fg (hr.mono hk) hg hm hb hv (passAt tk) ha.run hdb he hpl) fun σ H Q h => rdMake c.mono ha.mono hd h⟩
/-- o.m(..) -/
def fMeth (C : Addr) (m : Str) (F : FD) (dds : List D) (fo : FE) (g : FA) : FE := fun ρ μ Q E => fo ρ μ (fun d m1 => ∃ fd, asI m1 d = some (C, fd) ∧ fd.lookup m = none ∧
  g ρ m1 (fun ds m2 => F (d :: (ds ++ dds)) m2 Q (fun c l m' => E c l ρ m')) E) E
theorem mMeth (mF : MonF F) (mo : MonE fo) (mg : MonA fl) : MonE (fMeth C m F dds fo fl) := fun ρ μ Q Q' E E' h he q =>
  mo ρ μ _ _ E E' (fun d m1 ⟨fd, e1, e2, z⟩ => ⟨fd, e1, e2, mg ρ m1 _ _ E E' (fun ds mm z => mF _ mm Q Q' _ _ h (fun c l m' w => he c l m' w) z) he z⟩) he q
theorem rdMeth {dvs : List V} (mF : MonF F) (mo : MonE fo) (mg : MonA fl) (hd : ∀ ι H, Ats K ι H dvs dds) {Q : VK} (h : rdE K W (fMeth C m F dds fo fl) σ H Q) :
    gMeth C m (spD K F) dvs (WE W) (rdE K W fo) (rdA K W fl) σ H Q := by
  obtain ⟨ι, ρ, μ, rp, l, q⟩ := h
  refine chain1 mo rp l q fun d μ1 ι1 H1 v q1 g1 r1 l1 a1 => ?_
  obtain ⟨fd, e1, e2, z⟩ := q1
  obtain ⟨a, dx, fv, rfl, ha, hp⟩ := asI_at r1 a1 e1
  refine ⟨a, dx, fv, rfl, ha, hp.none e2, ?_⟩
  refine chainA mg r1 l1 (mg ρ μ1 _ _ _ _ (fun _ _ z => z) (fun _ _ _ z => EW.gr g1 z) z) fun ds μ2 ι2 H2 vs q2 g2 r2 l2 a2 => ?_
  exact ⟨ι2, μ2, d :: (ds ++ dds), r2, Ats.cons (a1.gr g2) (a2.app (hd ι2 H2)), mF _ μ2 _ _ _ _ (fun d m z => QV.gr (g1.trans g2) z) (fun c l m z => EW.gr (ρ := ρ) (ρ' := ρ) (g1.trans g2) z) q2⟩
theorem de_meth {pl : Sem Bool} (c : MetX X k C m F dds) (hG : X.A.guards = some []) (hr : Room j X.A) (hk : k ≤ j) (tk : Takes X W) (ho : DE X W o fo) (ha : DA X W (e :: es) fl)
    (hst : starEach (e :: es) X.env = (false, eval e X.env) :: starEach es X.env := by rfl) (hpl : (backTo pos (starEach es X.env)).any (·.1) = false := by rfl)
    (ht : eval (.Call (.Attribute o m apos) (e :: es) [] pos) X.env = (eval o X.env >>= fun ov => standAt apos.atName >>= fun _ =>
      holding [ov] (getMethod ov m pl) >>= fun fm => callWith pos fm.1 fm.2 (backTo pos (starEach (e :: es) X.env)) (backToKw pos (keywordEach [] X.env))) := by rfl) :
    DE X W (.Call (.Attribute o m apos) (e :: es) [] pos) (fMeth C m F dds fo fl) := by
  obtain ⟨f, fd, ps, dvs, ds, Fg, hM, hb, hv, hd⟩ := c.ex
  exact ⟨mMeth c.mono ho.mono ha.mono, PE.imp (ge_meth hG ho.run c.cls hM Fg (hr.mono hk) hb hv (passAt tk) ha.run hst hpl ht) fun σ H Q h => rdMeth c.mono ho.mono ha.mono hd h⟩
theorem de_meth0 {pl : Sem Bool} (c : MetX X k C m F dds) (hG : X.A.guards = some []) (hr : Room j X.A) (hk : k ≤ j) (tk : Takes X W) (ho : DE X W o fo)
    (ht : eval (.Call (.Attribute o m apos) [] [] pos) X.env = (eval o X.env >>= fun ov => standAt apos.atName >>= fun _ =>
      holding [ov] (getMethod ov m pl) >>= fun fm => callWith pos fm.1 fm.2 (backTo pos (starEach [] X.env)) (backToKw pos (keywordEach [] X.env))) := by rfl) :
    DE X W (.Call (.Attribute o m apos) [] [] pos) (fMeth C m F dds fo fNil) := by
  obtain ⟨f, fd, ps, dvs, ds, Fg, hM, hb, hv, hd⟩ := c.ex
  refine ⟨mMeth c.mono ho.mono mNil, PE.imp (ge_meth0 hG ho.run c.cls hM Fg (hr.mono hk) hb hv (passAt tk) ht) fun σ H Q h => ?_⟩
  have z := rdMeth (dvs := dvs) c.mono ho.mono mNil hd h
  obtain ⟨ι, ρ, μ, rp, l, q⟩ := z
  refine ⟨ι, ρ, μ, rp, l, ho.mono ρ μ _ _ _ _ (fun d m1 z ι1 H1 v g1 r1 a1 => ?_) (fun _ _ _ z => z) q⟩
  obtain ⟨a, dx, fs, h1, h2, h3, ι2, ρ2, μ2, r2, l2, q2⟩ := z ι1 H1 v g1 r1 a1
  exact ⟨a, dx, fs, h1, h2, h3, q2 ι2 H1 [] (Gr.refl _ _) r2 Ats.nil⟩

/-- o.f -/
def fFld (fn : Str) (K : PySem.W.Frag) (fo : FE) : FE := fun ρ μ Q E => fo ρ μ (fun d m => ∃ C fd v, asI m d = some (C, fd) ∧ Cls K C ∧ NoAttr K C fn ∧ fd.lookup fn = some v ∧ Q v m) E
theorem mFld (mo : MonE fo) : MonE (fFld fn K fo) := fun ρ μ Q Q' E E' h he q => mo ρ μ _ _ E E' (fun d m ⟨C, fd, v, e1, e2, e3, e4, z⟩ => ⟨C, fd, v, e1, e2, e3, e4, h _ _ z⟩) he q
theorem de_fld {K : PySem.W.Frag} (ho : DE X W o fo) (hb : attributeBase o fn X.env (eval o X.env) = eval o X.env := by rfl) (hK : X.K = K := by rfl) : DE X W (.Attribute o fn pos) (fFld fn K fo) := by
  subst hK; exact
  ⟨mFld ho.mono, PE.imp (pe_fld ho.run hb) fun σ H Q ⟨ι, ρ, μ, rp, l, q⟩ => chain1 ho.mono rp l q fun d μ1 ι1 H1 v q1 g1 r1 l1 a1 => by
    obtain ⟨C, fd, w, e1, c, n, e4, z⟩ := q1
    obtain ⟨a, dx, fv, rfl, ha, hp⟩ := asI_at r1 a1 e1
    obtain ⟨u, h1, h2⟩ := hp.lookup e4
    exact ⟨a, C, dx, fv, u, rfl, ha, c, n, h1, z ι1 H1 u g1 r1 h2⟩⟩
end
end Dl

namespace Dl
open PySem PySem.Spec L2
open PyProof.Rows hiding St Binds

/-- what is wanted behind a statement -/
structure DK where
  nx : Rho → Sto → Prop
  rt : QD
  ex : ED
  bk : Rho → Sto → Prop := fun _ _ => False
  ct : Rho → Sto → Prop := fun _ _ => False
structure DK.le (A B : DK) : Prop where
  nx : ∀ ρ μ, A.nx ρ μ → B.nx ρ μ
  rt : ∀ d μ, A.rt d μ → B.rt d μ
  ex : ∀ c l ρ μ, A.ex c l ρ μ → B.ex c l ρ μ
  bk : ∀ ρ μ, A.bk ρ μ → B.bk ρ μ
  ct : ∀ ρ μ, A.ct ρ μ → B.ct ρ μ
abbrev FS := DK → Rho → Sto → Prop
def MonS (f : FS) : Prop := ∀ ρ μ (A B : DK), A.le B → f A ρ μ → f B ρ μ
def SV (K : PySem.W.Frag) (ι : Io) (H : Hp) (N : L2.St → Hp → Prop) : Rho → Sto → Prop := fun ρ μ => ∀ ι' H' σ', Gr ι H ι' H' → Rep K ι' μ H' → Loc K ι' H' σ' ρ → N σ' H'
def WV (K : PySem.W.Frag) (ι : Io) (H : Hp) (W : WX) : ED := fun c l ρ μ => ∀ ι' H' dd fv σ', Gr ι H ι' H' → Rep K ι' μ H' → H' dd = some (.xd fv) → Pts K ι' H' fv l → Loc K ι' H' σ' ρ → W c (some dd) σ' H'
def KV (K : PySem.W.Frag) (W : WX) (ι : Io) (H : Hp) (D : Ends) : DK := ⟨SV K ι H D.nx, QV K ι H D.rt, WV K ι H W, SV K ι H D.bk, SV K ι H D.ct⟩
def rdS (K : PySem.W.Frag) (W : WX) (f : FS) : TS := fun D σ H => ∃ ι ρ μ, Rep K ι μ H ∧ Loc K ι H σ ρ ∧ f (KV K W ι H D) ρ μ
structure DS (X : Cx) (W : WX) (s : Stmt) (f : FS) : Prop where
  mono : MonS f
  run : PS X s (rdS X.K W f)
structure DB (X : Cx) (W : WX) (s : List Stmt) (f : FS) : Prop where
  mono : MonS f
  run : PSs X s (rdS X.K W f)
theorem PS.imp {X : Cx} {s : Stmt} {t t' : TS} (h : PS X s t) (k : ∀ D σ H, t' D σ H → t D σ H) : PS X s t' := ⟨fun pins s σ H D I q => h.run pins s σ H D I (k D σ H q)⟩
theorem PSs.imp {X : Cx} {s : List Stmt} {t t' : TS} (h : PSs X s t) (k : ∀ D σ H, t' D σ H → t D σ H) : PSs X s t' := ⟨fun pins s σ H D I q => h.run pins s σ H D I (k D σ H q)⟩
section
variable {K : PySem.W.Frag} {W : WX} {ι ι' : Io} {H H' : Hp} {σ : L2.St} {ρ : Rho} {μ : Sto} {De : Ends}
theorem SV.gr {N : L2.St → Hp → Prop} (g : Gr ι H ι' H') (h : SV K ι H N ρ μ) : SV K ι' H' N ρ μ := fun _ _ σ g' r l => h _ _ σ (g.trans g') r l
theorem WV.gr {c : Value} {l : List (Str × D)} (g : Gr ι H ι' H') (h : WV K ι H W c l ρ μ) : WV K ι' H' W c l ρ μ := fun _ _ dd fv σ g' r a p q => h _ _ dd fv σ (g.trans g') r a p q
theorem KV.gr (g : Gr ι H ι' H') : (KV K W ι H De).le (KV K W ι' H' De) := ⟨fun _ _ h => SV.gr g h, fun _ _ h => QV.gr g h, fun _ _ _ _ h => WV.gr g h, fun _ _ h => SV.gr g h, fun _ _ h => SV.gr g h⟩
theorem WV.ew {c : Value} {l : List (Str × D)} (lo : Loc K ι H σ ρ) (h : WV K ι H W c l ρ μ) : EW K ι H W σ c l ρ μ := fun ι1 H1 dd fv g r a p => h ι1 H1 dd fv σ g r a p (lo.gr g)
/-- an expression of a statement -/
theorem chS {fa : FE} (ha : MonE fa) {R : VK} {P : QD} {A : DK} (hA : A = KV K W ι H De) (r : Rep K ι μ H) (l : Loc K ι H σ ρ) (h : fa ρ μ P A.ex)
    (k : ∀ d μ1 ι1 H1 v, P d μ1 → Gr ι H ι1 H1 → Rep K ι1 μ1 H1 → Loc K ι1 H1 σ ρ → At K ι1 H1 v d → R v H1) : rdE K W fa σ H R := by
  subst hA
  exact chain1 ha r l (ha ρ μ _ _ _ _ (fun _ _ z => z) (fun c l' m z => WV.ew l z) h) k
theorem chST {fa : FT} (ha : MonT fa) {R : Bool → Hp → Prop} {P : Bool → Sto → Prop} {A : DK} (hA : A = KV K W ι H De) (r : Rep K ι μ H) (l : Loc K ι H σ ρ) (h : fa ρ μ P A.ex)
    (k : ∀ d μ1 ι1 H1, P d μ1 → Gr ι H ι1 H1 → Rep K ι1 μ1 H1 → Loc K ι1 H1 σ ρ → R d H1) : rdT K W fa σ H R := by
  subst hA
  exact chainT ha r l (ha ρ μ _ _ _ _ (fun _ _ z => z) (fun c l' m z => WV.ew l z) h) k
end

section
variable {X : Cx} {W : WX} {s : Stmt} {ss sb sc : List Stmt} {e c : Expr} {f : FE} {ft : FT} {fs gs hs : FS} {pos : Pos}
def sNext : FS := fun A ρ μ => A.nx ρ μ
def sSeq (f g : FS) : FS := fun A ρ μ => f { A with nx := fun ρ' μ' => g A ρ' μ' } ρ μ
theorem mNext : MonS sNext := fun ρ μ A B h q => h.nx _ _ q
theorem mSeq (m : MonS fs) (m' : MonS gs) : MonS (sSeq fs gs) := fun ρ μ A B h q => m ρ μ { A with nx := fun ρ' μ' => gs A ρ' μ' } { B with nx := fun ρ' μ' => gs B ρ' μ' } ⟨fun ρ' μ' z => m' ρ' μ' A B h z, h.rt, h.ex, h.bk, h.ct⟩ q
theorem ds_nil : DB X W [] sNext := ⟨mNext, PSs.imp pss_nil fun D σ H ⟨ι, ρ, μ, r, l, q⟩ => q ι H σ (Gr.refl _ _) r l⟩
theorem ds_one (h : DS X W s fs) : DB X W [s] fs := ⟨h.mono, pss_one h.run⟩
theorem ds_cons (h : DS X W s fs) (h' : DB X W ss gs) : DB X W (s :: ss) (sSeq fs gs) :=
  ⟨mSeq h.mono h'.mono, PSs.imp (pss_cons h.run h'.run) fun D σ H ⟨ι, ρ, μ, r, l, q⟩ =>
    ⟨ι, ρ, μ, r, l, h.mono ρ μ { KV X.K W ι H D with nx := fun ρ' μ' => gs (KV X.K W ι H D) ρ' μ' } (KV X.K W ι H { D with nx := rdS X.K W gs D }) ⟨fun ρ' μ' z ι1 H1 σ1 g1 r1 l1 => ⟨ι1, ρ', μ', r1, l1, h'.mono ρ' μ' _ _ (KV.gr g1) z⟩, fun _ _ z => z, fun _ _ _ _ z => z, fun _ _ z => z, fun _ _ z => z⟩ q⟩⟩
def sBreak : FS := fun A ρ μ => A.bk ρ μ
def sCont : FS := fun A ρ μ => A.ct ρ μ
def sNever : FS := fun _ _ _ => False
theorem ds_never : DS X W s sNever := ⟨fun _ _ _ _ _ q => q, PS.imp ps_never fun D σ H ⟨ι, ρ, μ, r, l, q⟩ => q⟩
def sDrop (f : FE) : FS := fun A ρ μ => f ρ μ (fun _ m => A.nx ρ m) A.ex
def sRet (f : FE) : FS := fun A ρ μ => f ρ μ A.rt A.ex
theorem mDrop (m : MonE f) : MonS (sDrop f) := fun ρ μ A B h q => m ρ μ _ _ _ _ (fun _ _ z => h.nx _ _ z) (fun _ _ _ z => h.ex _ _ _ _ z) q
theorem mRet (m : MonE f) : MonS (sRet f) := fun ρ μ A B h q => m ρ μ _ _ _ _ (fun _ _ z => h.rt _ _ z) (fun _ _ _ z => h.ex _ _ _ _ z) q
theorem ds_expr (h : DE X W e f) (hs : swapsWith e none pos.line X.env = pure false := by rfl) : DS X W (.Expr e pos) (sDrop f) :=
  ⟨mDrop h.mono, PS.imp (ps_expr h.run hs) fun D σ H ⟨ι, ρ, μ, r, l, q⟩ => chS h.mono rfl r l q fun d μ1 ι1 H1 v z g1 r1 l1 a1 => z ι1 H1 σ g1 r1 l1⟩
theorem ds_ret (h : DE X W e f) : DS X W (.Return (some e) pos) (sRet f) :=
  ⟨mRet h.mono, PS.imp (ps_ret h.run) fun D σ H ⟨ι, ρ, μ, r, l, q⟩ => chS h.mono rfl r l q fun d μ1 ι1 H1 v z g1 r1 l1 a1 => z ι1 H1 v g1 r1 a1⟩
def sIf (t : FT) (f g : FS) : FS := fun A ρ μ => t ρ μ (fun b m => if b = true then f A ρ m else g A ρ m) A.ex
theorem mIfS (m : MonT ft) (mf : MonS fs) (mg : MonS gs) : MonS (sIf ft fs gs) := fun ρ μ A B h q => m ρ μ _ _ _ _ (fun b mm z => by
  cases b with
  | true => exact mf ρ mm A B h z
  | false => exact mg ρ mm A B h z) (fun _ _ _ z => h.ex _ _ _ _ z) q
theorem ds_if (hc : DT X W c ft) (ha : DB X W sb fs) (hb : DB X W sc gs) : DS X W (.If c sb sc pos) (sIf ft fs gs) :=
  ⟨mIfS hc.mono ha.mono hb.mono, PS.imp (ps_if hc.run ha.run hb.run) fun D σ H ⟨ι, ρ, μ, r, l, q⟩ => chST hc.mono rfl r l q fun b μ1 ι1 H1 z g1 r1 l1 => by
    cases b with
    | true => exact ⟨ι1, ρ, μ1, r1, l1, ha.mono ρ μ1 _ _ (KV.gr g1) z⟩
    | false => exact ⟨ι1, ρ, μ1, r1, l1, hb.mono ρ μ1 _ _ (KV.gr g1) z⟩⟩

/-! ### targets -/
abbrev FG := D → Rho → Sto → (Rho → Sto → Prop) → Prop
def MonTg (g : FG) : Prop := ∀ d ρ μ (N N' : Rho → Sto → Prop), (∀ ρ μ, N ρ μ → N' ρ μ) → g d ρ μ N → g d ρ μ N'
structure DG (X : Cx) (tg : Expr) (g : FG) : Prop where
  mono : MonTg g
  run : ∃ t, PG X tg t ∧ ∀ ι H σ ρ μ v d N, Rep X.K ι μ H → Loc X.K ι H σ ρ → At X.K ι H v d → g d ρ μ (SV X.K ι H N) → t v σ H N
abbrev FGs := List D → Rho → Sto → (Rho → Sto → Prop) → Prop
def MonTgs (g : FGs) : Prop := ∀ ds ρ μ (N N' : Rho → Sto → Prop), (∀ ρ μ, N ρ μ → N' ρ μ) → g ds ρ μ N → g ds ρ μ N'
structure DGs (X : Cx) (tgs : List Expr) (g : FGs) : Prop where
  mono : MonTgs g
  run : ∃ t, PGs X tgs t ∧ ∀ ι H σ ρ μ vs ds N, Rep X.K ι μ H → Loc X.K ι H σ ρ → Ats X.K ι H vs ds → g ds ρ μ (SV X.K ι H N) → t vs σ H N
def tgName (i : Nat) : FG := fun d ρ μ N => N (ρ.set i (some d)) μ
theorem dg_name {i : Nat} {x : Str} (hN : X.N.Nodup) (hi : X.N[i]? = some x) (hx : L2.Loc X.env.scope x)
    (hf : X.fn x = true ∨ X.env.scope.names.lookup x = some .local := by first | exact .inl rfl | exact .inr rfl | assumption) : DG X (.Name x pos) (tgName i) :=
  ⟨fun d ρ μ N N' h q => h _ _ q, _, pg_name hN hi hx hf, fun ι H σ ρ μ v d N r l a q => q ι H _ (Gr.refl _ _) r (l.set a i)⟩
def tgNil : FGs := fun ds ρ μ N => ds = [] ∧ N ρ μ
def tgCons (g : FG) (h : FGs) : FGs := fun ds ρ μ N => ∃ d r, ds = d :: r ∧ g d ρ μ (fun ρ' μ' => h r ρ' μ' N)
theorem dgs_nil : DGs X [] tgNil := ⟨fun ds ρ μ N N' h ⟨e, q⟩ => ⟨e, h _ _ q⟩, _, pgs_nil, fun ι H σ ρ μ vs ds N r l a ⟨e, q⟩ => by
  subst e
  exact ⟨Ats.unnil a, q ι H _ (Gr.refl _ _) r l⟩⟩
theorem dgs_cons {t : Expr} {ts : List Expr} {g : FG} {h : FGs} (h1 : DG X t g) (h2 : DGs X ts h)
    (hs : (assignEach (t :: ts) X.env).map (·.2) = assign t X.env :: (assignEach ts X.env).map (·.2) := by rfl) : DGs X (t :: ts) (tgCons g h) := by
  obtain ⟨t1, p1, k1⟩ := h1.run
  obtain ⟨t2, p2, k2⟩ := h2.run
  refine ⟨fun ds ρ μ N N' hh ⟨d, r, e, q⟩ => ⟨d, r, e, h1.mono _ _ _ _ _ (fun ρ' μ' z => h2.mono _ _ _ _ _ hh z) q⟩, _, pgs_cons p1 p2 hs, fun ι H σ ρ μ vs ds N r l a ⟨d, rr, e, q⟩ => ?_⟩
  subst e
  obtain ⟨v, vs', rfl, a1, a2⟩ := a.uncons
  refine ⟨v, vs', rfl, k1 ι H σ ρ μ v d _ r l a1 (h1.mono _ _ _ _ _ (fun ρ' μ' z => ?_) q)⟩
  intro ι1 H1 σ1 g1 r1 l1
  exact k2 ι1 H1 σ1 ρ' μ' vs' rr N r1 l1 (a2.gr g1) (h2.mono _ _ _ _ _ (fun _ _ z => SV.gr g1 z) z)
/-- (a, b, ..) = a tuple -/
def tgTup (n : Nat) (h : FGs) : FG := fun d ρ μ N => ∃ ds, d = .tup ds ∧ ds.length = n ∧ h ds ρ μ N
theorem dg_tup {ts : List Expr} {k n : Nat} {h : FGs} (hc : X.calm = true) (hh : DGs X ts h)
    (hn : (assignEach ts X.env).length = n := by rfl) (hst : (assignEach ts X.env).findIdx? (·.1) = none := by rfl) : DG X (.Tuple ts k pos) (tgTup n h) := by
  obtain ⟨t, p, kk⟩ := hh.run
  refine ⟨fun d ρ μ N N' m ⟨ds, e, c, q⟩ => ⟨ds, e, c, hh.mono _ _ _ _ _ m q⟩, _, pg_tup hc p hn hst, fun ι H σ ρ μ v d N r l a ⟨ds, e, c, q⟩ => ?_⟩
  subst e
  obtain ⟨b, vs, rfl, h1, h2⟩ := tup_at a
  exact ⟨b, vs, rfl, h1, by rw [h2.1]; exact c, kk ι H σ ρ μ vs ds N r l h2 q⟩
def sAsg (f : FE) (g : FG) : FS := fun A ρ μ => f ρ μ (fun d m => g d ρ m A.nx) A.ex
theorem mAsg {g : FG} (m : MonE f) (mg : MonTg g) : MonS (sAsg f g) := fun ρ μ A B h q => m ρ μ _ _ _ _ (fun d mm z => mg _ _ _ _ _ h.nx z) (fun _ _ _ z => h.ex _ _ _ _ z) q
theorem ds_set {i : Nat} {x : Str} {pos' : Pos} (hN : X.N.Nodup) (hi : X.N[i]? = some x) (hx : L2.Loc X.env.scope x) (h : DE X W e f)
    (hs : swapsWith e (some (.Name x pos')) pos.line X.env = pure false := by rfl)
    (hf : X.fn x = true ∨ X.env.scope.names.lookup x = some .local := by first | exact .inl rfl | exact .inr rfl | assumption) : DS X W (.Assign [.Name x pos'] e pos) (sAsg f (tgName i)) :=
  ⟨mAsg h.mono (fun d ρ μ N N' h q => h _ _ q), PS.imp (ps_set hN hi hx h.run hs hf) fun D σ H ⟨ι, ρ, μ, r, l, q⟩ => chS h.mono rfl r l q fun d μ1 ι1 H1 v z g1 r1 l1 a1 => z ι1 H1 _ g1 r1 (l1.set a1 i)⟩
theorem ds_asg {tg : Expr} {g : FG} (h : DE X W e f) (hg : DG X tg g) (hs : swapsWithSole [tg] e pos.line X.env = pure false := by rfl) (hw : swappedStores [tg] e X.env = pure none := by rfl)
    (h1 : (assignEach [tg] X.env).map (·.2) = [assign tg X.env] := by rfl) : DS X W (.Assign [tg] e pos) (sAsg f g) := by
  obtain ⟨t, p, kk⟩ := hg.run
  refine ⟨mAsg h.mono hg.mono, PS.imp (ps_asg h.run p hs hw h1) fun D σ H ⟨ι, ρ, μ, r, l, q⟩ => chS h.mono rfl r l q fun d μ1 ι1 H1 v z g1 r1 l1 a1 => ?_⟩
  exact kk ι1 H1 σ ρ μ1 v d D.nx r1 l1 a1 (hg.mono _ _ _ _ _ (fun _ _ z => SV.gr g1 z) z)

/-! ### what a loop walks: its items, and what must stay while it walks -/
structure Walks (K : PySem.W.Frag) (J : It) (ι : Io) (H : Hp) (xs : List D) (stay : Sto → Prop) : Prop where
  go : ∀ ι' H' μ' i x, Gr ι H ι' H' → Rep K ι' μ' H' → stay μ' → xs[i]? = some x → J.go i H' ∧ ∀ v H2, J.yld i H' v H2 → Gr ι' H' ι' H2 ∧ Rep K ι' μ' H2 ∧ At K ι' H2 v x
  stop : ∀ ι' H' μ' i, Gr ι H ι' H' → Rep K ι' μ' H' → stay μ' → xs.length = i → J.stop i H'
abbrev FI := Rho → Sto → (List D → (Sto → Prop) → Sto → Prop) → ED → Prop
def MonI (f : FI) : Prop := ∀ ρ μ (Q Q' : List D → (Sto → Prop) → Sto → Prop) (E E' : ED), (∀ xs st m, Q xs st m → Q' xs st m) → (∀ c l m, E c l ρ m → E' c l ρ m) → f ρ μ Q E → f ρ μ Q' E'
def IV (K : PySem.W.Frag) (ι : Io) (H : Hp) (R : It → Hp → Prop) : List D → (Sto → Prop) → Sto → Prop := fun xs st μ => ∀ ι' H' J, Gr ι H ι' H' → Rep K ι' μ H' → Walks K J ι' H' xs st → R J H'
def rdI (K : PySem.W.Frag) (W : WX) (f : FI) : TI := fun σ H R => ∃ ι ρ μ, Rep K ι μ H ∧ Loc K ι H σ ρ ∧ f ρ μ (IV K ι H R) (EW K ι H W σ)
structure DI (X : Cx) (W : WX) (tg iter : Expr) (f : FI) : Prop where
  mono : MonI f
  run : PI X tg iter (rdI X.K W f)
theorem PI.imp {X : Cx} {tg it : Expr} {w w' : TI} (h : PI X tg it w) (k : ∀ σ H R, w' σ H R → w σ H R) : PI X tg it w' := ⟨fun pins s σ H R I q => h.run pins s σ H R I (k σ H R q)⟩
/-- a list or a tuple -/
def iSeq (f : FE) : FI := fun ρ μ Q E => f ρ μ (fun d m => ∃ xs, asS m d = some xs ∧ Q xs (fun m' => asS m' d = some xs) m) E
theorem mSeqI (m : MonE f) : MonI (iSeq f) := fun ρ μ Q Q' E E' h he q => m ρ μ _ _ E E' (fun d mm ⟨xs, e, z⟩ => ⟨xs, e, h _ _ _ z⟩) he q
theorem walks_list {K : PySem.W.Frag} {a : Addr} {ι : Io} {H : Hp} {d : D} {xs : List D} (at_ : At K ι H (.ref a) d) (nt : ∀ ds, d ≠ .tup ds) : Walks K (Itl K a) ι H xs (fun m' => asS m' d = some xs) := by
  have key : ∀ ι' H' μ', Gr ι H ι' H' → Rep K ι' μ' H' → asS μ' d = some xs → ∃ vs, H' a = some (.lst vs) ∧ Ats K ι' H' vs xs := fun ι' H' μ' g r st => by
    have st' : asL μ' d = some xs := by
      cases d with
      | tup ds => exact absurd rfl (nt ds)
      | _ => exact st
    obtain ⟨p, vs, e, h1, h2⟩ := asL_at r (at_.gr g) st'
    cases e
    exact ⟨vs, h1, h2⟩
  refine ⟨fun ι' H' μ' i x g r st hx => ?_, fun ι' H' μ' i g r st hx0 => have hx := Nat.le_of_eq hx0; ?_⟩
  · obtain ⟨vs, h1, h2⟩ := key ι' H' μ' g r st
    obtain ⟨v, e, av⟩ := h2.get hx
    refine ⟨⟨vs, v, SqL.of h1, e⟩, fun u H2 hy => ?_⟩
    obtain ⟨rfl, hu⟩ := hy
    have e2 := hu vs (SqL.of h1)
    rw [e] at e2; cases e2
    exact ⟨Gr.refl _ _, r, av⟩
  · obtain ⟨vs, h1, h2⟩ := key ι' H' μ' g r st
    exact ⟨vs, SqL.of h1, by rw [h2.1]; exact hx⟩
theorem walks_tup {K : PySem.W.Frag} {a : Addr} {ι : Io} {H : Hp} {xs : List D} (at_ : At K ι H (.ref a) (.tup xs)) {st : Sto → Prop} : Walks K (Itt K a) ι H xs st := by
  have key : ∀ ι' H', Gr ι H ι' H' → ∃ vs, SqT K H' a vs ∧ Ats K ι' H' vs xs := fun ι' H' g => by
    obtain ⟨p, vs, e, h1, h2⟩ := tup_at (at_.gr g)
    cases e
    exact ⟨vs, h1, h2⟩
  refine ⟨fun ι' H' μ' i x g r st hx => ?_, fun ι' H' μ' i g r st hx0 => have hx := Nat.le_of_eq hx0; ?_⟩
  · obtain ⟨vs, h1, h2⟩ := key ι' H' g
    obtain ⟨v, e, av⟩ := h2.get hx
    refine ⟨⟨vs, v, h1, e⟩, fun u H2 hy => ?_⟩
    obtain ⟨rfl, hu⟩ := hy
    have e2 := hu vs h1
    rw [e] at e2; cases e2
    exact ⟨Gr.refl _ _, r, av⟩
  · obtain ⟨vs, h1, h2⟩ := key ι' H' g
    exact ⟨vs, h1, by rw [h2.1]; exact hx⟩
def PI.or2 (X : Cx) (tg iter : Expr) (t : TE) : TI := fun σ H R => t σ H fun v H1 => (∃ a, v = .ref a ∧ (∃ xs, SqL X.K H1 a xs) ∧ R (Itl X.K a) H1) ∨ (∃ a, v = .ref a ∧ (∃ xs, SqT X.K H1 a xs) ∧ R (Itt X.K a) H1)
theorem pi_seq {tg l : Expr} {tl : TE} (hl : PE X l tl) : PI X tg l (PI.or2 X tg l tl) := by
  refine ⟨fun pins s σ H R I h => ?_⟩
  have fresh : ∀ {s1 : Shared} {H1 : Hp}, Inv X pins σ H1 s1 → ∀ b ∈ [s1.heap.objs.size], FpOk X pins H1 b := fun I1 b hb => by
    cases List.mem_singleton.mp hb
    exact I1.fpOk (Nat.le_refl _) (I1.hok.fresh (Nat.le_refl _))
  refine thn (hl.run pins s σ H _ I h) fun v s1 ⟨x, H1, I1, r1, q1⟩ => ?_
  rcases q1 with ⟨a, rfl, ⟨xs, hq⟩, q⟩ | ⟨a, rfl, ⟨xs, hq⟩, q⟩
  · cases r1
    obtain ⟨its, rv, p, hz⟩ := I1.list hq
    refine wpAny_pyIter_list p.isList ⟨s1.heap.objs.size, [s1.heap.objs.size], _, _, H1, rfl, I1.kept (t' := s1.toks) fun b o e => Heap.get?_push_of_some _ e, turn_list a _, ⟨_, Heap.get?_push_size _ rfl, rfl, rfl⟩, ?_, q⟩
    exact fresh I1
  · cases r1
    obtain ⟨its, rv, p, hz⟩ := I1.tuple hq
    refine wpAny_pyIter_tuple (show s1.heap.IsTuple a its.toArray from p) ⟨s1.heap.objs.size, [s1.heap.objs.size], _, _, H1, rfl, I1.kept (t' := s1.toks) fun b o e => Heap.get?_push_of_some _ e, turn_tuple a _, ⟨_, Heap.get?_push_size _ rfl, rfl, rfl⟩, ?_, q⟩
    exact fresh I1
theorem di_seq {tg : Expr} (h : DE X W e f) : DI X W tg e (iSeq f) :=
  ⟨mSeqI h.mono, PI.imp (pi_seq (tg := tg) h.run) fun σ H R ⟨ι, ρ, μ, r, l, q⟩ => chain1 h.mono r l q fun d μ1 ι1 H1 v z g1 r1 l1 a1 => by
    obtain ⟨xs, e1, z⟩ := z
    cases d with
    | tup ds =>
      cases Option.some.inj e1
      obtain ⟨p, vs, rfl, h1, h2⟩ := tup_at a1
      exact .inr ⟨p, rfl, ⟨vs, h1⟩, z ι1 H1 _ g1 r1 (walks_tup a1)⟩
    | _ =>
      obtain ⟨p, vs, rfl, h1, h2⟩ := asL_at r1 a1 e1
      exact .inl ⟨p, rfl, ⟨vs, SqL.of h1⟩, z ι1 H1 _ g1 r1 (walks_list a1 fun ds hh => by cases hh)⟩⟩

/-- for .. -/
def sFor (fi : FI) (g : FG) (fb : FS) : FS := fun A ρ μ => fi ρ μ (fun xs st m => ∃ I : Nat → Rho → Sto → Prop, I 0 ρ m ∧ (∀ i ρ' μ', I i ρ' μ' → st μ') ∧
  (∀ i x ρ' μ', xs[i]? = some x → I i ρ' μ' → g x ρ' μ' (fun ρ2 μ2 => fb { A with nx := I (i + 1), ct := I (i + 1), bk := A.nx } ρ2 μ2)) ∧ ∀ ρ' μ', I xs.length ρ' μ' → A.nx ρ' μ') A.ex
theorem mFor {fi : FI} {g : FG} {fb : FS} (mi : MonI fi) (mg : MonTg g) (mb : MonS fb) : MonS (sFor fi g fb) := fun ρ μ A B h q => mi ρ μ _ _ _ _
  (fun xs st m ⟨I, h0, hs, ht, hd⟩ => ⟨I, h0, hs, fun i x ρ' μ' hx hi => mg _ _ _ _ _ (fun ρ2 μ2 z => mb ρ2 μ2 { A with nx := I (i + 1), ct := I (i + 1), bk := A.nx } { B with nx := I (i + 1), ct := I (i + 1), bk := B.nx } ⟨fun _ _ z => z, h.rt, h.ex, h.nx, fun _ _ z => z⟩ z) (ht i x ρ' μ' hx hi), fun ρ' μ' z => h.nx _ _ (hd ρ' μ' z)⟩)
  (fun _ _ _ z => h.ex _ _ _ _ z) q
theorem ds_for {tg iter : Expr} {fi : FI} {g : FG} {fb : FS} (hp : PassesOwn (model X.prog X.w) X.A X.env X.xe) (hc : X.calm = true) (hi : DI X W tg iter fi) (hg : DG X tg g) (hb : DB X W sb fb)
    (hs : ∀ x, foldedSetIterable iter X.env x = pure x := by intro _; rfl) : DS X W (.For tg iter sb [] pos) (sFor fi g fb) := by
  obtain ⟨t, p, kk⟩ := hg.run
  refine ⟨mFor hi.mono hg.mono hb.mono, PS.imp (ps_for hp hc hi.run p hb.run hs) fun D σ H ⟨ι, ρ, μ, r, l, q⟩ => ?_⟩
  refine ⟨ι, ρ, μ, r, l, hi.mono ρ μ _ _ _ _ (fun xs st m z => ?_) (fun c l' m z => WV.ew l z) q⟩
  intro ι1 H1 J g1 r1 wk
  obtain ⟨I, h0, hst, ht, hd⟩ := z
  refine ⟨fun i n σ' H' => n = xs.length - i ∧ i ≤ xs.length ∧ ∃ ι' ρ' μ', Gr ι1 H1 ι' H' ∧ Rep X.K ι' μ' H' ∧ Loc X.K ι' H' σ' ρ' ∧ I i ρ' μ', ⟨xs.length, by simp, Nat.zero_le _, ι1, ρ, m, Gr.refl _ _, r1, l.gr g1, h0⟩, ?_⟩
  rintro i n σ' H' ⟨rfl, hle, ι', ρ', μ', g', r', l', hI⟩
  by_cases hlt : i < xs.length
  · have hx : xs[i]? = some xs[i] := List.getElem?_eq_getElem hlt
    obtain ⟨w1, w2⟩ := wk.go ι' H' μ' i _ g' r' (hst i ρ' μ' hI) hx
    refine .inr ⟨w1, fun σ2 H2 => ∃ ι2 ρ2 μ2, Gr ι1 H1 ι2 H2 ∧ Rep X.K ι2 μ2 H2 ∧ Loc X.K ι2 H2 σ2 ρ2 ∧ I (i + 1) ρ2 μ2, fun σ2 H2 z => ⟨xs.length - (i + 1), by omega, rfl, hlt, z⟩, fun v H2 hy => ?_⟩
    obtain ⟨gy, ry, ay⟩ := w2 v H2 hy
    refine kk ι' H2 σ' ρ' μ' v _ _ ry (l'.gr gy) ay (hg.mono _ _ _ _ _ (fun ρ2 μ2 z => ?_) (ht i _ ρ' μ' hx hI))
    intro ι3 H3 σ3 g3 r3 l3
    have gg : Gr ι1 H1 ι3 H3 := (g'.trans gy).trans g3
    refine ⟨ι3, ρ2, μ2, r3, l3, hb.mono ρ2 μ2 _ _ ⟨fun ρ4 μ4 z ι4 H4 σ4 g4 r4 l4 => ⟨ι4, ρ4, μ4, gg.trans g4, r4, l4, z⟩, fun _ _ z => QV.gr (g1.trans gg) z, fun _ _ _ _ z => WV.gr (g1.trans gg) z,
      fun _ _ z => SV.gr (g1.trans gg) z, fun ρ4 μ4 z ι4 H4 σ4 g4 r4 l4 => ⟨ι4, ρ4, μ4, gg.trans g4, r4, l4, z⟩⟩ z⟩
  · have e : i = xs.length := by omega
    subst e
    exact .inl ⟨wk.stop ι' H' μ' _ g' r' (hst _ ρ' μ' hI) rfl, hd ρ' μ' hI ι' H' σ' (g1.trans g') r' l'⟩
end
end Dl

namespace Dl
open PySem PySem.Spec L2
open PyProof.Rows hiding St Binds

/-! ### attributes stored -/
def putD {κ : Type} [DecidableEq κ] (f : κ) (y : D) : List (κ × D) → List (κ × D)
  | [] => [(f, y)]
  | (g, z) :: r => if g = f then (g, y) :: r else (g, z) :: putD f y r
theorem Pts.put {K : PySem.W.Frag} {ι : Io} {H : Hp} {f : Str} {v : V} {d : D} (a : At K ι H v d) : ∀ {fv : List (Str × V)} {fd : List (Str × D)}, Pts K ι H fv fd → Pts K ι H (putF f v fv) (putD f d fd)
  | fv, [], p => by
    have e : fv = [] := by have := p.1; simpa using this
    subst e
    exact Pts.cons a Pts.nil
  | fv, (g, z) :: fd, p => by
    obtain ⟨w, fv', rfl, a1, p'⟩ := p.uncons
    unfold putF putD
    by_cases h : g = f
    · rw [if_pos h, if_pos h]; exact Pts.cons a p'
    · rw [if_neg h, if_neg h]; exact Pts.cons a1 (Pts.put a p')
/-! ### dicts by keys -/
def kD : D → Option Key
  | .int i => some (.inl i)
  | .str s => some (.inr s)
  | _ => none
def kOf : Key → D
  | .inl i => .int i
  | .inr s => .str s
def valD (kd : List (Key × D)) (k : Key) : Option D := (kd.find? fun q => decide (q.1 = k)).map (·.2)
def dropD (kd : List (Key × D)) (k : Key) : List (Key × D) := kd.filter fun q => decide (q.1 ≠ k)
/-- the key's place keeps, a new one comes last -/
def putKD (kd : List (Key × D)) (k : Key) (d : D) : List (Key × D) := if (kd.any fun q => decide (q.1 = k)) then kd.map (fun q => if q.1 = k then (q.1, d) else q) else kd ++ [(k, d)]
def OAt (K : PySem.W.Frag) (ι : Io) (H : Hp) : Option V → Option D → Prop
  | some v, some d => At K ι H v d
  | none, none => True
  | _, _ => False
section
variable {K : PySem.W.Frag} {ι : Io} {H : Hp} {kv : List (Key × V)} {kd : List (Key × D)} {k : Key}
theorem kD_at {v : V} {d : D} (a : At K ι H v d) (h : kD d = some k) : v = kV k := by
  cases a with
  | int i => cases Option.some.inj h; rfl
  | str i => cases Option.some.inj h; rfl
  | _ => cases h
theorem kOf_at : At K ι H (kV k) (kOf k) := by cases k <;> first | exact .int _ | exact .str _
theorem Pts.val : ∀ {kv : List (Key × V)} {kd : List (Key × D)}, Pts K ι H kv kd → OAt K ι H (valV kv k) (valD kd k)
  | kv, [], p => by
    have e : kv = [] := by have := p.1; simpa using this
    subst e
    exact True.intro
  | kv, (g, z) :: kd, p => by
    obtain ⟨w, kv', rfl, a1, p'⟩ := p.uncons
    unfold valV valD
    rw [List.find?_cons, List.find?_cons]
    by_cases h : g = k
    · simp only [h, decide_true]; exact a1
    · simp only [h, decide_false]; exact Pts.val p'
theorem Pts.drop : ∀ {kv : List (Key × V)} {kd : List (Key × D)}, Pts K ι H kv kd → Pts K ι H (dropK kv k) (dropD kd k)
  | kv, [], p => by
    have e : kv = [] := by have := p.1; simpa using this
    subst e
    exact Pts.nil
  | kv, (g, z) :: kd, p => by
    obtain ⟨w, kv', rfl, a1, p'⟩ := p.uncons
    unfold dropK dropD
    rw [List.filter_cons, List.filter_cons]
    by_cases h : g = k
    · simp only [h, ne_eq, not_true, decide_false, Bool.false_eq_true, if_false]; exact Pts.drop p'
    · simp only [h, ne_eq, not_false_eq_true, decide_true, if_true]; exact Pts.cons a1 (Pts.drop p')
theorem Pts.app {κ : Type} {kv kv' : List (κ × V)} {kd kd' : List (κ × D)} (p : Pts K ι H kv kd) (q : Pts K ι H kv' kd') : Pts K ι H (kv ++ kv') (kd ++ kd') := by
  have hl : kv.length = kd.length := by have := congrArg List.length p.1; simpa using this
  refine ⟨by simp [p.1, q.1], fun i x y h1 h2 => ?_⟩
  by_cases hi : i < kv.length
  · rw [List.getElem?_append_left hi] at h1
    rw [List.getElem?_append_left (by rw [← hl]; exact hi)] at h2
    exact p.2 i x y h1 h2
  · rw [List.getElem?_append_right (by omega)] at h1
    rw [List.getElem?_append_right (by rw [← hl]; omega), ← hl] at h2
    exact q.2 _ x y h1 h2
theorem Pts.any {kv : List (Key × V)} {kd : List (Key × D)} (p : Pts K ι H kv kd) : (kv.any fun q => decide (q.1 = k)) = (kd.any fun q => decide (q.1 = k)) := by
  have e1 : (kv.any fun q => decide (q.1 = k)) = ((kv.map (·.1)).any fun g => decide (g = k)) := by rw [List.any_map]; rfl
  have e2 : (kd.any fun q => decide (q.1 = k)) = ((kd.map (·.1)).any fun g => decide (g = k)) := by rw [List.any_map]; rfl
  rw [e1, e2, p.1]
theorem Pts.putK {v : V} {d : D} (a : At K ι H v d) (p : Pts K ι H kv kd) : Pts K ι H (L2.putK kv k v) (putKD kd k d) := by
  have e : L2.putK kv k v = if (kv.any fun q => decide (q.1 = k)) then kv.map (fun q => if q.1 = k then (q.1, v) else q) else kv ++ [(k, v)] := by
    unfold L2.putK; first | rfl | (split <;> simp_all)
  rw [e]
  unfold putKD
  rw [p.any]
  split
  · refine ⟨?_, fun i x y h1 h2 => ?_⟩
    · have q1 : (kv.map fun q => if q.1 = k then (q.1, v) else q).map (·.1) = kv.map (·.1) := by
        rw [List.map_map]; exact List.map_congr_left fun q _ => by simp only [Function.comp]; split <;> rfl
      have q2 : (kd.map fun q => if q.1 = k then (q.1, d) else q).map (·.1) = kd.map (·.1) := by
        rw [List.map_map]; exact List.map_congr_left fun q _ => by simp only [Function.comp]; split <;> rfl
      rw [q1, q2, p.1]
    · rw [List.getElem?_map, Option.map_eq_some_iff] at h1 h2
      obtain ⟨x', hx, rfl⟩ := h1
      obtain ⟨y', hy, rfl⟩ := h2
      have same : x'.1 = y'.1 := by
        have z := congrArg (fun l => l[i]?) p.1
        simp only [List.getElem?_map, hx, hy, Option.map_some] at z
        exact Option.some.inj z
      rw [same]
      split
      · exact a
      · exact p.2 i x' y' hx hy
  · exact p.app (Pts.cons a Pts.nil)
theorem Pts.length {κ : Type} {kv : List (κ × V)} {kd : List (κ × D)} (p : Pts K ι H kv kd) : kv.length = kd.length := by have := congrArg List.length p.1; simpa using this
end

section
variable {X : Cx} {W : WX} {a b c e o : Expr} {es : List Expr} {fa fb fc f fo fv : FE} {ft : FT} {fl : FA} {pos p apos cpos pos' : Pos} {σ : L2.St} {x : Str}
theorem PE.or {t t' : TE} (h : PE X e t) (h' : PE X e t') : PE X e (fun σ H Q => t σ H Q ∨ t' σ H Q) := ⟨fun pins s σ H Q I q => q.elim (h.run pins s σ H Q I) (h'.run pins s σ H Q I)⟩
theorem DE.or (h : DE X W e f) (h' : DE X W e fo) : DE X W e (fun ρ μ Q E => f ρ μ Q E ∨ fo ρ μ Q E) :=
  ⟨fun ρ μ Q Q' E E' hq he z => z.imp (h.mono _ _ _ _ _ _ hq he) (h'.mono _ _ _ _ _ _ hq he), PE.imp (PE.or h.run h'.run) fun σ H Q ⟨ι, ρ, μ, r, l, q⟩ => q.imp (fun q => ⟨ι, ρ, μ, r, l, q⟩) (fun q => ⟨ι, ρ, μ, r, l, q⟩)⟩
/-- o.f = e -/
def sStF (fn : Str) (K : PySem.W.Frag) (fv fo : FE) : FS := fun A ρ μ => fv ρ μ (fun y m1 => fo ρ m1 (fun d m2 => ∃ n C fd, d = .cell n ∧ m2[n]? = some (.ins C fd) ∧ Cls K C ∧ NoAttr K C fn ∧ fd.length < 1000 ∧
  A.nx ρ (m2.set n (.ins C (putD fn y fd)))) A.ex) A.ex
theorem ds_fld {fn : Str} (ho : DE X W o fo) (hv : DE X W e fv) (hs : swapsWith e (some (.Attribute o fn pos')) pos.line X.env = pure false := by rfl) {K : PySem.W.Frag} (hK : X.K = K := by rfl) : DS X W (.Assign [.Attribute o fn pos'] e pos) (sStF fn K fv fo) := by
  subst hK
  refine ⟨fun ρ μ A B h q => hv.mono ρ μ _ _ _ _ (fun y m z => ho.mono ρ m _ _ _ _ (fun d m2 ⟨n, C, fd, e1, e2, e3, e4, e5, z⟩ => ⟨n, C, fd, e1, e2, e3, e4, e5, h.nx _ _ z⟩) (fun _ _ _ z => h.ex _ _ _ _ z) z) (fun _ _ _ z => h.ex _ _ _ _ z) q,
    PS.imp (ps_fld ho.run hv.run hs) fun D σ H ⟨ι, ρ, μ, r, l, q⟩ => chS hv.mono rfl r l q fun y μ1 ι1 H1 v z g1 r1 l1 a1 => ?_⟩
  refine chS (De := D) (A := KV X.K W ι1 H1 D) ho.mono rfl r1 l1 (ho.mono ρ μ1 _ _ _ _ (fun _ _ z => z) (fun _ _ _ z => WV.gr g1 z) z) fun d μ2 ι2 H2 u z g2 r2 l2 a2 => ?_
  obtain ⟨n, C, fd, rfl, e2, e3, e4, e5, z⟩ := z
  cases a2 with
  | @cell a _ hn =>
    obtain ⟨dx, fv', h1, h2⟩ := r2.at_ n a _ hn e2
    refine ⟨a, C, dx, fv', rfl, h1, e3, e4, by rw [h2.length]; exact e5, ?_⟩
    have gc := Gr.chg (H := H2) (o := .ins C dx (putF fn v fv')) (List.mem_of_getElem? hn)
    exact z ι2 _ σ ((g1.trans g2).trans gc) (r2.chg hn ⟨dx, _, upd_same, Pts.put ((a1.gr g2).gr gc) (h2.gr gc)⟩) (l2.gr gc)

/-! ### subscripts -/
def ixD : G2 := fun x y μ Q => match x with
  | .str z => ∃ i c, y = .int i ∧ z.length ≤ sizeLine ∧ atI z.cps.toList i = some c ∧ Q (.str ⟨#[c]⟩) μ
  | x => ∃ ds i d, asS μ x = some ds ∧ y = .int i ∧ atI ds i = some d ∧ Q d μ
theorem ixD_mono : MonG ixD := fun x y μ Q Q' h q => by
  cases x with
  | str z => obtain ⟨i, c, e1, e2, e3, q⟩ := q; exact ⟨i, c, e1, e2, e3, h _ _ q⟩
  | _ => obtain ⟨i, c, e1, e2, e3, e4, q⟩ := q; exact ⟨i, c, e1, e2, e3, e4, h _ _ q⟩
theorem Ats.atI {K : PySem.W.Frag} {ι : Io} {H : Hp} {vs : List V} {ds : List D} {i : Int} {d : D} (r : Ats K ι H vs ds) (h : L2.atI ds i = some d) : ∃ v, L2.atI vs i = some v ∧ At K ι H v d := by
  unfold L2.atI at h ⊢
  rw [r.1]
  cases e : ixN ds.length i with
  | none => rw [e] at h; cases h
  | some j => rw [e] at h; exact r.get h
theorem de_ix (ha : DE X W a fa) (hb : DE X W b fb) (hs : PlainIx b := by exact fun _ _ => rfl) : DE X W (.Subscript a b pos) (fOp ixD fa fb) :=
  ⟨mOp ixD_mono ha.mono hb.mono, PE.imp (pe_ix ix_seq ha.run hb.run hs) fun σ H Q h => rdOp ixD_mono ha.mono hb.mono (fun ι H μ x y dx dy Q r a b q => by
    have seq : ∀ {ds i d}, asS μ dx = some ds → dy = .int i → atI ds i = some d → QV X.K ι H Q d μ → rIx X.K x y H Q := fun {ds i d} e1 e2 e3 qq => by
      subst e2
      cases b
      obtain ⟨p, vs, rfl, h1, h2⟩ := asS_at r a e1
      obtain ⟨v, e4, av⟩ := h2.atI e3
      have fin := qq ι H v (Gr.refl _ _) r av
      rcases h1 with h1 | h1
      · exact .inl ⟨p, vs, i, v, rfl, rfl, h1, e4, fin⟩
      · exact .inr (.inl ⟨p, vs, i, v, rfl, rfl, h1, e4, fin⟩)
    cases dx with
    | str z =>
      obtain ⟨i, c, rfl, e2, e3, q⟩ := q
      cases a; cases b
      exact .inr (.inr ⟨z, i, c, rfl, rfl, e2, e3, q ι H _ (Gr.refl _ _) r (.str _)⟩)
    | _ => obtain ⟨ds, i, d, e1, e2, e3, q⟩ := q; exact seq e1 e2 e3 q) h⟩
/-- d[k] -/
def dgD : G2 := fun x y μ Q => ∃ kd k d, asD μ x = some kd ∧ kD y = some k ∧ valD kd k = some d ∧ Q d μ
theorem dgD_mono : MonG dgD := fun x y μ Q Q' h ⟨kd, k, d, e1, e2, e3, q⟩ => ⟨kd, k, d, e1, e2, e3, h _ _ q⟩
theorem dget_of {K : PySem.W.Frag} {ι : Io} {H : Hp} {μ : Sto} {vx vy : V} {dx dy : D} {kd : List (Key × D)} {k : Key} (r : Rep K ι μ H) (a : At K ι H vx dx) (b : At K ι H vy dy) (e1 : asD μ dx = some kd) (e2 : kD dy = some k) :
    ∃ p kv, vx = .ref p ∧ Pts K ι H kv kd ∧ Rd H p (.dK kv) ∧ DGet H p vy (valV kv k) ∧ OAt K ι H (valV kv k) (valD kd k) := by
  obtain ⟨p, kv, rfl, h1, h2⟩ := asD_at r a e1
  exact ⟨p, kv, rfl, h2, h1, .inl ⟨kv, k, h1, kD_at b e2, rfl⟩, h2.val⟩
theorem de_dget (hu : X.A.units + 1 < cLine) (ha : DE X W a fa) (hb : DE X W b fb) (hs : NoSl b := by rfl) : DE X W (.Subscript a b pos) (fOp dgD fa fb) :=
  ⟨mOp dgD_mono ha.mono hb.mono, PE.imp (pe_dget hu ha.run hb.run hs) fun σ H Q h => rdOp (r := fun x y H2 Q => ∃ a v, x = .ref a ∧ DGet H2 a y (some v) ∧ Q v H2) dgD_mono ha.mono hb.mono (fun ι H μ x y dx dy Q r a b ⟨kd, k, d, e1, e2, e3, q⟩ => by
    obtain ⟨p, kv, rfl, _, _, g, oa⟩ := dget_of r a b e1 e2
    rw [e3] at oa
    cases ev : valV kv k with
    | none => rw [ev] at oa; exact oa.elim
    | some v => rw [ev] at oa g; exact ⟨p, v, rfl, g, q ι H v (Gr.refl _ _) r oa⟩) h⟩
/-- k in d -/
def dinD (neg : Bool) : G2 := fun y x μ Q => ∃ kd k, asD μ x = some kd ∧ kD y = some k ∧ Q (.bl (if neg then !(valD kd k).isSome else (valD kd k).isSome)) μ
theorem dinD_mono {neg : Bool} : MonG (dinD neg) := fun x y μ Q Q' h ⟨kd, k, e1, e2, q⟩ => ⟨kd, k, e1, e2, h _ _ q⟩
theorem OAt.some_iff {K : PySem.W.Frag} {ι : Io} {H : Hp} {v : Option V} {d : Option D} (h : OAt K ι H v d) : v.isSome = d.isSome := by
  cases v <;> cases d <;> first | rfl | exact h.elim
theorem OAt.getD {K : PySem.W.Frag} {ι : Io} {H : Hp} {v : Option V} {d : Option D} {v0 : V} {d0 : D} (h : OAt K ι H v d) (a : At K ι H v0 d0) : At K ι H (v.getD v0) (d.getD d0) := by
  cases v <;> cases d <;> first | exact a | exact h | exact h.elim
theorem isD_of {H : Hp} {p : Addr} {kv : List (Key × V)} (h : Rd H p (.dK kv)) : IsD H p := .inl ⟨kv, h⟩
def fDGet1 (fo fa : FE) : FE := fun ρ μ Q E => fo ρ μ (fun x m1 => ∃ kd1, asD m1 x = some kd1 ∧ fa ρ m1 (fun y m2 => ∃ kd k, asD m2 x = some kd ∧ kD y = some k ∧ Q ((valD kd k).getD .non) m2) E) E
theorem de_get1 (hu : X.A.units + 1 < cLine) (ho : DE X W o fo) (ha : DE X W a fa) (m : M1 X o "get" apos a cpos := by exact ⟨rfl, rfl, rfl, rfl⟩) :
    DE X W (.Call (.Attribute o "get" apos) [a] [] cpos) (fDGet1 fo fa) :=
  ⟨fun ρ μ Q Q' E E' h he q => ho.mono ρ μ _ _ E E' (fun x m1 ⟨kd1, e, z⟩ => ⟨kd1, e, ha.mono ρ m1 _ _ E E' (fun y m2 ⟨kd, k, e1, e2, z⟩ => ⟨kd, k, e1, e2, h _ _ z⟩) he z⟩) he q,
   PE.imp (pe_dget1 hu ho.run ha.run m) fun σ H Q ⟨ι, ρ, μ, r, l, q⟩ => chain1 ho.mono r l q fun x μ1 ι1 H1 v z g1 r1 l1 a1 => by
    obtain ⟨kd1, e, z⟩ := z
    obtain ⟨p, kv1, rfl, h1, _⟩ := asD_at r1 a1 e
    refine ⟨p, rfl, isD_of h1, chain1 ha.mono r1 l1 (ha.mono ρ μ1 _ _ _ _ (fun _ _ z => z) (fun _ _ _ z => EW.gr g1 z) z) fun y μ2 ι2 H2 u z g2 r2 l2 a2 => ?_⟩
    obtain ⟨kd, k, e1, e2, z⟩ := z
    obtain ⟨p', kv, ep, _, _, g, oa⟩ := dget_of r2 (a1.gr g2) a2 e1 e2
    cases ep
    exact ⟨_, g, z ι2 H2 _ (g1.trans g2) r2 (oa.getD .non)⟩⟩
/-- d[k] = v, d a cell -/
def sDPutD (fv fo fa : FE) : FS := fun A ρ μ => fv ρ μ (fun v m1 => fo ρ m1 (fun x m2 => fa ρ m2 (fun y m3 => ∃ n kd k, x = .cell n ∧ m3[n]? = some (.dct kd) ∧ kD y = some k ∧ kd.length < sizeLine ∧
  A.nx ρ (m3.set n (.dct (putKD kd k v)))) A.ex) A.ex) A.ex
theorem ds_dput (hu : X.A.units + 1 < cLine) (ho : DE X W o fo) (ha : DE X W a fa) (hv : DE X W e fv) (hs : swapsWith e (some (.Subscript o a pos')) pos.line X.env = pure false := by rfl) :
    DS X W (.Assign [.Subscript o a pos'] e pos) (sDPutD fv fo fa) := by
  refine ⟨fun ρ μ A B h q => hv.mono ρ μ _ _ _ _ (fun v m1 z => ho.mono ρ m1 _ _ _ _ (fun x m2 z => ha.mono ρ m2 _ _ _ _ (fun y m3 ⟨n, kd, k, e1, e2, e3, e4, z⟩ => ⟨n, kd, k, e1, e2, e3, e4, h.nx _ _ z⟩) (fun _ _ _ z => h.ex _ _ _ _ z) z) (fun _ _ _ z => h.ex _ _ _ _ z) z) (fun _ _ _ z => h.ex _ _ _ _ z) q,
    PS.imp (ps_dput hu ho.run ha.run hv.run hs) fun D σ H ⟨ι, ρ, μ, r, l, q⟩ => chS hv.mono rfl r l q fun y μ1 ι1 H1 v z g1 r1 l1 a1 => ?_⟩
  refine chS (De := D) (A := KV X.K W ι1 H1 D) ho.mono rfl r1 l1 (ho.mono ρ μ1 _ _ _ _ (fun _ _ z => z) (fun _ _ _ z => WV.gr g1 z) z) fun x μ2 ι2 H2 u z g2 r2 l2 a2 => ?_
  refine chS (De := D) (A := KV X.K W ι2 H2 D) ha.mono rfl r2 l2 (ha.mono ρ μ2 _ _ _ _ (fun _ _ z => z) (fun _ _ _ z => WV.gr (g1.trans g2) z) z) fun w μ3 ι3 H3 t z g3 r3 l3 a3 => ?_
  obtain ⟨n, kd, k, rfl, e2, e3, e4, z⟩ := z
  have a2' := a2.gr g3
  cases a2' with
  | @cell a _ hn =>
    obtain ⟨kv, h1, h2⟩ := r3.at_ n a _ hn e2
    refine ⟨a, _, (by cases a2; rename_i h; exact congrArg V.ref (Option.some.inj ((g3.pre _ _ h).symm.trans hn))), .inl ⟨kv, k, h1, kD_at a3 e3, by rw [h2.length]; exact e4, rfl⟩, ?_⟩
    have gc := Gr.chg (H := H3) (o := .dK (L2.putK kv k v)) (List.mem_of_getElem? hn)
    exact z ι3 _ σ (((g1.trans g2).trans g3).trans gc) (r3.chg hn ⟨_, upd_same, Pts.putK (((a1.gr g2).gr g3).gr gc) (h2.gr gc)⟩) (l3.gr gc)

/-! ### x in a list or a tuple of flat things -/
def flatD : D → Bool
  | .non => true
  | .bl _ => true
  | .int _ => true
  | .str _ => true
  | _ => false
def eqDD : D → D → Bool
  | .non, .non => true
  | .bl a, .bl b => a == b
  | .bl a, .int b => (if a then 1 else 0) == b
  | .int a, .bl b => a == (if b then 1 else 0)
  | .int a, .int b => a == b
  | .str a, .str b => a == b
  | _, _ => false
def inDD (x : D) (ds : List D) : Bool := ds.any fun y => eqDD y x
theorem flat_at {K : PySem.W.Frag} {ι : Io} {H : Hp} {v : V} {d : D} (a : At K ι H v d) (h : flatD d = true) : flatV v = true := by cases a <;> first | rfl | cases h
theorem eq_at {K : PySem.W.Frag} {ι : Io} {H : Hp} {v u : V} {d c : D} (a : At K ι H v d) (b : At K ι H u c) (h : flatD d = true) (h' : flatD c = true) : eqV v u = eqDD d c := by
  cases a <;> first | cases h | skip
  all_goals (cases b <;> first | rfl | cases h')
theorem Ats.flat {K : PySem.W.Frag} {ι : Io} {H : Hp} : ∀ {vs : List V} {ds : List D}, Ats K ι H vs ds → ds.all flatD = true → vs.all flatV = true ∧ ∀ {u c}, At K ι H u c → flatD c = true → inV u vs = inDD c ds
  | vs, [], r, _ => by cases Ats.unnil r; exact ⟨rfl, fun _ _ => rfl⟩
  | vs, d :: ds, r, h => by
    obtain ⟨v, vs', rfl, a1, r'⟩ := r.uncons
    rw [List.all_cons, Bool.and_eq_true] at h
    obtain ⟨i1, i2⟩ := Ats.flat r' h.2
    refine ⟨by rw [List.all_cons, flat_at a1 h.1, i1]; rfl, fun {u c} au hc => ?_⟩
    unfold inV inDD
    rw [List.any_cons, List.any_cons, eq_at a1 au h.1 hc]
    exact congrArg _ (i2 au hc)
def inD (neg : Bool) : G2 := fun x y μ Q => ∃ ds, asS μ y = some ds ∧ flatD x = true ∧ ds.all flatD = true ∧ Q (.bl (if neg then !inDD x ds else inDD x ds)) μ
theorem inD_mono {neg : Bool} : MonG (inD neg) := fun x y μ Q Q' h ⟨ds, e1, e2, e3, q⟩ => ⟨ds, e1, e2, e3, h _ _ q⟩
theorem inD_run {neg : Bool} : ∀ ι H μ x y dx dy Q, Rep X.K ι μ H → At X.K ι H x dx → At X.K ι H y dy → inD neg dx dy μ (QV X.K ι H Q) → rIn X.K neg x y H Q := fun ι H μ x y dx dy Q r a b ⟨ds, e1, e2, e3, q⟩ => by
  obtain ⟨p, vs, rfl, h1, h2⟩ := asS_at r b e1
  obtain ⟨i1, i2⟩ := h2.flat e3
  exact ⟨p, vs, rfl, h1, flat_at a e2, i1, by rw [i2 a e2]; exact q ι H _ (Gr.refl _ _) r (.bl _)⟩
theorem opd_in : OpD X (compareOp .In) (inD false) := ⟨inD_mono, _, op_in_seq, inD_run⟩
theorem opd_notin : OpD X (compareOp .NotIn) (inD true) := ⟨inD_mono, _, op_notIn_seq, inD_run⟩
/-- x is None -/
def isNonD : D → Bool
  | .non => true
  | _ => false
def isND (neg : Bool) : G2 := fun x y μ Q => y = .non ∧ Q (.bl (if neg then !isNonD x else isNonD x)) μ
theorem non_at {K : PySem.W.Frag} {ι : Io} {H : Hp} {v : V} {d : D} (a : At K ι H v d) : decide (v = .non) = isNonD d := by cases a <;> rfl
theorem opd_isN : OpD X (compareOp .Is) (isND false) := ⟨fun x y μ Q Q' h ⟨e, q⟩ => ⟨e, h _ _ q⟩, _, op_isN, fun ι H μ x y dx dy Q r a b ⟨e, q⟩ => by
  subst e; cases b; exact ⟨rfl, by rw [non_at a]; exact q ι H _ (Gr.refl _ _) r (.bl _)⟩⟩
/-- a < b < c -/
def fChain (g g' : G2) (fa fb fc : FE) : FE := fun ρ μ Q E => fa ρ μ (fun x m1 => fb ρ m1 (fun y m2 => g x y m2 (fun z m3 => ∃ k, z = .bl k ∧ if k = true then fc ρ m3 (fun w m4 => g' y w m4 Q) E else Q (.bl false) m3)) E) E
theorem mChain {g g' : G2} (mg : MonG g) (mg' : MonG g') (ma : MonE fa) (mb : MonE fb) (mc : MonE fc) : MonE (fChain g g' fa fb fc) := fun ρ μ Q Q' E E' h he q =>
  ma ρ μ _ _ E E' (fun x m1 z => mb ρ m1 _ _ E E' (fun y m2 z => mg x y m2 _ _ (fun d m3 ⟨k, e, z⟩ => ⟨k, e, by
    cases k with
    | true => exact mc ρ m3 _ _ E E' (fun w m4 z => mg' y w m4 _ _ h z) he z
    | false => exact h _ _ z⟩) z) he z) he q
theorem de_chain {op op' : CmpOp} {g g' : G2} (o1 : OpD X (compareOp op) g) (o2 : OpD X (compareOp op') g') (ha : DE X W a fa) (hb : DE X W b fb) (hc : DE X W c fc) (hm : lastMarks [op, op'] [b, c] = false := by rfl) : DE X W (.Compare a [op, op'] [b, c] pos) (fChain g g' fa fb fc) := by
  obtain ⟨r1, p1, k1⟩ := o1.run
  obtain ⟨r2, p2, k2⟩ := o2.run
  refine ⟨mChain o1.mono o2.mono ha.mono hb.mono hc.mono, PE.imp (pe_chain p1 p2 ha.run hb.run hc.run hm) fun σ H Q ⟨ι, ρ, μ, r, l, q⟩ => chain1 ha.mono r l q fun x μ1 ι1 H1 v z g1 r1 l1 a1 => ?_⟩
  refine chain1 hb.mono r1 l1 (hb.mono ρ μ1 _ _ _ _ (fun _ _ z => z) (fun _ _ _ z => EW.gr g1 z) z) fun y μ2 ι2 H2 u z g2 r2 l2 a2 => ?_
  refine k1 ι2 H2 μ2 v u x y _ r2 (a1.gr g2) a2 (o1.mono _ _ _ _ _ (fun d m3 z => ?_) z)
  intro ι3 H3 t g3 r3 a3
  obtain ⟨k, rfl, z⟩ := z
  cases a3
  refine ⟨k, rfl, ?_⟩
  have gg := (g1.trans g2).trans g3
  cases k with
  | true =>
    refine chain1 hc.mono r3 (l2.gr g3) (hc.mono ρ m3 _ _ _ _ (fun _ _ z => z) (fun _ _ _ z => EW.gr gg z) z) fun w μ4 ι4 H4 s z g4 r4 l4 a4 => ?_
    exact k2 ι4 H4 μ4 u s y w Q r4 ((a2.gr g3).gr g4) a4 (o2.mono _ _ _ _ _ (fun d m z => QV.gr (gg.trans g4) z) z)
  | false => exact z ι3 H3 _ gg r3 (.bl _)

/-! ### calls of builtins by values -/
abbrev GC := List D → Sto → QD → Prop
def MonC (g : GC) : Prop := ∀ xs μ (Q Q' : QD), (∀ d m, Q d m → Q' d m) → g xs μ Q → g xs μ Q'
structure CaD (X : Cx) (f : Value) (g : GC) : Prop where
  mono : MonC g
  run : ∃ r, CallR X f r ∧ ∀ ι H μ vs ds Q, Rep X.K ι μ H → Ats X.K ι H vs ds → g ds μ (QV X.K ι H Q) → r vs H Q
def fCB (g : GC) (fl : FA) : FE := fun ρ μ Q E => fl ρ μ (fun ds m => g ds m Q) E
theorem mCB {g : GC} (mg : MonC g) (m : MonA fl) : MonE (fCB g fl) := fun ρ μ Q Q' E E' h he q => m ρ μ _ _ E E' (fun ds mm z => mg ds mm Q Q' h z) he q
theorem rdCB {g : GC} {r : List V → Hp → VK → Prop} (mg : MonC g) (m : MonA fl) (k : ∀ ι H μ vs ds Q, Rep X.K ι μ H → Ats X.K ι H vs ds → g ds μ (QV X.K ι H Q) → r vs H Q) {H : Hp} {Q : VK} (h : rdE X.K W (fCB g fl) σ H Q) : tCB r (rdA X.K W fl) σ H Q := by
  obtain ⟨ι, ρ, μ, rp, l, q⟩ := h
  exact chainA m rp l q fun ds μ1 ι1 H1 vs z g1 r1 l1 a1 => k ι1 H1 μ1 vs ds Q r1 a1 (mg _ _ _ _ (fun d m z => QV.gr g1 z) z)
theorem de_callB {id : String} {g : GC} (c : CaD X (.builtin id) g) (hg : Gl X x) (hm : X.mg x = none) (hv : bootBuiltins x = some (.builtin id)) (ha : DA X W (e :: es) fl) (hn : x ≠ "__name__" := by decide) (hdb : (x == ("__debug__" : Str)) = false := by decide)
    (he : starEach (e :: es) X.env = (false, eval e X.env) :: starEach es X.env := by rfl) (hpl : (backTo pos (starEach es X.env)).any (·.1) = false := by rfl) : DE X W (.Call (.Name x p) (e :: es) [] pos) (fCB g fl) := by
  obtain ⟨r, cr, k⟩ := c.run
  exact ⟨mCB c.mono ha.mono, PE.imp (pe_callB cr hg hm hv ha.run hn hdb he hpl) fun σ H Q h => rdCB c.mono ha.mono k h⟩
theorem de_callTy {T : String} {g : GC} (c : CaD X (.type T) g) (hg : Gl X x) (hm : X.mg x = none) (hv : bootBuiltins x = some (.type T)) (ha : DA X W (e :: es) fl) (hn : x ≠ "__name__" := by decide) (hdb : (x == ("__debug__" : Str)) = false := by decide)
    (he : starEach (e :: es) X.env = (false, eval e X.env) :: starEach es X.env := by rfl) (hpl : (backTo pos (starEach es X.env)).any (·.1) = false := by rfl) : DE X W (.Call (.Name x p) (e :: es) [] pos) (fCB g fl) := by
  obtain ⟨r, cr, k⟩ := c.run
  exact ⟨mCB c.mono ha.mono, PE.imp (pe_callTy cr hg hm hv ha.run hn hdb he hpl) fun σ H Q h => rdCB c.mono ha.mono k h⟩
theorem CaD.or {f : Value} {g g' : GC} (h : CaD X f g) (h' : CaD X f g') : CaD X f (fun xs μ Q => g xs μ Q ∨ g' xs μ Q) := by
  obtain ⟨r, o, k⟩ := h.run
  obtain ⟨r', o', k'⟩ := h'.run
  refine ⟨fun xs μ Q Q' m q => q.imp (h.mono xs μ Q Q' m) (h'.mono xs μ Q Q' m), fun xs H Q => r xs H Q ∨ r' xs H Q, fun pins s σ H xs us Q I rx q => ?_, fun ι H μ vs ds Q r a q => q.imp (k ι H μ vs ds Q r a) (k' ι H μ vs ds Q r a)⟩
  exact q.elim (o pins s σ H xs us Q I rx) (o' pins s σ H xs us Q I rx)
theorem Ats.one {K : PySem.W.Frag} {ι : Io} {H : Hp} {vs : List V} {d : D} (r : Ats K ι H vs [d]) : ∃ v, vs = [v] ∧ At K ι H v d := by
  obtain ⟨v, vs', rfl, a, r'⟩ := r.uncons
  cases Ats.unnil r'
  exact ⟨v, rfl, a⟩
theorem cad_len : CaD X (.builtin "len") (fun xs μ Q => (∃ s, xs = [.str s] ∧ s.length ≤ sizeLine ∧ Q (.int s.length) μ) ∨ (∃ d ds, xs = [d] ∧ asS μ d = some ds ∧ Q (.int ds.length) μ)) :=
  ⟨fun xs μ Q Q' h q => q.imp (fun ⟨s, e, e2, q⟩ => ⟨s, e, e2, h _ _ q⟩) (fun ⟨d, ds, e, e2, q⟩ => ⟨d, ds, e, e2, h _ _ q⟩), _, call_len, fun ι H μ vs ds Q r a q => by
    rcases q with ⟨s, rfl, e2, q⟩ | ⟨d, xs, rfl, e2, q⟩
    · obtain ⟨v, rfl, a1⟩ := a.one
      cases a1
      exact ⟨_, s.length, rfl, show s.length ≤ sizeLine ∧ s.length = s.length from ⟨e2, rfl⟩, q ι H _ (Gr.refl _ _) r (.int _)⟩
    · obtain ⟨v, rfl, a1⟩ := a.one
      obtain ⟨p, vs, rfl, h1, h2⟩ := asS_at r a1 e2
      refine ⟨_, xs.length, rfl, ?_, q ι H _ (Gr.refl _ _) r (.int _)⟩
      rcases h1 with h1 | h1
      · exact .inl ⟨vs, h1, h2.1.symm⟩
      · exact .inr ⟨vs, h1, h2.1.symm⟩⟩
/-- list(x) of a list, a tuple; of a dict -/
theorem cad_list : CaD X (.type "list") (fun xs μ Q => ∃ d ds, xs = [d] ∧ asS μ d = some ds ∧ gNewL ds μ Q) :=
  ⟨fun xs μ Q Q' h ⟨d, ds, e, e2, q⟩ => ⟨d, ds, e, e2, gNewL_mono h q⟩, _, call_list_of, fun ι H μ vs ds Q r a ⟨d, xs, e, e2, q⟩ => by
    subst e
    obtain ⟨v, rfl, a1⟩ := a.one
    obtain ⟨p, vs, rfl, h1, h2⟩ := asS_at r a1 e2
    exact ⟨p, vs, rfl, h1, fun l hl => newL_ok r h2 q l hl⟩⟩
theorem Pts.keys {K : PySem.W.Frag} {ι : Io} {H : Hp} {kv : List (Key × V)} {kd : List (Key × D)} (p : Pts K ι H kv kd) : Ats K ι H (kv.map fun q => kV q.1) (kd.map fun q => kOf q.1) := by
  refine ⟨by simp [p.length], fun i v d h1 h2 => ?_⟩
  rw [List.getElem?_map, Option.map_eq_some_iff] at h1 h2
  obtain ⟨x, hx, rfl⟩ := h1
  obtain ⟨y, hy, rfl⟩ := h2
  have z := congrArg (fun l => l[i]?) p.1
  simp only [List.getElem?_map, hx, hy, Option.map_some] at z
  rw [Option.some.inj z]
  exact kOf_at
/-- a new dict: data, or a cell -/
def gNewD (kd : List (Key × D)) (μ : Sto) (Q : QD) : Prop := Q (.dct kd) μ ∨ Q (.cell μ.length) (μ ++ [.dct kd])
theorem gNewD_mono {kd : List (Key × D)} {μ : Sto} {Q Q' : QD} (h : ∀ d m, Q d m → Q' d m) (q : gNewD kd μ Q) : gNewD kd μ Q' := q.imp (h _ _) (h _ _)
theorem newD_ok {K : PySem.W.Frag} {ι : Io} {H : Hp} {μ : Sto} {kv : List (Key × V)} {kd : List (Key × D)} {Q : VK} (r : Rep K ι μ H) (a : Pts K ι H kv kd) (q : gNewD kd μ (QV K ι H Q)) (p : Addr) (h : H p = none) : Q (.ref p) (upd H p (.dK kv)) := by
  have n := r.free h
  rcases q with q | q
  · have g := Gr.new (o := .dK kv) h n
    exact q ι _ _ g (r.new h) (.dct (.inl upd_same) n a.1 fun i x y e1 e2 => (a.2 i x y e1 e2).gr g)
  · have g := Gr.cellNew (o := .dK kv) h n
    exact q _ _ _ g (r.cellNew h ⟨kv, upd_same, a.gr g⟩) (.cell (by rw [List.getElem?_append_right (by rw [r.len]; exact Nat.le_refl _), r.len, Nat.sub_self]; rfl))
theorem cad_dictD : CaD X (.type "dict") (fun xs μ Q => ∃ d kd, xs = [d] ∧ asD μ d = some kd ∧ gNewD kd μ Q) :=
  ⟨fun xs μ Q Q' h ⟨d, ds, e, e2, q⟩ => ⟨d, ds, e, e2, gNewD_mono h q⟩, _, call_dictD, fun ι H μ vs ds Q r a ⟨d, kd, e, e2, q⟩ => by
    subst e
    obtain ⟨v, rfl, a1⟩ := a.one
    obtain ⟨p, kv, rfl, h1, h2⟩ := asD_at r a1 e2
    exact ⟨p, kv, rfl, h1, fun l hl => newD_ok r h2 q l hl⟩⟩
/-- {} -/
def fDict0 : FE := fun _ μ Q _ => gNewD [] μ Q
theorem de_dict0 : DE X W (.Dict [] [] pos) fDict0 := ⟨fun ρ μ Q Q' E E' h _ q => gNewD_mono h q, PE.imp pe_dnewK fun σ H Q ⟨ι, ρ, μ, r, l, q⟩ => fun p hp => newD_ok r Pts.nil q p hp⟩
end
end Dl

namespace Dl
open PySem PySem.Spec L2
open PyProof.Rows hiding St Binds

def NE : ED := fun _ _ _ _ => False
section
variable {K : PySem.W.Frag} {ι : Io} {H : Hp} {vs : List V} {ds : List D}
theorem NE.ew {W : WX} {σ : L2.St} {c : Value} {l : List (Str × D)} {ρ : Rho} {m : Sto} (h : NE c l ρ m) : EW K ι H W σ c l ρ m := h.elim
theorem Ats.set {v : V} {d : D} (r : Ats K ι H vs ds) (a : At K ι H v d) (j : Nat) : Ats K ι H (vs.set j v) (ds.set j d) := by
  refine ⟨by simp [r.1], fun i x y h1 h2 => ?_⟩
  by_cases hj : j = i
  · subst hj
    have l1 : j < vs.length := by have := (List.getElem?_eq_some_iff.mp h1).1; simpa using this
    rw [List.getElem?_set_self l1] at h1
    rw [List.getElem?_set_self (by rw [← r.1]; exact l1)] at h2
    cases h1; cases h2; exact a
  · rw [List.getElem?_set_ne hj] at h1 h2
    exact r.2 i x y h1 h2
theorem Ats.erase (r : Ats K ι H vs ds) (j : Nat) : Ats K ι H (vs.eraseIdx j) (ds.eraseIdx j) := by
  refine ⟨by simp [List.length_eraseIdx, r.1], fun i x y h1 h2 => ?_⟩
  rw [List.getElem?_eraseIdx] at h1 h2
  split at h1
  · rename_i hh
    rw [if_pos hh] at h2
    exact r.2 i x y h1 h2
  · rename_i hh
    rw [if_neg hh] at h2
    exact r.2 _ x y h1 h2
theorem Ats.drop (r : Ats K ι H vs ds) (n : Nat) : Ats K ι H (vs.drop n) (ds.drop n) := by
  refine ⟨by simp [r.1], fun i x y h1 h2 => ?_⟩
  rw [List.getElem?_drop] at h1 h2
  exact r.2 _ x y h1 h2
theorem Ats.take (r : Ats K ι H vs ds) (n : Nat) : Ats K ι H (vs.take n) (ds.take n) := by
  refine ⟨by simp [r.1], fun i x y h1 h2 => ?_⟩
  rw [List.getElem?_take] at h1 h2
  split at h1
  · rename_i hh
    rw [if_pos hh] at h2
    exact r.2 i x y h1 h2
  · cases h1
theorem Ats.last (r : Ats K ι H vs ds) : Ats K ι H vs.dropLast ds.dropLast := by
  rw [List.dropLast_eq_take, List.dropLast_eq_take, r.1]
  exact r.take _
end

section
variable {X : Cx} {W : WX} {a b c e o i : Expr} {es : List Expr} {fa fb fc f fo fi fv : FE} {ft : FT} {fl : FA} {pos p apos cpos pos' : Pos} {σ : L2.St} {x : Str}

/-! ### o[i] = v, o a cell with a list -/
def tgIxL (fo fi : FE) : FG := fun v ρ μ N => fo ρ μ (fun x m1 => fi ρ m1 (fun y m2 => ∃ n ds k j, x = .cell n ∧ m2[n]? = some (.lst ds) ∧ y = .int k ∧ ixN ds.length k = some j ∧ N ρ (m2.set n (.lst (ds.set j v)))) NE) NE
theorem mIxL (mo : MonE fo) (mi : MonE fi) : MonTg (tgIxL fo fi) := fun v ρ μ N N' h q => mo ρ μ _ _ _ _ (fun x m1 z => mi ρ m1 _ _ _ _ (fun y m2 ⟨n, ds, k, j, e1, e2, e3, e4, z⟩ => ⟨n, ds, k, j, e1, e2, e3, e4, h _ _ z⟩) (fun _ _ _ z => z) z) (fun _ _ _ z => z) q
theorem dg_ixL (ho : DE X W o fo) (hi : DE X W i fi)
    (ha : ∀ v, assign (.Subscript o i pos) X.env v = (do
      let ov ← holding [v] (eval o X.env)
      let iv ← holding [v, ov] (eval i X.env)
      standAt pos
      holding [v, ov, iv] (setItem ov iv v)
      release [v, ov, iv] []) := by intro _; rfl) : DG X (.Subscript o i pos) (tgIxL fo fi) := by
  refine ⟨mIxL ho.mono hi.mono, _, pg_sub ho.run hi.run set_list ha, fun ι H σ ρ μ v d N r l a q => ?_⟩
  refine chain1 ho.mono r l (ho.mono ρ μ _ _ _ _ (fun _ _ z => z) (fun _ _ _ z => NE.ew z) q) fun x μ1 ι1 H1 u q1 g1 r1 l1 a1 => ?_
  refine chain1 hi.mono r1 l1 (hi.mono ρ μ1 _ _ _ _ (fun _ _ z => z) (fun _ _ _ z => NE.ew z) q1) fun y μ2 ι2 H2 w q2 g2 r2 l2 a2 => ?_
  obtain ⟨n, ds, k, j, rfl, e2, rfl, e4, z⟩ := q2
  have a1' := a1.gr g2
  cases a2
  cases a1 with
  | @cell p _ hn0 =>
    have hn := g2.pre _ _ hn0
    obtain ⟨vs, h1, h2⟩ := r2.at_ n p _ hn e2
    have gc := Gr.chg (H := H2) (o := .lst (vs.set j v)) (List.mem_of_getElem? hn)
    exact ⟨p, vs, k, j, rfl, rfl, h1, by rw [h2.1]; exact e4, z ι2 _ σ ((g1.trans g2).trans gc) (r2.chg hn ⟨_, upd_same, ((h2.gr gc).set (((a.gr g1).gr g2).gr gc) j)⟩) (l2.gr gc)⟩

/-! ### methods of lists -/
abbrev GM := D → List D → Sto → QD → Prop
def MonM (g : GM) : Prop := ∀ x ds μ (Q Q' : QD), (∀ d m, Q d m → Q' d m) → g x ds μ Q → g x ds μ Q'
structure MtD (X : Cx) (id : String) (g : GM) : Prop where
  mono : MonM g
  run : ∃ r, MtR X id r ∧ ∀ ι H μ x vs dx ds Q, Rep X.K ι μ H → At X.K ι H x dx → Ats X.K ι H vs ds → g dx ds μ (QV X.K ι H Q) → r x vs H Q
def fBL (g : GM) (fo : FE) (fl : FA) : FE := fun ρ μ Q E => fo ρ μ (fun x m1 => (∃ ds, asL m1 x = some ds) ∧ fl ρ m1 (fun ds m2 => g x ds m2 Q) E) E
theorem mBL {g : GM} (mg : MonM g) (mo : MonE fo) (ml : MonA fl) : MonE (fBL g fo fl) := fun ρ μ Q Q' E E' h he q =>
  mo ρ μ _ _ E E' (fun x m1 ⟨e, z⟩ => ⟨e, ml ρ m1 _ _ E E' (fun ds m2 z => mg x ds m2 _ _ h z) he z⟩) he q
theorem de_bmL {g : GM} {id : String} {name : Str} (pa : PlainAttrs "list") (slot : Slot "list" name id) (hty : typeOf (.builtin id) = pure (.type "method_descriptor")) (hm : MtD X id g) (ho : DE X W o fo) (ha : DA X W (e :: es) fl)
    (hbase : attributeBase o name X.env (eval o X.env) = eval o X.env := by rfl)
    (hfew : ((backTo cpos (starEach (e :: es) X.env)).all (fun x => !x.1) && (backToKw cpos (keywordEach [] X.env)).all (fun x => x.1.isSome)
      && decide ((e :: es).length + ([] : List Keyword).length + (if ([] : List Keyword).isEmpty then 0 else 1) < 30)) = true := by rfl)
    (hline : (apos.endLine == cpos.line) = true := by rfl) (hs : starEach (e :: es) X.env = (false, eval e X.env) :: starEach es X.env := by rfl) (hplain : (backTo cpos (starEach es X.env)).any (·.1) = false := by rfl) :
    DE X W (.Call (.Attribute o name apos) (e :: es) [] cpos) (fBL g fo fl) := by
  obtain ⟨r, hr, k⟩ := hm.run
  refine ⟨mBL hm.mono ho.mono ha.mono, PE.imp (pe_bm pa slot hty hr ho.run ha.run hbase hfew hline hs hplain) fun σ H Q ⟨ι, ρ, μ, rp, l, q⟩ => chain1 ho.mono rp l q fun x μ1 ι1 H1 v q1 g1 r1 l1 a1 => ?_⟩
  obtain ⟨⟨ds0, e0⟩, z⟩ := q1
  obtain ⟨p, vs0, rfl, h1, h2⟩ := asL_at r1 a1 e0
  refine ⟨.inl ⟨rfl, vs0, SqL.of h1⟩, ?_⟩
  refine chainA ha.mono r1 l1 (ha.mono ρ μ1 _ _ _ _ (fun _ _ z => z) (fun _ _ _ z => EW.gr g1 z) z) fun ds μ2 ι2 H2 vs q2 g2 r2 l2 a2 => ?_
  exact k ι2 H2 μ2 _ vs x ds Q r2 (a1.gr g2) a2 (hm.mono _ _ _ _ _ (fun d m z => QV.gr (g1.trans g2) z) q2)
def gApp : GM := fun x ds μ Q => ∃ n xs y, x = .cell n ∧ ds = [y] ∧ μ[n]? = some (.lst xs) ∧ xs.length < sizeLine ∧ Q .non (μ.set n (.lst (xs ++ [y])))
theorem cell_at {K : PySem.W.Frag} {ι : Io} {H : Hp} {v : V} {n : Nat} (a : At K ι H v (.cell n)) : ∃ p, v = .ref p ∧ ι[n]? = some p := by cases a with | cell h => exact ⟨_, rfl, h⟩
theorem mtd_append : MtD X "list.append" gApp := by
  refine ⟨fun x ds μ Q Q' h ⟨n, xs, y, e1, e2, e3, e4, q⟩ => ⟨n, xs, y, e1, e2, e3, e4, h _ _ q⟩, rAppend, mt_append, fun ι H μ x vs dx ds Q r a as ⟨n, xs, y, e1, e2, e3, e4, q⟩ => ?_⟩
  subst e1; subst e2
  obtain ⟨u, rfl, au⟩ := as.one
  obtain ⟨p, rfl, hn⟩ := cell_at a
  obtain ⟨ws, h1, h2⟩ := r.at_ n p _ hn e3
  have gc := Gr.chg (H := H) (o := .lst (ws ++ [u])) (List.mem_of_getElem? hn)
  exact ⟨p, ws, u, rfl, rfl, h1, by rw [h2.1]; exact e4, q ι _ _ gc (r.chg hn ⟨_, upd_same, (h2.gr gc).app (Ats.cons (au.gr gc) Ats.nil)⟩) .non⟩
def gExt : GM := fun x ds μ Q => ∃ n xs y ys, x = .cell n ∧ ds = [y] ∧ μ[n]? = some (.lst xs) ∧ asL μ y = some ys ∧ xs.length + ys.length ≤ sizeLine ∧ Q .non (μ.set n (.lst (xs ++ ys)))
theorem mtd_extend : MtD X "list.extend" gExt := by
  refine ⟨fun x ds μ Q Q' h ⟨n, xs, y, ys, e1, e2, e3, e4, e5, q⟩ => ⟨n, xs, y, ys, e1, e2, e3, e4, e5, h _ _ q⟩, rExtend, mt_extend, fun ι H μ x vs dx ds Q r a as ⟨n, xs, y, ys, e1, e2, e3, e4, e5, q⟩ => ?_⟩
  subst e1; subst e2
  obtain ⟨u, rfl, au⟩ := as.one
  obtain ⟨p, rfl, hn⟩ := cell_at a
  obtain ⟨ws, h1, h2⟩ := r.at_ n p _ hn e3
  obtain ⟨p', zs, rfl, h3, h4⟩ := asL_at r au e4
  have gc := Gr.chg (H := H) (o := .lst (ws ++ zs)) (List.mem_of_getElem? hn)
  exact ⟨p, p', ws, zs, rfl, rfl, h1, h3, by rw [h2.1, h4.1]; exact e5, q ι _ _ gc (r.chg hn ⟨_, upd_same, (h2.gr gc).app (h4.gr gc)⟩) .non⟩
def gPopAt : GM := fun x ds μ Q => ∃ n xs i k y, x = .cell n ∧ ds = [.int i] ∧ μ[n]? = some (.lst xs) ∧ -(2 ^ 63) ≤ i ∧ i < 2 ^ 63 ∧ seqIndex? i xs.length = some k ∧ xs[k]? = some y ∧ Q y (μ.set n (.lst (xs.eraseIdx k)))
theorem mtd_popAt : MtD X "list.pop" gPopAt := by
  refine ⟨fun x ds μ Q Q' h ⟨n, xs, i, k, y, e1, e2, e3, e4, e5, e6, e7, q⟩ => ⟨n, xs, i, k, y, e1, e2, e3, e4, e5, e6, e7, h _ _ q⟩, rPopAt, mt_popAt, fun ι H μ x vs dx ds Q r a as ⟨n, xs, i, k, y, e1, e2, e3, e4, e5, e6, e7, q⟩ => ?_⟩
  subst e1; subst e2
  obtain ⟨u, rfl, au⟩ := as.one
  cases au
  obtain ⟨p, rfl, hn⟩ := cell_at a
  obtain ⟨ws, h1, h2⟩ := r.at_ n p _ hn e3
  obtain ⟨w, hw, aw⟩ := h2.get e7
  have gc := Gr.chg (H := H) (o := .lst (ws.eraseIdx k)) (List.mem_of_getElem? hn)
  exact ⟨p, ws, i, k, w, rfl, rfl, h1, e4, e5, by rw [h2.1]; exact e6, hw, q ι _ _ gc (r.chg hn ⟨_, upd_same, (h2.gr gc).erase k⟩) (aw.gr gc)⟩

/-! ### slices -/
abbrev FO := Rho → Sto → (Option Int → Sto → Prop) → ED → Prop
def OV (K : PySem.W.Frag) (ι : Io) (H : Hp) (Q : Option Int → Hp → Prop) : Option Int → Sto → Prop := fun b μ => ∀ ι' H', Gr ι H ι' H' → Rep K ι' μ H' → Q b H'
def rdO (K : PySem.W.Frag) (W : WX) (f : FO) : TO := fun σ H Q => ∃ ι ρ μ, Rep K ι μ H ∧ Loc K ι H σ ρ ∧ f ρ μ (OV K ι H Q) (EW K ι H W σ)
def MonO (f : FO) : Prop := ∀ ρ μ (Q Q' : Option Int → Sto → Prop) (E E' : ED), (∀ d m, Q d m → Q' d m) → (∀ c l m, E c l ρ m → E' c l ρ m) → f ρ μ Q E → f ρ μ Q' E'
structure DO (X : Cx) (W : WX) (e : Option Expr) (f : FO) : Prop where
  mono : MonO f
  run : PO X e (rdO X.K W f)
theorem PO.imp {X : Cx} {e : Option Expr} {t t' : TO} (h : PO X e t) (k : ∀ σ H Q, t' σ H Q → t σ H Q) : PO X e t' := ⟨fun pins s σ H Q I q => h.run pins s σ H Q I (k σ H Q q)⟩
def oNo : FO := fun _ μ Q _ => Q none μ
def oYes (f : FE) : FO := fun ρ μ Q E => f ρ μ (fun d m => ∃ i, d = .int i ∧ Q (some i) m) E
theorem do_none : DO X W none oNo := ⟨fun ρ μ Q Q' E E' h _ q => h _ _ q, PO.imp po_none fun σ H Q ⟨ι, ρ, μ, r, l, q⟩ => q ι H (Gr.refl _ _) r⟩
theorem do_some (h : DE X W e f) : DO X W (some e) (oYes f) :=
  ⟨fun ρ μ Q Q' E E' hh he q => h.mono ρ μ _ _ E E' (fun d m ⟨i, e, z⟩ => ⟨i, e, hh _ _ z⟩) he q, PO.imp (po_some h.run) fun σ H Q ⟨ι, ρ, μ, r, l, q⟩ => chain1 h.mono r l q fun d μ1 ι1 H1 v q1 g1 r1 l1 a1 => by
    obtain ⟨i, rfl, z⟩ := q1
    cases a1
    exact ⟨i, rfl, z ι1 H1 g1 r1⟩⟩
theorem chainO {K : PySem.W.Frag} {ι : Io} {H : Hp} {ρ : Rho} {μ : Sto} {fo : FO} (ha : MonO fo) {R : Option Int → Hp → Prop} {P : Option Int → Sto → Prop} (r : Rep K ι μ H) (l : Loc K ι H σ ρ) (h : fo ρ μ P (EW K ι H W σ))
    (k : ∀ d μ1 ι1 H1, P d μ1 → Gr ι H ι1 H1 → Rep K ι1 μ1 H1 → Loc K ι1 H1 σ ρ → R d H1) : rdO K W fo σ H R :=
  ⟨ι, ρ, μ, r, l, ha ρ μ _ _ _ _ (fun d m q ι1 H1 g r1 => k d m ι1 H1 q g r1 (l.gr g)) (fun _ _ _ q => q) h⟩
def cutD (ds : List D) (lo hi : Option Int) : List D := (ds.drop (HT.sIx ds.length 0 lo)).take (HT.sIx ds.length ds.length hi - HT.sIx ds.length 0 lo)
theorem Ats.cut {K : PySem.W.Frag} {ι : Io} {H : Hp} {vs : List V} {ds : List D} (r : Ats K ι H vs ds) (lo hi : Option Int) : Ats K ι H (cutV vs lo hi) (cutD ds lo hi) := by
  unfold cutV cutD
  rw [r.1]
  exact (r.drop _).take _
def fSlL (fo : FE) (flo fhi : FO) : FE := fun ρ μ Q E => fo ρ μ (fun x m1 => flo ρ m1 (fun lo m2 => fhi ρ m2 (fun hi m3 => ∃ ds, asL m3 x = some ds ∧ gNewL (cutD ds lo hi) m3 Q) E) E) E
theorem de_slL {lo hi : Option Expr} {flo fhi : FO} {p2 : Pos} (ho : DE X W o fo) (hl : DO X W lo flo) (hh : DO X W hi fhi) : DE X W (.Subscript o (.Slice lo hi none p2) pos) (fSlL fo flo fhi) := by
  refine ⟨fun ρ μ Q Q' E E' h he q => ho.mono ρ μ _ _ E E' (fun x m1 z => hl.mono ρ m1 _ _ E E' (fun lo m2 z => hh.mono ρ m2 _ _ E E' (fun hi m3 ⟨ds, e, z⟩ => ⟨ds, e, gNewL_mono h z⟩) he z) he z) he q,
    PE.imp (pe_slice sl_list ho.run hl.run hh.run) fun σ H Q ⟨ι, ρ, μ, r, l, q⟩ => chain1 ho.mono r l q fun x μ1 ι1 H1 v q1 g1 r1 l1 a1 => ?_⟩
  refine chainO hl.mono r1 l1 (hl.mono ρ μ1 _ _ _ _ (fun _ _ z => z) (fun _ _ _ z => EW.gr g1 z) q1) fun lo μ2 ι2 H2 q2 g2 r2 l2 => ?_
  refine chainO hh.mono r2 l2 (hh.mono ρ μ2 _ _ _ _ (fun _ _ z => z) (fun _ _ _ z => EW.gr (g1.trans g2) z) q2) fun hi μ3 ι3 H3 q3 g3 r3 l3 => ?_
  obtain ⟨ds, e, z⟩ := q3
  obtain ⟨p, vs, rfl, h1, h2⟩ := asL_at r3 ((a1.gr g2).gr g3) e
  exact ⟨p, vs, rfl, SqL.of h1, fun l hl => newL_ok r3 (h2.cut lo hi) (gNewL_mono (fun d m z => QV.gr ((g1.trans g2).trans g3) z) z) l hl⟩

/-! ### s.join(xs) -/
theorem strs_at {K : PySem.W.Frag} {ι : Io} {H : Hp} : ∀ {vs : List V} {ys : List Str}, Ats K ι H vs (ys.map D.str) → vs = ys.map V.str
  | vs, [], r => Ats.unnil r
  | vs, y :: ys, r => by
    obtain ⟨v, vs', rfl, a, r'⟩ := Ats.uncons (ds := ys.map D.str) (d := .str y) r
    cases a
    rw [strs_at r']
    rfl
def fJoin (fo fe : FE) : FE := fun ρ μ Q E => fo ρ μ (fun x m1 => ∃ a, x = .str a ∧ fe ρ m1 (fun d m2 => ∃ ys : List Str, asS m2 d = some (ys.map D.str) ∧ (ys.map (·.length)).sum + ys.length * a.length ≤ 16777216 ∧ Q (.str (Txt.join a ys)) m2) E) E
theorem de_join (ho : DE X W o fo) (he : DE X W e f) (hs : starEach [e] X.env = [(false, eval e X.env)] := by rfl) (hbase : attributeBase o "join" X.env (eval o X.env) = eval o X.env := by rfl) (hline : (apos.endLine == pos.line) = true := by rfl) :
    DE X W (.Call (.Attribute o "join" apos) [e] [] pos) (fJoin fo f) := by
  refine ⟨fun ρ μ Q Q' E E' h hE q => ho.mono ρ μ _ _ E E' (fun x m1 ⟨a, e1, z⟩ => ⟨a, e1, he.mono ρ m1 _ _ E E' (fun d m2 ⟨ys, e2, e3, z⟩ => ⟨ys, e2, e3, h _ _ z⟩) hE z⟩) hE q,
    PE.imp (pe_join ho.run he.run hs hbase hline) fun σ H Q ⟨ι, ρ, μ, r, l, q⟩ => chain1 ho.mono r l q fun x μ1 ι1 H1 v q1 g1 r1 l1 a1 => ?_⟩
  obtain ⟨a, rfl, z⟩ := q1
  cases a1
  refine ⟨⟨a, rfl⟩, chain1 he.mono r1 l1 (he.mono ρ μ1 _ _ _ _ (fun _ _ z => z) (fun _ _ _ z => EW.gr g1 z) z) fun d μ2 ι2 H2 u q2 g2 r2 l2 a2 => ?_⟩
  obtain ⟨ys, e2, e3, z⟩ := q2
  obtain ⟨p, vs, rfl, h1, h2⟩ := asS_at r2 a2 e2
  cases strs_at h2
  exact ⟨a, p, ys, rfl, rfl, h1, e3, z ι2 H2 _ (g1.trans g2) r2 (.str _)⟩

/-! ### range -/
theorem walks_rng {K : PySem.W.Frag} {ι : Io} {H : Hp} {lo : Int} {n : Nat} {st : Sto → Prop} : Walks K (Itr lo n) ι H ((List.range n).map fun (i : Nat) => D.int (lo + (i : Int))) st := by
  refine ⟨fun ι' H' μ' i x g r s hx => ?_, fun ι' H' μ' i g r s hx0 => have hx := Nat.le_of_eq hx0; (show n ≤ i by simpa using hx)⟩
  rw [List.getElem?_map, Option.map_eq_some_iff] at hx
  obtain ⟨j, hj, rfl⟩ := hx
  have hi : i < n := by have := (List.getElem?_eq_some_iff.mp hj).1; simpa using this
  have e : j = i := by rw [List.getElem?_range hi] at hj; exact (Option.some.inj hj).symm
  subst e
  refine ⟨hi, fun v H2 hy => ?_⟩
  obtain ⟨rfl, rfl⟩ := hy
  exact ⟨Gr.refl _ _, r, .int _⟩
def iRg1 (fl : FA) : FI := fun ρ μ Q E => fl ρ μ (fun ds m => ∃ j : Int, ds = [.int j] ∧ -(2 ^ 62) ≤ j ∧ j < 2 ^ 62 ∧ Q ((List.range j.toNat).map fun (i : Nat) => D.int (0 + (i : Int))) (fun _ => True) m) E
theorem ints_at1 {K : PySem.W.Frag} {ι : Io} {H : Hp} {vs : List V} {j : Int} (a : Ats K ι H vs [.int j]) : vs = [.int j] := by
  obtain ⟨v, rfl, a1⟩ := a.one
  cases a1
  rfl
theorem di_rng1 {tg : Expr} (hg : Gl X "range") (hm : X.mg "range" = none) (ha : DA X W [a] fl) (hs : starEach [a] X.env = [(false, eval a X.env)] := by rfl) : DI X W tg (.Call (.Name "range" p) [a] [] pos) (iRg1 fl) :=
  ⟨fun ρ μ Q Q' E E' h he q => ha.mono ρ μ _ _ E E' (fun ds m ⟨j, e1, e2, e3, z⟩ => ⟨j, e1, e2, e3, h _ _ _ z⟩) he q,
   PI.imp (pi_range1 hg hm ha.run hs) fun σ H R ⟨ι, ρ, μ, r, l, q⟩ => chainA ha.mono r l q fun ds μ1 ι1 H1 vs q1 g1 r1 l1 a1 => by
    obtain ⟨j, rfl, e2, e3, z⟩ := q1
    cases ints_at1 a1
    exact ⟨j, rfl, e2, e3, z ι1 H1 _ g1 r1 walks_rng⟩⟩
end
end Dl

namespace Dl
open PySem PySem.Spec L2
open PyProof.Rows hiding St Binds

def NW : WX := fun _ _ _ _ => False
def wipeD (ρ : Rho) : List Nat → Rho
  | [] => ρ
  | v :: vs => (wipeD ρ vs).set v none
section
variable {K : PySem.W.Frag} {ι : Io} {H : Hp} {σ σ' : L2.St} {ρ : Rho}
theorem Loc.unset (h : Loc K ι H σ ρ) (i : Nat) : Loc K ι H (σ.set i none) (ρ.set i none) := by
  refine ⟨by simp [h.1], fun j e q => ?_⟩
  by_cases hj : i = j
  · subst hj
    have hl : i < ρ.length := by
      have := (List.getElem?_eq_some_iff.mp q).1
      simpa using this
    rw [List.getElem?_set_self hl] at q
    cases q
  · rw [List.getElem?_set_ne hj] at q
    obtain ⟨w, e1, a1⟩ := h.2 j e q
    exact ⟨w, by rw [List.getElem?_set_ne hj]; exact e1, a1⟩
theorem Loc.wipe (h : Loc K ι H σ ρ) : ∀ vs : List Nat, Loc K ι H (wipe σ vs) (wipeD ρ vs)
  | [] => h
  | v :: vs => (h.wipe vs).unset v
def Out (js : List Nat) (σ σ' : L2.St) : Prop := σ'.length = σ.length ∧ ∀ i, i ∉ js → σ'[i]? = σ[i]?
theorem Out.refl {js : List Nat} : Out js σ σ := ⟨rfl, fun _ _ => rfl⟩
theorem Out.trans {js : List Nat} {σ1 σ2 σ3 : L2.St} (a : Out js σ1 σ2) (b : Out js σ2 σ3) : Out js σ1 σ3 := ⟨b.1.trans a.1, fun i h => (b.2 i h).trans (a.2 i h)⟩
theorem Out.set {js : List Nat} {j : Nat} {v : Option V} (h : j ∈ js) : Out js σ (σ.set j v) :=
  ⟨by simp, fun i hi => List.getElem?_set_ne (show j ≠ i from fun e => hi (e ▸ h))⟩
theorem wipe_in : ∀ {vs : List Nat} {i : Nat}, i ∈ vs → i < σ.length → (L2.wipe σ vs)[i]? = some none
  | v :: vs, i, h, hl => by
    unfold L2.wipe
    by_cases e : v = i
    · subst e; exact List.getElem?_set_self (by rw [wipe_length]; exact hl)
    · rw [List.getElem?_set_ne e]
      exact wipe_in (by rcases List.mem_cons.mp h with z | z; exact absurd z.symm e; exact z) hl
theorem wipe_out : ∀ {vs : List Nat} {i : Nat}, i ∉ vs → (L2.wipe σ vs)[i]? = σ[i]?
  | [], _, _ => rfl
  | v :: vs, i, h => by
    unfold L2.wipe
    rw [List.getElem?_set_ne (show v ≠ i from fun e => h (e ▸ List.mem_cons_self))]
    exact wipe_out fun z => h (List.mem_cons_of_mem _ z)
theorem Out.wipe {vs : List Nat} (o : Out vs (L2.wipe σ vs) σ') : L2.wipe σ' vs = L2.wipe σ vs := by
  have hl : σ'.length = σ.length := by rw [o.1, wipe_length]
  refine List.ext_getElem? fun i => ?_
  by_cases h : i ∈ vs
  · by_cases hi : i < σ.length
    · rw [wipe_in h hi, wipe_in h (by rw [hl]; exact hi)]
    · rw [List.getElem?_eq_none (by rw [wipe_length, hl]; omega), List.getElem?_eq_none (by rw [wipe_length]; omega)]
  · rw [wipe_out h, o.2 i h]
end

/-- a target whose slots are among js -/
def SV1 (K : PySem.W.Frag) (ι : Io) (H : Hp) (js : List Nat) (σ : L2.St) (N : L2.St → Hp → Prop) : Rho → Sto → Prop := fun ρ μ => ∀ ι' H' σ', Gr ι H ι' H' → Rep K ι' μ H' → Loc K ι' H' σ' ρ → Out js σ σ' → N σ' H'
def rdG (K : PySem.W.Frag) (js : List Nat) (g : FG) : TG := fun v σ H N => ∃ ι ρ μ d, Rep K ι μ H ∧ Loc K ι H σ ρ ∧ At K ι H v d ∧ g d ρ μ (SV1 K ι H js σ N)
structure DGw (X : Cx) (tg : Expr) (js : List Nat) (g : FG) : Prop where
  mono : MonTg g
  run : PG X tg (rdG X.K js g)
theorem PG.imp {X : Cx} {tg : Expr} {t t' : TG} (h : PG X tg t) (k : ∀ v σ H N, t' v σ H N → t v σ H N) : PG X tg t' := ⟨fun pins s σ H v u Q I r q => h.run pins s σ H v u Q I r (k v σ H Q q)⟩
theorem PGs.imp {X : Cx} {tg : List Expr} {t t' : TGs} (h : PGs X tg t) (k : ∀ v σ H N, t' v σ H N → t v σ H N) : PGs X tg t' := ⟨fun pins s σ H v u Q I r q => h.run pins s σ H v u Q I r (k v σ H Q q)⟩
section
variable {X : Cx} {js : List Nat} {pos : Pos}
theorem dgw_name {i : Nat} {x : Str} (hN : X.N.Nodup) (hi : X.N[i]? = some x) (hx : L2.Loc X.env.scope x) (hj : i ∈ js)
    (hf : X.fn x = true ∨ X.env.scope.names.lookup x = some .local := by first | exact .inl rfl | exact .inr rfl | assumption) : DGw X (.Name x pos) js (tgName i) :=
  ⟨fun d ρ μ N N' h q => h _ _ q, PG.imp (pg_name hN hi hx hf) fun v σ H N ⟨ι, ρ, μ, d, r, l, a, q⟩ => q ι H _ (Gr.refl _ _) r (l.set a i) (Out.set hj)⟩
/-- a clause's tests -/
structure DTs (X : Cx) (ifs : List Expr) (f : FT) : Prop where
  mono : MonT f
  run : PTs X ifs (rdT X.K NW f)
def tTrue : FT := fun _ μ Q _ => Q true μ
theorem dts_nil : DTs X [] tTrue := ⟨fun ρ μ Q Q' E E' h _ q => h _ _ q, ⟨fun pins s σ H Q I ⟨ι, ρ, μ, r, l, q⟩ => pts_nil.run pins s σ H Q I (q ι H (Gr.refl _ _) r)⟩⟩
theorem dts_one {c : Expr} {f : FT} (h : DT X NW c f) : DTs X [c] f := ⟨h.mono, pts_one h.run⟩
end

/-! ### [elt for tg in iter if ..] -/
def fLc (fi : FI) (g : FG) (ft : FT) (fe : FE) (vs : List Nat) : FE := fun ρ μ Q E => fi ρ μ (fun xs st m => ∃ I : Nat → Sto → Prop, I 0 (m ++ [.lst []]) ∧ (∀ i μ', I i μ' → st μ') ∧
  (∀ i x μ', xs[i]? = some x → I i μ' → g x (wipeD ρ vs) μ' (fun ρ2 μ2 => ft ρ2 μ2 (fun b m3 =>
    if b = true then fe ρ2 m3 (fun y m4 => ∃ acc, m4[m.length]? = some (.lst acc) ∧ acc.length < sizeLine ∧ I (i + 1) (m4.set m.length (.lst (acc ++ [y])))) NE else I (i + 1) m3) NE)) ∧
  ∀ μ', I xs.length μ' → ∃ d2 μ2, Fz m.length (.cell m.length) μ' d2 μ2 ∧ Q d2 μ2) E
section
variable {X : Cx} {W : WX} {elt tg iter : Expr} {ifs : List Expr} {scope : Scope} {own : List (Str × Nat)} {pos spos py : Pos} {fi : FI} {g : FG} {ft : FT} {fe : FE} {σ : L2.St} {H : Hp} {Q : VK} {vs : List Nat}
theorem mLc (mi : MonI fi) : MonE (fLc fi g ft fe vs) := fun ρ μ Q Q' E E' h he q => mi ρ μ _ _ E E' (fun xs st m ⟨I, h0, h1, h2, h3⟩ => ⟨I, h0, h1, h2, fun μ' z => let ⟨d2, μ2, e, q⟩ := h3 μ' z; ⟨d2, μ2, e, h _ _ q⟩⟩) he q
theorem rdLc {K : PySem.W.Frag} (mi : MonI fi) (mg : MonTg g) (mt : MonT ft) (me : MonE fe) (h : rdE K W (fLc fi g ft fe vs) σ H Q) :
    tLc (rdI K W fi) (rdG K vs g) (rdT K NW ft) (rdE K NW fe) vs σ H Q := by
  obtain ⟨ι, ρ, μ, r, l, q⟩ := h
  refine ⟨ι, ρ, μ, r, l, mi ρ μ _ _ _ _ (fun xs st m z => ?_) (fun _ _ _ z => z) q⟩
  intro ι1 H1 J g1 r1 wk D hD
  obtain ⟨I, h0, hst, ht, hd⟩ := z
  have gN := Gr.cellNew (o := .lst []) hD (r1.free hD)
  have rN := r1.cellNew (o := .lst []) (c := .lst []) hD ⟨[], upd_same, Ats.nil⟩
  have lN := (l.gr g1).gr gN
  have dN : (ι1 ++ [D])[m.length]? = some D := by rw [List.getElem?_append_right (by rw [r1.len]; exact Nat.le_refl _), r1.len, Nat.sub_self]; rfl
  refine ⟨fun i n H' => n = xs.length - i ∧ i ≤ xs.length ∧ ∃ ι' μ', Gr (ι1 ++ [D]) (upd H1 D (.lst [])) ι' H' ∧ Rep K ι' μ' H' ∧ I i μ', ⟨xs.length, by simp, Nat.zero_le _, _, _, Gr.refl _ _, rN, h0⟩, ?_⟩
  rintro i n H' ⟨rfl, hle, ι', μ', g', r', hI⟩
  by_cases hlt : i < xs.length
  · have hx : xs[i]? = some xs[i] := List.getElem?_eq_getElem hlt
    obtain ⟨w1, w2⟩ := wk.go ι' H' μ' i _ (gN.trans g') r' (hst i μ' hI) hx
    refine .inr ⟨w1, fun H2 => ∃ ι2 μ2, Gr (ι1 ++ [D]) (upd H1 D (.lst [])) ι2 H2 ∧ Rep K ι2 μ2 H2 ∧ I (i + 1) μ2, fun H2 z => ⟨xs.length - (i + 1), by omega, rfl, hlt, z⟩, fun v H2 hy => ?_⟩
    obtain ⟨gy, ry, ay⟩ := w2 v H2 hy
    refine ⟨ι', wipeD ρ vs, μ', _, ry, ((lN.gr g').gr gy).wipe vs, ay, mg _ _ _ _ _ (fun ρ2 μ2 z => ?_) (ht i _ μ' hx hI)⟩
    intro ι3 H3 σ3 g3 r3 l3 o3
    refine ⟨o3.wipe, ?_⟩
    refine chainT mt r3 l3 (mt ρ2 μ2 _ _ _ _ (fun _ _ z => z) (fun _ _ _ z => NE.ew z) z) fun b μ4 ι4 H4 z g4 r4 l4 => ?_
    have gg := ((g'.trans gy).trans g3).trans g4
    cases b with
    | false => exact ⟨ι4, μ4, gg, r4, z⟩
    | true =>
      refine chain1 me r4 l4 (me ρ2 μ4 _ _ _ _ (fun _ _ z => z) (fun _ _ _ z => NE.ew z) z) fun y μ5 ι5 H5 u z g5 r5 l5 a5 => ?_
      obtain ⟨acc, e1, e2, z⟩ := z
      have d5 := (gg.trans g5).pre _ _ dN
      obtain ⟨ws, h1, h2⟩ := r5.at_ _ D _ d5 e1
      have gc := Gr.chg (H := H5) (o := .lst (ws ++ [u])) (List.mem_of_getElem? d5)
      exact ⟨ws, h1, by rw [h2.1]; exact e2, ι5, _, (gg.trans g5).trans gc, r5.chg (c := .lst (acc ++ [y])) d5 ⟨_, upd_same, (h2.gr gc).app (Ats.cons (a5.gr gc) Ats.nil)⟩, z⟩
  · have e : i = xs.length := by omega
    subst e
    obtain ⟨d2, μ2, fz, q⟩ := hd μ' hI
    obtain ⟨ι2, s1, s2, s3⟩ := fz.sound (ι0 := ι1) (H0 := H1) r1.len r' (.cell (g'.pre _ _ dN)) (gN.trans g')
    exact .inl ⟨wk.stop ι' H' μ' _ (gN.trans g') r' (hst _ μ' hI) rfl, q ι2 H' _ (g1.trans s3) s1 s2⟩
theorem de_lc (hc : X.calm = true) (hN : X.N.Nodup) (hi : DI X W tg iter fi) (ok : BlkOk X.N X.env.scope scope own)
    (hg : ∀ (s : Shared) (H : Hp) (C : Addr) (cl : List (Str × Addr)) (fp : List Addr), DGw (X.blk s H scope (compEnvC scope cl C X.env) fp) tg (own.map (·.2)) g)
    (ht : ∀ (s : Shared) (H : Hp) (C : Addr) (cl : List (Str × Addr)) (fp : List Addr), DTs (X.blk s H scope (compEnvC scope cl C X.env) fp) ifs ft)
    (he : ∀ (s : Shared) (H : Hp) (C : Addr) (cl : List (Str × Addr)) (fp : List Addr), DE (X.blk s H scope (compEnvC scope cl C X.env) fp) NW elt fe)
    (hs : ∀ x, foldedSetIterable iter X.env x = pure x := by intro _; rfl) : DE X W (.ListComp elt [⟨tg, iter, ifs, 0⟩] scope pos) (fLc fi g ft fe (own.map (·.2))) :=
  ⟨mLc hi.mono, PE.imp (pe_lc hc hN hi.run ok (fun s H C cl fp => (hg s H C cl fp).run) (fun s H C cl fp => (ht s H C cl fp).run) (fun s H C cl fp => (he s H C cl fp).run) hs)
    fun σ H Q h => rdLc hi.mono (hg X.s_0 X.H_0 0 [] []).mono (ht X.s_0 X.H_0 0 [] []).mono (he X.s_0 X.H_0 0 [] []).mono h⟩
end
end Dl

namespace Dl
open PySem PySem.Spec L2
open PyProof.Rows hiding St Binds

/-! ### a def's body -/
def startD (n : Nat) (ds : List D) : Rho := ds.map some ++ List.replicate (n - ds.length) none
theorem Loc.start {K : PySem.W.Frag} {ι : Io} {H : Hp} {N : List Str} {vs : List V} {ds : List D} (a : Ats K ι H vs ds) : Loc K ι H (L2.start N vs) (startD N.length ds) := by
  unfold L2.start startD
  refine ⟨by simp [a.1], fun i d h => ?_⟩
  by_cases hi : i < ds.length
  · rw [List.getElem?_append_left (by simpa using hi), List.getElem?_map, Option.map_eq_some_iff] at h
    obtain ⟨d', e, e2⟩ := h
    cases e2
    obtain ⟨v, hv, av⟩ := a.get e
    refine ⟨v, ?_, av⟩
    rw [List.getElem?_append_left (by rw [List.length_map, a.1]; exact hi), List.getElem?_map, hv]
    rfl
  · rw [List.getElem?_append_right (by simpa using hi)] at h
    have := List.mem_of_getElem? h
    rw [List.mem_replicate] at this
    cases this.2
/-- the wishes of a body's end, by those of the call -/
def endK (n : Nat) (Q : QD) (E : XD) : DK where
  nx := fun _ m => ∃ d2 μ2, Fz n .non m d2 μ2 ∧ Q d2 μ2
  rt := fun d m => ∃ d2 μ2, Fz n d m d2 μ2 ∧ Q d2 μ2
  ex := fun c l _ m => ∃ m2 mx, m = m2 ++ mx ∧ n ≤ m2.length ∧ bdF m2.length l = true ∧ bdS m2.length m2 = true ∧ E c l m2
section
variable {P : Program} {w : World} {K : PySem.W.Frag} {mg : Str → Option Value} {base : Heap} {x qual : Str} {st : Stmt} {f : Addr} {fd : FuncData} {N ps : List Str} {k : Nat} {F : FD} {fs : FS}
theorem fn_body (Fu : FunA K x qual st f fd) (S : FnScope N ps (defScope st)) (len : ∀ ds μ Q E, F ds μ Q E → ds.length = ps.length)
    (body : ∀ (cdv : Value) (A : Around) (outer : List Env) (s : Shared) (H : Hp) (E : XK), (A.deeper (envOfC qual (defScope st) s.heap.objs.size f cdv)).guards = some [] → Room k (A.deeper (envOfC qual (defScope st) s.heap.objs.size f cdv)) →
      DB (cxOf (L2.CX P w) P w K mg base N qual (defScope st) f cdv A outer s H E) (fun c d _ H' => E c d H') (defBody st) fs)
    (sem : ∀ ds μ Q E, F ds μ Q E → fs (endK μ.length Q E) (startD N.length ds) μ) : FnG P w K mg base (L2.CX P w) (k + 1) f fd ps (spD K F) := by
  refine gfunX Fu S (fun vs H Q E h => ?_) (fun cdv A outer s H vs Q E hG hr h => ?_)
  · obtain ⟨ι, μ, ds, r, a, q⟩ := h
    rw [a.1]; exact len _ _ _ _ q
  · obtain ⟨ι, μ, ds, r, a, q⟩ := h
    have B := body cdv A outer s H E hG hr
    refine ⟨_, B.run, ι, _, μ, r, Loc.start a, B.mono _ _ (endK μ.length (QV K ι H Q) (XV K ι H E)) _ ⟨fun ρ m z => ?_, fun d m z => ?_, fun c l ρ m z => ?_, fun ρ m z => (show False from z).elim, fun ρ m z => (show False from z).elim⟩ (sem _ _ _ _ q)⟩
    · intro ι' H' σ' g r' l'
      obtain ⟨d2, μ2, fz, q2⟩ := z
      obtain ⟨ι2, s1, s2, s3⟩ := fz.sound (ι0 := ι) (H0 := H) r.len r' .non g
      exact q2 ι2 H' .non s3 s1 s2
    · intro ι' H' v g r' a'
      obtain ⟨d2, μ2, fz, q2⟩ := z
      obtain ⟨ι2, s1, s2, s3⟩ := fz.sound (ι0 := ι) (H0 := H) r.len r' a' g
      exact q2 ι2 H' v s3 s1 s2
    · intro ι' H' dd fv σ' g r' hd p l'
      obtain ⟨m2, mx, rfl, ll, b1, b2, q2⟩ := z
      obtain ⟨ι1, ext, rfl, l1, _⟩ := split_io r'
      exact q2 ι1 H' dd fv (g.trunc (by rw [l1, r.len]; exact ll)) (r'.trunc l1 b2) hd ⟨p.1, fun i x y e1 e2 => (p.2 i x y e1 e2).trunc (by rw [l1]; exact bdF_get b1 e2)⟩
theorem cal_fun (Fu : Fun K x qual st f fd) (S : FnScope N ps (defScope st)) (hm : mg x = some (.ref f)) (hk : PySem.W.keepIn K (.ref f) = true) (hb : L2.Binds K fd ps []) (mono : MonF F) (len : ∀ ds μ Q E, F ds μ Q E → ds.length = ps.length)
    (body : ∀ (cdv : Value) (A : Around) (outer : List Env) (s : Shared) (H : Hp) (E : XK), (A.deeper (envOfC qual (defScope st) s.heap.objs.size f cdv)).guards = some [] → Room k (A.deeper (envOfC qual (defScope st) s.heap.objs.size f cdv)) →
      DB (cxOf (L2.CX P w) P w K mg base N qual (defScope st) f cdv A outer s H E) (fun c d _ H' => E c d H') (defBody st) fs)
    (sem : ∀ ds μ Q E, F ds μ Q E → fs (endK μ.length Q E) (startD N.length ds) μ) : Cal P w K mg base (k + 1) x F [] :=
  ⟨mono, f, fd, ps, [], [], fn_body (anyFun Fu) S len body sem, hm, hk, hb, .nil, fun _ _ => Ats.nil⟩
end

/-! ### repr -/
def okR (p : PyData) : Prop := p.showable = true ∧ p.hasDict = false ∧ p.shown.length ≤ sizeLine ∧ p.depth < 60
def gRepr : GC := fun xs μ Q => ∃ d p, xs = [d] ∧ pyS μ d = some p ∧ okR p ∧ Q (.str p.shown) μ
theorem cr_repr {X : Cx} (hG : X.A.guards = some []) (hu : X.A.units + 64 < cLine) : CallR X (.builtin "repr") (fun xs H Q => ∃ v p, xs = [v] ∧ Dp X.K H v p ∧ okR p ∧ Q (.str p.shown) H) := by
  intro pins s σ H xs us Q I rv h
  obtain ⟨v, p, rfl, hd, ⟨o1, o2, o3, o4⟩, q⟩ := h
  obtain ⟨u, rfl, ru⟩ := rv.one
  obtain ⟨as, rd⟩ := Dp.reads I p v u hd ru
  have fin : ∀ h' t tk, (∀ b o, s.heap.get? b = some o → h'.get? b = some o) → EP X pins σ Q (.str p.shown t) { s with heap := h', toks := tk } := fun h' t tk kp =>
    ⟨.str p.shown, H, I.kept (t' := tk) kp, ⟨t, rfl⟩, q⟩
  have tok : EP X pins σ Q (.str p.shown s.toks) { s with toks := s.toks + 1 } := fin s.heap s.toks (s.toks + 1) fun _ _ e => e
  cases hd with
  | non => cases ru; simp only [PyData.shown] at tok; exact PySem.P.repr_of_none tok
  | bl b => cases ru; simp only [PyData.shown] at tok; exact PySem.P.repr_of_bool tok
  | int i =>
    obtain ⟨t, rfl⟩ := ru
    simp only [PyData.shown] at tok
    exact PySem.P.repr_of_int (by simpa [PyData.showable] using o1) tok
  | str z =>
    obtain ⟨t, rfl⟩ := ru
    simp only [PyData.shown] at tok o3
    exact PySem.P.repr_of_str tok o3
  | lst h1 h2 => cases ru; exact repr_of_reads' rd o1 (PyData.noDict_hsm o2) hG (by omega) (fun _ _ e => e) fin o3
  | tup h1 h2 => cases ru; exact repr_of_reads' rd o1 (PyData.noDict_hsm o2) hG (by omega) (fun _ _ e => e) fin o3
/-! ### lists and tuples of lists that may still grow -/
def pyAllS (μ : Sto) : List D → Option (List PyData)
  | [] => some []
  | d :: ds => match pyS μ d, pyAllS μ ds with | some p, some ps => some (p :: ps) | _, _ => none
def pyT (μ : Sto) : D → Option PyData
  | .lst ds => (pyAllS μ ds).map .list
  | .tup ds => (pyAllS μ ds).map .tuple
  | d => pyS μ d
theorem pyAllS_cons {μ : Sto} {d : D} {ds : List D} {ps : List PyData} (h : pyAllS μ (d :: ds) = some ps) : ∃ p qs, pyS μ d = some p ∧ pyAllS μ ds = some qs ∧ ps = p :: qs := by
  unfold pyAllS at h
  split at h
  · rename_i e1 e2
    exact ⟨_, _, e1, e2, (Option.some.inj h).symm⟩
  · cases h
section
variable {K : PySem.W.Frag} {ι : Io} {H : Hp} {μ : Sto}
theorem dpAllS_of (r : Rep K ι μ H) : ∀ {ds : List D} {vs : List V} {ps : List PyData}, Ats K ι H vs ds → pyAllS μ ds = some ps → DpAll K H vs ps
  | [], vs, ps, a, h => by
    unfold pyAllS at h
    cases Option.some.inj h
    cases Ats.unnil a
    exact .nil
  | d :: ds, vs, ps, a, h => by
    obtain ⟨p, qs, e1, e2, rfl⟩ := pyAllS_cons h
    obtain ⟨v, vs', rfl, a1, a2⟩ := a.uncons
    exact .cons (dpS_of r a1 e1) (dpAllS_of r a2 e2)
theorem dpT_of {d : D} {v : V} {p : PyData} (r : Rep K ι μ H) (a : At K ι H v d) (h : pyT μ d = some p) : Dp K H v p := by
  cases d with
  | lst ds =>
    obtain ⟨ps, e, rfl⟩ := Option.map_eq_some_iff.mp h
    cases a with
    | lst h1 n l q => exact .lst (SqL.of h1) (dpAllS_of r ⟨l, q⟩ e)
  | tup ds =>
    obtain ⟨ps, e, rfl⟩ := Option.map_eq_some_iff.mp h
    cases a with
    | tup h1 n l q => exact .tup (.inl h1) (dpAllS_of r ⟨l, q⟩ e)
    | ktup h1 l q => exact .tup (h1 H) (dpAllS_of r ⟨l, q⟩ e)
  | _ => exact dpS_of r a h
end
def gReprT : GC := fun xs μ Q => ∃ d p, xs = [d] ∧ pyT μ d = some p ∧ okR p ∧ Q (.str p.shown) μ
theorem cad_reprT {X : Cx} (hG : X.A.guards = some []) (hu : X.A.units + 64 < cLine) : CaD X (.builtin "repr") gReprT := by
  refine ⟨fun xs μ Q Q' h ⟨d, p, e, e2, o, q⟩ => ⟨d, p, e, e2, o, h _ _ q⟩, _, cr_repr hG hu, fun ι H μ vs ds Q r a ⟨d, p, e, e2, o, q⟩ => ?_⟩
  subst e
  obtain ⟨v, rfl, a1⟩ := a.one
  exact ⟨v, p, rfl, dpT_of r a1 e2, o, q ι H _ (Gr.refl _ _) r (.str _)⟩
end Dl

namespace Dl
open PySem PySem.Spec L2
open PyProof.Rows hiding St Binds

theorem takesNW {X : Cx} : Takes X NW := fun u s' ⟨_, _, _, _, _, _, _, _, _, _, _, _, _, _, _, _, z⟩ => False.elim z
section
variable {X : Cx} {W : WX} {a b e : Expr} {f fa fb : FE} {fl : FA} {pos p : Pos}
/-- list(x) of the script: a new cell -/
def gListZ : GC := fun xs μ Q => ∃ ds, xs = [.fzl ds] ∧ ds.length ≤ sizeLine ∧ Q (.cell μ.length) (μ ++ [.lst ds])
theorem cad_listZ : CaD X (.type "list") gListZ :=
  ⟨fun xs μ Q Q' h ⟨ds, e, e2, q⟩ => ⟨ds, e, e2, h _ _ q⟩, _, call_list_of, fun ι H μ vs ds Q r a ⟨xs, e, e2, q⟩ => by
    subst e
    obtain ⟨v, rfl, a1⟩ := a.one
    cases a1 with
    | @fzl p ws _ h l rr => exact ⟨p, ws, rfl, .inl (h.elim (fun ⟨o, e, _⟩ => .inl (.inr ⟨o, e⟩)) fun k => k H), fun q' hq => newL_ok r ⟨l, rr⟩ ⟨e2, .inr q⟩ q' hq⟩⟩
/-- int(x) -/
def gInt : GC := fun xs μ Q => (∃ i, xs = [.int i] ∧ Q (.int i) μ) ∨ ∃ k, xs = [.bl k] ∧ Q (.int (if k then 1 else 0)) μ
theorem cad_int : CaD X (.type "int") gInt :=
  ⟨fun xs μ Q Q' h q => q.imp (fun ⟨i, e, q⟩ => ⟨i, e, h _ _ q⟩) (fun ⟨i, e, q⟩ => ⟨i, e, h _ _ q⟩), _, call_int1, fun ι H μ vs ds Q r a q => by
    rcases q with ⟨i, rfl, q⟩ | ⟨k, rfl, q⟩
    · obtain ⟨v, rfl, a1⟩ := a.one; cases a1; exact .inl ⟨i, rfl, q ι H _ (Gr.refl _ _) r (.int _)⟩
    · obtain ⟨v, rfl, a1⟩ := a.one; cases a1; exact .inr ⟨k, rfl, q ι H _ (Gr.refl _ _) r (.int _)⟩⟩
/-- tuple(x) of a list or a tuple -/
def gTupOf : GC := fun xs μ Q => ∃ d ds, xs = [d] ∧ asS μ d = some ds ∧ Q (.tup ds) μ
theorem cad_tuple : CaD X (.type "tuple") gTupOf :=
  ⟨fun xs μ Q Q' h ⟨d, ds, e, e2, q⟩ => ⟨d, ds, e, e2, h _ _ q⟩, _, call_tuple_of, fun ι H μ vs ds Q r a ⟨d, xs, e, e2, q⟩ => by
    subst e
    obtain ⟨v, rfl, a1⟩ := a.one
    cases d with
    | tup ds =>
      cases Option.some.inj e2
      obtain ⟨p, ws, rfl, h1, h2⟩ := tup_at a1
      exact ⟨p, ws, rfl, .inr ⟨h1, q ι H _ (Gr.refl _ _) r a1⟩⟩
    | _ =>
      obtain ⟨p, ws, rfl, h1, h2⟩ := asL_at r a1 e2
      exact ⟨p, ws, rfl, .inl ⟨SqL.of h1, fun l hl => q ι _ _ (Gr.new hl (r.free hl)) (r.new hl) (.newT hl (r.free hl) h2)⟩⟩⟩
/-- all(x), any(x) of a list of bools -/
def gAll : GC := fun xs μ Q => ∃ (d : D) (bs : List Bool), xs = [d] ∧ asL μ d = some (bs.map D.bl) ∧ Q (.bl (bs.all id)) μ
theorem bls_at {K : PySem.W.Frag} {ι : Io} {H : Hp} : ∀ {vs : List V} {ys : List Bool}, Ats K ι H vs (ys.map D.bl) → vs = ys.map V.bl
  | vs, [], r => Ats.unnil r
  | vs, y :: ys, r => by
    obtain ⟨v, vs', rfl, a, r'⟩ := Ats.uncons (ds := ys.map D.bl) (d := .bl y) r
    cases a
    rw [bls_at r']
    rfl
theorem cad_all (hc : X.calm = true) : CaD X (.builtin "all") gAll :=
  ⟨fun xs μ Q Q' h ⟨d, ds, e, e2, q⟩ => ⟨d, ds, e, e2, h _ _ q⟩, _, cr_all hc, fun ι H μ vs ds Q r a ⟨d, bs, e, e2, q⟩ => by
    subst e
    obtain ⟨v, rfl, a1⟩ := a.one
    obtain ⟨p, ws, rfl, h1, h2⟩ := asL_at r a1 e2
    cases bls_at h2
    exact ⟨p, bs, rfl, SqL.of h1, q ι H _ (Gr.refl _ _) r (.bl _)⟩⟩
/-- -a -/
def fNeg (f : FE) : FE := fun ρ μ Q E => f ρ μ (fun d m => ∃ i, d = .int i ∧ Q (.int (-i)) m) E
/-- for c in s -/
def iStrD (f : FE) : FI := fun ρ μ Q E => f ρ μ (fun d m => ∃ x : Str, d = .str x ∧ Q (x.cps.toList.map fun c => D.str ⟨#[c]⟩) (fun _ => True) m) E
theorem walks_str {K : PySem.W.Frag} {ι : Io} {H : Hp} {x : Str} {st : Sto → Prop} : Walks K (Its x) ι H (x.cps.toList.map fun c => D.str ⟨#[c]⟩) st := by
  refine ⟨fun ι' H' μ' i y g r s hx => ?_, fun ι' H' μ' i g r s hx0 => have hx := Nat.le_of_eq hx0; (show x.cps.size ≤ i by simpa using hx)⟩
  rw [List.getElem?_map, Option.map_eq_some_iff] at hx
  obtain ⟨c, hc, rfl⟩ := hx
  have hc' : x.cps[i]? = some c := by simpa using hc
  refine ⟨(Array.getElem?_eq_some_iff.mp hc').1, fun v H2 hy => ?_⟩
  obtain ⟨rfl, c', e, rfl⟩ := hy
  rw [hc'] at e; cases e
  exact ⟨Gr.refl _ _, r, .str _⟩
theorem di_str {tg : Expr} (h : DE X W e f) : DI X W tg e (iStrD f) :=
  ⟨fun ρ μ Q Q' E E' hq he q => h.mono ρ μ _ _ E E' (fun d m ⟨x, e, z⟩ => ⟨x, e, hq _ _ _ z⟩) he q, PI.imp (pi_str h.run) fun σ H R ⟨ι, ρ, μ, r, l, q⟩ => chain1 h.mono r l q fun d μ1 ι1 H1 v q1 g1 r1 l1 a1 => by
    obtain ⟨x, rfl, z⟩ := q1
    cases a1
    exact ⟨x, rfl, z ι1 H1 _ g1 r1 walks_str⟩⟩
/-- x, y = a, b -/
def sPar (i j : Nat) (fl : FA) : FS := fun A ρ μ => fl ρ μ (fun ds m => ∃ x y, ds = [x, y] ∧ A.nx ((ρ.set i (some x)).set j (some y)) m) A.ex
end
/-- the builtins' names are not the module's -/
structure NoB (mg : Str → Option Value) : Prop where
  len : mg "len" = none
  list : mg "list" = none
  tuple : mg "tuple" = none
  int : mg "int" = none
  repr : mg "repr" = none
  range : mg "range" = none
  all : mg "all" = none
  zip : mg "zip" = none
  enumerate : mg "enumerate" = none
  isinstance : mg "isinstance" = none
  str : mg "str" = none
  bool : mg "bool" = none
  dict : mg "dict" = none
  any : mg "any" = none
  min : mg "min" = none
  sorted : mg "sorted" = none
  set : mg "set" = none
  max : mg "max" = none
  sum : mg "sum" = none
end Dl

namespace Dl
open PySem PySem.Spec L2
open PyProof.Rows hiding St Binds

/-! ### where a new list is to be data, or a cell -/
theorem DE.weak {X : Cx} {W : WX} {e : Expr} {f f' : FE} (h : DE X W e f) (m : MonE f') (k : ∀ ρ μ Q E, f' ρ μ Q E → f ρ μ Q E) : DE X W e f' :=
  ⟨m, PE.imp h.run fun σ H Q ⟨ι, ρ, μ, r, l, q⟩ => ⟨ι, ρ, μ, r, l, k _ _ _ _ q⟩⟩
def gD (ds : List D) (μ : Sto) (Q : QD) : Prop := ds.length ≤ sizeLine ∧ Q (.lst ds) μ
def gC (ds : List D) (μ : Sto) (Q : QD) : Prop := ds.length ≤ sizeLine ∧ Q (.cell μ.length) (μ ++ [.lst ds])
theorem gD_mono {ds : List D} {Q Q' : QD} (h : ∀ d m, Q d m → Q' d m) {m : Sto} (q : gD ds m Q) : gD ds m Q' := ⟨q.1, h _ _ q.2⟩
theorem gC_mono {ds : List D} {Q Q' : QD} (h : ∀ d m, Q d m → Q' d m) {m : Sto} (q : gC ds m Q) : gC ds m Q' := ⟨q.1, h _ _ q.2⟩
theorem gD_new {ds : List D} {Q : QD} {m : Sto} (q : gD ds m Q) : gNewL ds m Q := ⟨q.1, .inl q.2⟩
theorem gC_new {ds : List D} {Q : QD} {m : Sto} (q : gC ds m Q) : gNewL ds m Q := ⟨q.1, .inr q.2⟩
section
variable {X : Cx} {W : WX} {a b e o : Expr} {es : List Expr} {f fa fb fo : FE} {fl : FA} {pos p p2 : Pos}
def fLstD (g : FA) : FE := fun ρ μ Q E => g ρ μ (fun ds m => gD ds m Q) E
def fLstC (g : FA) : FE := fun ρ μ Q E => g ρ μ (fun ds m => gC ds m Q) E
theorem de_lstD (h : DA X W es fl) : DE X W (.List es pos) (fLstD fl) :=
  (de_lst h).weak (fun ρ μ Q Q' E E' hq he q => h.mono ρ μ _ _ E E' (fun _ _ z => gD_mono hq z) he q) fun ρ μ Q E q => h.mono ρ μ _ _ E E (fun _ _ z => gD_new z) (fun _ _ _ z => z) q
theorem de_lstC (h : DA X W es fl) : DE X W (.List es pos) (fLstC fl) :=
  (de_lst h).weak (fun ρ μ Q Q' E E' hq he q => h.mono ρ μ _ _ E E' (fun _ _ z => gC_mono hq z) he q) fun ρ μ Q E q => h.mono ρ μ _ _ E E (fun _ _ z => gC_new z) (fun _ _ _ z => z) q
def gListD : GC := fun xs μ Q => ∃ d ds, xs = [d] ∧ asS μ d = some ds ∧ gD ds μ Q
def gListC : GC := fun xs μ Q => ∃ d ds, xs = [d] ∧ asS μ d = some ds ∧ gC ds μ Q
theorem CaD.weak {v : Value} {g g' : GC} (h : CaD X v g) (m : MonC g') (k : ∀ xs μ Q, g' xs μ Q → g xs μ Q) : CaD X v g' := by
  obtain ⟨r, c, q⟩ := h.run
  exact ⟨m, r, c, fun ι H μ vs ds Q rp a z => q ι H μ vs ds Q rp a (k _ _ _ z)⟩
theorem cad_listD' : CaD X (.type "list") gListD := cad_list.weak (fun xs μ Q Q' h ⟨d, ds, e, e2, q⟩ => ⟨d, ds, e, e2, gD_mono h q⟩) fun xs μ Q ⟨d, ds, e, e2, q⟩ => ⟨d, ds, e, e2, gD_new q⟩
theorem cad_listC' : CaD X (.type "list") gListC := cad_list.weak (fun xs μ Q Q' h ⟨d, ds, e, e2, q⟩ => ⟨d, ds, e, e2, gC_mono h q⟩) fun xs μ Q ⟨d, ds, e, e2, q⟩ => ⟨d, ds, e, e2, gC_new q⟩
/-- lists joined -/
def catD : G2 := fun x y μ Q => ∃ xs ys, asL μ x = some xs ∧ asL μ y = some ys ∧ gD (xs ++ ys) μ Q
theorem opd_catD : OpD X (binaryOp .Add) catD := opd_catL.imp (fun x y μ Q Q' h ⟨xs, ys, e1, e2, q⟩ => ⟨xs, ys, e1, e2, gD_mono h q⟩) fun x y μ Q ⟨xs, ys, e1, e2, q⟩ => ⟨xs, ys, e1, e2, gD_new q⟩
def strAdd : G2 := fun x y μ Q => ∃ s t : Str, x = .str s ∧ y = .str t ∧ addD (.str s) (.str t) μ Q
theorem strAdd_ok : OpD X (binaryOp .Add) strAdd := opd_add.imp (fun x y μ Q Q' h ⟨s, t, e1, e2, q⟩ => ⟨s, t, e1, e2, opd_add (X := X) |>.mono _ _ _ _ _ h q⟩) fun x y μ Q ⟨s, t, e1, e2, q⟩ => by subst e1; subst e2; exact q
/-- ints -/
def addI : G2 := fun x y μ Q => ∃ i j, x = .int i ∧ y = .int j ∧ Q (.int (i + j)) μ
theorem opd_addI : OpD X (binaryOp .Add) addI := opd_ii0 (gd := fun i j => .int (i + j)) op_add fun _ _ _ _ _ => .int _
def mulI : G2 := fun x y μ Q => ∃ i j, x = .int i ∧ y = .int j ∧ CMulW i j ∧ Q (.int (i * j)) μ
theorem opd_mulI : OpD X (binaryOp .Mult) mulI := opd_ii (gd := fun i j => .int (i * j)) op_mulW fun _ _ _ _ _ => .int _
def eqI : G2 := fun x y μ Q => ∃ i j, x = .int i ∧ y = .int j ∧ Q (.bl (decide (i = j))) μ
def eqS : G2 := fun x y μ Q => ∃ i j : Str, x = .str i ∧ y = .str j ∧ Q (.bl (decide (i = j))) μ
def neI : G2 := fun x y μ Q => ∃ i j, x = .int i ∧ y = .int j ∧ Q (.bl (!decide (i = j))) μ
def neS : G2 := fun x y μ Q => ∃ i j : Str, x = .str i ∧ y = .str j ∧ Q (.bl (!decide (i = j))) μ
theorem opd_eqI : OpD X (compareOp .Eq) eqI := opd_eqs.imp (fun x y μ Q Q' h ⟨i, j, e1, e2, q⟩ => ⟨i, j, e1, e2, h _ _ q⟩) fun x y μ Q z => .inl z
theorem opd_eqS : OpD X (compareOp .Eq) eqS := opd_eqs.imp (fun x y μ Q Q' h ⟨i, j, e1, e2, q⟩ => ⟨i, j, e1, e2, h _ _ q⟩) fun x y μ Q z => .inr (.inl z)
def neP : G2 := fun x y μ Q => ∃ p q, pyS μ x = some p ∧ pyS μ y = some q ∧ SeqAt.shaped p = true ∧ SeqAt.shaped q = true ∧ Q (.bl (!PyData.eqv p q)) μ
theorem opd_neP' (hu : X.A.units + 64 < cLine) : OpD X (compareOp .NotEq) neP := opd_neP hu
def eqP : G2 := fun x y μ Q => ∃ p q, pyS μ x = some p ∧ pyS μ y = some q ∧ SeqAt.shaped p = true ∧ SeqAt.shaped q = true ∧ Q (.bl (PyData.eqv p q)) μ
theorem opd_eqP' (hu : X.A.units + 64 < cLine) : OpD X (compareOp .Eq) eqP := opd_eqP hu
def ixL : G2 := fun x y μ Q => ∃ ds i d, asS μ x = some ds ∧ y = .int i ∧ atI ds i = some d ∧ Q d μ
theorem de_ixL (ha : DE X W a fa) (hb : DE X W b fb) (hs : PlainIx b := by exact fun _ _ => rfl) : DE X W (.Subscript a b pos) (fOp ixL fa fb) :=
  (de_ix ha hb hs).weak (mOp (fun x y μ Q Q' h ⟨ds, i, d, e1, e2, e3, q⟩ => ⟨ds, i, d, e1, e2, e3, h _ _ q⟩) ha.mono hb.mono) fun ρ μ Q E q => ha.mono ρ μ _ _ E E (fun x m z => hb.mono ρ m _ _ E E (fun y m2 ⟨ds, i, d, e1, e2, e3, q⟩ => by
    cases x with
    | str s => cases e1
    | _ => exact ⟨ds, i, d, e1, e2, e3, q⟩) (fun _ _ _ z => z) z) (fun _ _ _ z => z) q
def ixT : G2 := fun x y μ Q => ∃ (z : Str) (i : Int) (c : Nat), x = .str z ∧ y = .int i ∧ z.length ≤ sizeLine ∧ atI z.cps.toList i = some c ∧ Q (.str ⟨#[c]⟩) μ
theorem de_ixT (ha : DE X W a fa) (hb : DE X W b fb) (hs : PlainIx b := by exact fun _ _ => rfl) : DE X W (.Subscript a b pos) (fOp ixT fa fb) :=
  (de_ix ha hb hs).weak (mOp (fun x y μ Q Q' h ⟨z, i, c, e0, e1, e2, e3, q⟩ => ⟨z, i, c, e0, e1, e2, e3, h _ _ q⟩) ha.mono hb.mono) fun ρ μ Q E q => ha.mono ρ μ _ _ E E (fun x m z => hb.mono ρ m _ _ E E (fun y m2 ⟨z, i, c, e0, e1, e2, e3, q⟩ => by
    subst e0
    exact ⟨i, c, e1, e2, e3, q⟩) (fun _ _ _ z => z) z) (fun _ _ _ z => z) q
/-- a slice of a list, as data -/
def fSlD (fo : FE) (flo fhi : FO) : FE := fun ρ μ Q E => fo ρ μ (fun x m1 => flo ρ m1 (fun lo m2 => fhi ρ m2 (fun hi m3 => ∃ ds, asL m3 x = some ds ∧ gD (cutD ds lo hi) m3 Q) E) E) E
theorem de_slD {lo hi : Option Expr} {flo fhi : FO} (ho : DE X W o fo) (hl : DO X W lo flo) (hh : DO X W hi fhi) : DE X W (.Subscript o (.Slice lo hi none p2) pos) (fSlD fo flo fhi) :=
  (de_slL ho hl hh).weak (fun ρ μ Q Q' E E' h he q => ho.mono ρ μ _ _ E E' (fun x m1 z => hl.mono ρ m1 _ _ E E' (fun lo m2 z => hh.mono ρ m2 _ _ E E' (fun hi m3 ⟨ds, e, z⟩ => ⟨ds, e, gD_mono h z⟩) he z) he z) he q)
    fun ρ μ Q E q => ho.mono ρ μ _ _ E E (fun x m1 z => hl.mono ρ m1 _ _ E E (fun lo m2 z => hh.mono ρ m2 _ _ E E (fun hi m3 ⟨ds, e, z⟩ => ⟨ds, e, gD_new z⟩) (fun _ _ _ z => z) z) (fun _ _ _ z => z) z) (fun _ _ _ z => z) q
end
end Dl

namespace Dl
open PySem PySem.Spec L2
open PyProof.Rows hiding St Binds

/-! ### the readings, as rows of a rewriting -/
section
variable {ρ : Rho} {μ : Sto} {Q : QD} {E : ED} {f fa fb fo : FE} {ft fu : FT} {fl : FA} {A : DK} {fs gs : FS} {g : FG} {g2 : G2} {gc : GC} {gm : GM} {N : Rho → Sto → Prop} {QT : Bool → Sto → Prop} {QA : List D → Sto → Prop}
@[simp] theorem z_var {i : Nat} : fVar i ρ μ Q E ↔ ∃ d, ρ[i]? = some (some d) ∧ Q d μ := Iff.rfl
@[simp] theorem z_c {d : D} : fC d ρ μ Q E ↔ Q d μ := Iff.rfl
@[simp] theorem z_op : fOp g2 fa fb ρ μ Q E ↔ fa ρ μ (fun x m => fb ρ m (fun y m2 => g2 x y m2 Q) E) E := Iff.rfl
@[simp] theorem z_b : fB f ρ μ QT E ↔ f ρ μ (fun d m => ∃ b, d = .bl b ∧ QT b m) E := Iff.rfl
@[simp] theorem z_not : fNot ft ρ μ QT E ↔ ft ρ μ (fun b m => QT (!b) m) E := Iff.rfl
@[simp] theorem z_and : fAnd ft fu ρ μ QT E ↔ ft ρ μ (fun b m => if b = true then fu ρ m QT E else QT false m) E := Iff.rfl
@[simp] theorem z_or : fOr ft fu ρ μ QT E ↔ ft ρ μ (fun b m => if b = true then QT true m else fu ρ m QT E) E := Iff.rfl
@[simp] theorem z_if : fIf ft fa fb ρ μ Q E ↔ ft ρ μ (fun b m => if b = true then fa ρ m Q E else fb ρ m Q E) E := Iff.rfl
@[simp] theorem z_nil : fNil ρ μ QA E ↔ QA [] μ := Iff.rfl
@[simp] theorem z_cons : fCons f fl ρ μ QA E ↔ f ρ μ (fun d m => fl ρ m (fun ds m2 => QA (d :: ds) m2) E) E := Iff.rfl
@[simp] theorem z_lstD : fLstD fl ρ μ Q E ↔ fl ρ μ (fun ds m => gD ds m Q) E := Iff.rfl
@[simp] theorem z_lstC : fLstC fl ρ μ Q E ↔ fl ρ μ (fun ds m => gC ds m Q) E := Iff.rfl
@[simp] theorem z_tup : fTup fl ρ μ Q E ↔ fl ρ μ (fun ds m => ds.length ≤ sizeLine ∧ Q (.tup ds) m) E := Iff.rfl
@[simp] theorem z_gD {ds : List D} : gD ds μ Q ↔ ds.length ≤ sizeLine ∧ Q (.lst ds) μ := Iff.rfl
@[simp] theorem z_gC {ds : List D} : gC ds μ Q ↔ ds.length ≤ sizeLine ∧ Q (.cell μ.length) (μ ++ [.lst ds]) := Iff.rfl
@[simp] theorem z_cb : fCB gc fl ρ μ Q E ↔ fl ρ μ (fun ds m => gc ds m Q) E := Iff.rfl
@[simp] theorem z_bl : fBL gm fo fl ρ μ Q E ↔ fo ρ μ (fun x m1 => (∃ ds, asL m1 x = some ds) ∧ fl ρ m1 (fun ds m2 => gm x ds m2 Q) E) E := Iff.rfl
@[simp] theorem z_call {F : FD} {dds : List D} : fCall F dds fl ρ μ Q E ↔ fl ρ μ (fun ds m => F (ds ++ dds) m Q (fun c l m' => E c l ρ m')) E := Iff.rfl
@[simp] theorem z_slL {lo hi : FO} : fSlL fo lo hi ρ μ Q E ↔ fo ρ μ (fun x m1 => lo ρ m1 (fun l m2 => hi ρ m2 (fun h m3 => ∃ ds, asL m3 x = some ds ∧ gNewL (cutD ds l h) m3 Q) E) E) E := Iff.rfl
@[simp] theorem z_slD {lo hi : FO} : fSlD fo lo hi ρ μ Q E ↔ fo ρ μ (fun x m1 => lo ρ m1 (fun l m2 => hi ρ m2 (fun h m3 => ∃ ds, asL m3 x = some ds ∧ gD (cutD ds l h) m3 Q) E) E) E := Iff.rfl
@[simp] theorem z_oNo {QO : Option Int → Sto → Prop} : oNo ρ μ QO E ↔ QO none μ := Iff.rfl
@[simp] theorem z_oYes {QO : Option Int → Sto → Prop} : oYes f ρ μ QO E ↔ f ρ μ (fun d m => ∃ i, d = .int i ∧ QO (some i) m) E := Iff.rfl
@[simp] theorem z_neP {x y : D} : neP x y μ Q ↔ ∃ p q, pyS μ x = some p ∧ pyS μ y = some q ∧ SeqAt.shaped p = true ∧ SeqAt.shaped q = true ∧ Q (.bl (!PyData.eqv p q)) μ := Iff.rfl
@[simp] theorem z_strAdd {x y : D} : strAdd x y μ Q ↔ ∃ s t : Str, x = .str s ∧ y = .str t ∧ addD (.str s) (.str t) μ Q := Iff.rfl
@[simp] theorem z_join {fe : FE} : fJoin fo fe ρ μ Q E ↔ fo ρ μ (fun x m1 => ∃ a, x = .str a ∧ fe ρ m1 (fun d m2 => ∃ ys : List Str, asS m2 d = some (ys.map D.str) ∧ (ys.map (·.length)).sum + ys.length * a.length ≤ 16777216 ∧ Q (.str (Txt.join a ys)) m2) E) E := Iff.rfl
@[simp] theorem z_neg : fNeg f ρ μ Q E ↔ f ρ μ (fun d m => ∃ i, d = .int i ∧ Q (.int (-i)) m) E := Iff.rfl
-- statements
@[simp] theorem z_seq : sSeq fs gs A ρ μ ↔ fs { A with nx := fun ρ' μ' => gs A ρ' μ' } ρ μ := Iff.rfl
@[simp] theorem z_next : sNext A ρ μ ↔ A.nx ρ μ := Iff.rfl
@[simp] theorem z_break : sBreak A ρ μ ↔ A.bk ρ μ := Iff.rfl
@[simp] theorem z_cont : sCont A ρ μ ↔ A.ct ρ μ := Iff.rfl
@[simp] theorem z_drop : sDrop f A ρ μ ↔ f ρ μ (fun _ m => A.nx ρ m) A.ex := Iff.rfl
@[simp] theorem z_ret : sRet f A ρ μ ↔ f ρ μ A.rt A.ex := Iff.rfl
@[simp] theorem z_ifS : sIf ft fs gs A ρ μ ↔ ft ρ μ (fun b m => if b = true then fs A ρ m else gs A ρ m) A.ex := Iff.rfl
@[simp] theorem z_asg : sAsg f g A ρ μ ↔ f ρ μ (fun d m => g d ρ m A.nx) A.ex := Iff.rfl
@[simp] theorem z_par {i j : Nat} : sPar i j fl A ρ μ ↔ fl ρ μ (fun ds m => ∃ x y, ds = [x, y] ∧ A.nx ((ρ.set i (some x)).set j (some y)) m) A.ex := Iff.rfl
@[simp] theorem z_tgn {i : Nat} {d : D} : tgName i d ρ μ N ↔ N (ρ.set i (some d)) μ := Iff.rfl
@[simp] theorem z_tgT {n : Nat} {h : FGs} {d : D} : tgTup n h d ρ μ N ↔ ∃ ds, d = .tup ds ∧ ds.length = n ∧ h ds ρ μ N := Iff.rfl
@[simp] theorem z_tgC {h : FGs} {ds : List D} : tgCons g h ds ρ μ N ↔ ∃ d r, ds = d :: r ∧ g d ρ μ (fun ρ' μ' => h r ρ' μ' N) := Iff.rfl
@[simp] theorem z_tgN {ds : List D} : tgNil ds ρ μ N ↔ ds = [] ∧ N ρ μ := Iff.rfl
@[simp] theorem z_tgL {fi : FE} {d : D} : tgIxL fo fi d ρ μ N ↔ fo ρ μ (fun x m1 => fi ρ m1 (fun y m2 => ∃ n ds k j, x = .cell n ∧ m2[n]? = some (.lst ds) ∧ y = .int k ∧ ixN ds.length k = some j ∧ N ρ (m2.set n (.lst (ds.set j d)))) NE) NE := Iff.rfl
-- operators
@[simp] theorem z_addI {x y : D} : addI x y μ Q ↔ ∃ i j, x = .int i ∧ y = .int j ∧ Q (.int (i + j)) μ := Iff.rfl
@[simp] theorem z_subI {x y : D} : subD x y μ Q ↔ ∃ i j, x = .int i ∧ y = .int j ∧ Q (.int (i - j)) μ := Iff.rfl
@[simp] theorem z_mulI {x y : D} : mulI x y μ Q ↔ ∃ i j, x = .int i ∧ y = .int j ∧ CMulW i j ∧ Q (.int (i * j)) μ := Iff.rfl
@[simp] theorem z_modI {x y : D} : modD x y μ Q ↔ ∃ i j, x = .int i ∧ y = .int j ∧ 0 < j ∧ Q (.int (i % j)) μ := Iff.rfl
@[simp] theorem z_fdiv {x y : D} : fdivD x y μ Q ↔ ∃ i j, x = .int i ∧ y = .int j ∧ CDivW i j ∧ Q (.int (i / j)) μ := Iff.rfl
@[simp] theorem z_pow {x y : D} : powD x y μ Q ↔ ∃ i j, x = .int i ∧ y = .int j ∧ CPow i j ∧ Q (.int (i ^ j.toNat)) μ := Iff.rfl
@[simp] theorem z_catD {x y : D} : catD x y μ Q ↔ ∃ xs ys, asL μ x = some xs ∧ asL μ y = some ys ∧ gD (xs ++ ys) μ Q := Iff.rfl
@[simp] theorem z_eqI {x y : D} : eqI x y μ Q ↔ ∃ i j, x = .int i ∧ y = .int j ∧ Q (.bl (decide (i = j))) μ := Iff.rfl
@[simp] theorem z_eqS {x y : D} : eqS x y μ Q ↔ ∃ i j : Str, x = .str i ∧ y = .str j ∧ Q (.bl (decide (i = j))) μ := Iff.rfl
@[simp] theorem z_neI {x y : D} : neI x y μ Q ↔ ∃ i j, x = .int i ∧ y = .int j ∧ Q (.bl (!decide (i = j))) μ := Iff.rfl
@[simp] theorem z_neS {x y : D} : neS x y μ Q ↔ ∃ i j : Str, x = .str i ∧ y = .str j ∧ Q (.bl (!decide (i = j))) μ := Iff.rfl
@[simp] theorem z_ixL {x y : D} : ixL x y μ Q ↔ ∃ ds i d, asS μ x = some ds ∧ y = .int i ∧ atI ds i = some d ∧ Q d μ := Iff.rfl
@[simp] theorem z_ixT {x y : D} : ixT x y μ Q ↔ ∃ (z : Str) (i : Int) (c : Nat), x = .str z ∧ y = .int i ∧ z.length ≤ sizeLine ∧ atI z.cps.toList i = some c ∧ Q (.str ⟨#[c]⟩) μ := Iff.rfl
@[simp] theorem z_in {b : Bool} {x y : D} : inD b x y μ Q ↔ ∃ ds, asS μ y = some ds ∧ flatD x = true ∧ ds.all flatD = true ∧ Q (.bl (if b then !inDD x ds else inDD x ds)) μ := Iff.rfl
@[simp] theorem z_lt {i j : Int} : ltD (.int i) (.int j) μ Q ↔ Q (.bl (decide (i < j))) μ := Iff.rfl
@[simp] theorem z_le {i j : Int} : leD (.int i) (.int j) μ Q ↔ Q (.bl (decide (i ≤ j))) μ := Iff.rfl
@[simp] theorem z_gt {x y : D} : gtD x y μ Q ↔ ∃ i j, x = .int i ∧ y = .int j ∧ Q (.bl (decide (j < i))) μ := Iff.rfl
@[simp] theorem z_ge {x y : D} : geD x y μ Q ↔ ∃ i j, x = .int i ∧ y = .int j ∧ Q (.bl (decide (j ≤ i))) μ := Iff.rfl
-- builtins
@[simp] theorem z_int {xs : List D} : gInt xs μ Q ↔ (∃ i, xs = [.int i] ∧ Q (.int i) μ) ∨ ∃ k, xs = [.bl k] ∧ Q (.int (if k then 1 else 0)) μ := Iff.rfl
@[simp] theorem z_listD {xs : List D} : gListD xs μ Q ↔ ∃ d ds, xs = [d] ∧ asS μ d = some ds ∧ gD ds μ Q := Iff.rfl
@[simp] theorem z_listC {xs : List D} : gListC xs μ Q ↔ ∃ d ds, xs = [d] ∧ asS μ d = some ds ∧ gC ds μ Q := Iff.rfl
@[simp] theorem z_tupO {xs : List D} : gTupOf xs μ Q ↔ ∃ d ds, xs = [d] ∧ asS μ d = some ds ∧ Q (.tup ds) μ := Iff.rfl
@[simp] theorem z_popAt {x : D} {ds : List D} : gPopAt x ds μ Q ↔ ∃ n xs i k y, x = .cell n ∧ ds = [.int i] ∧ μ[n]? = some (.lst xs) ∧ -(2 ^ 63) ≤ i ∧ i < 2 ^ 63 ∧ seqIndex? i xs.length = some k ∧ xs[k]? = some y ∧ Q y (μ.set n (.lst (xs.eraseIdx k))) := Iff.rfl
@[simp] theorem z_app {x : D} {ds : List D} : gApp x ds μ Q ↔ ∃ n xs y, x = .cell n ∧ ds = [y] ∧ μ[n]? = some (.lst xs) ∧ xs.length < sizeLine ∧ Q .non (μ.set n (.lst (xs ++ [y]))) := Iff.rfl
@[simp] theorem z_repr {xs : List D} : gRepr xs μ Q ↔ ∃ d p, xs = [d] ∧ pyS μ d = some p ∧ okR p ∧ Q (.str p.shown) μ := Iff.rfl
@[simp] theorem z_asS_t {ds : List D} : asS μ (.tup ds) = some ds := rfl
@[simp] theorem z_asS_l {ds : List D} : asS μ (.lst ds) = some ds := rfl
@[simp] theorem z_asL_l {ds : List D} : asL μ (.lst ds) = some ds := rfl
@[simp] theorem z_asL_c {n : Nat} {ds : List D} : asL μ (.cell n) = some ds ↔ μ[n]? = some (.lst ds) := by
  unfold asL
  dsimp only
  split
  · rename_i e; rw [e]; simp
  · rename_i h; constructor
    · intro z; cases z
    · intro z; exact absurd z (h ds)
@[simp] theorem z_asS_c {n : Nat} {ds : List D} : asS μ (.cell n) = some ds ↔ μ[n]? = some (.lst ds) := z_asL_c
end
theorem atI_nn {α : Type} (xs : List α) {i : Int} (h : 0 ≤ i) : atI xs i = xs[i.toNat]? := by
  unfold atI ixN
  rw [if_pos h]
  split
  · rfl
  · rw [List.getElem?_eq_none (by omega)]; rfl
@[simp] theorem atI_0 {α : Type} (xs : List α) : atI xs 0 = xs[0]? := atI_nn xs (by decide)
@[simp] theorem atI_1 {α : Type} (xs : List α) : atI xs 1 = xs[1]? := atI_nn xs (by decide)
@[simp] theorem atI_2 {α : Type} (xs : List α) : atI xs 2 = xs[2]? := atI_nn xs (by decide)
@[simp] theorem atI_3 {α : Type} (xs : List α) : atI xs 3 = xs[3]? := atI_nn xs (by decide)
end Dl

namespace Dl
open PySem PySem.Spec L2
open PyProof.Rows hiding St Binds

theorem seq_cut {fs gs : FS} {A : DK} {ρ : Rho} {μ : Sto} (P : Rho → Sto → Prop) (h2 : ∀ ρ' μ', P ρ' μ' → gs A ρ' μ') (h1 : ∀ N : Rho → Sto → Prop, (∀ ρ' μ', P ρ' μ' → N ρ' μ') → fs { A with nx := N } ρ μ) : sSeq fs gs A ρ μ := h1 _ h2
theorem ite_b {p : Prop} [Decidable p] {a b : Prop} (h1 : p → a) (h2 : ¬ p → b) : if decide p = true then a else b := by
  by_cases h : p
  · rw [if_pos (decide_eq_true h)]; exact h1 h
  · rw [if_neg (by simp [h])]; exact h2 h
theorem ite_c {c : Bool} {a b : Prop} (h1 : c = true → a) (h2 : c = false → b) : if c = true then a else b := by
  cases c
  · rw [if_neg (by simp)]; exact h2 rfl
  · rw [if_pos rfl]; exact h1 rfl
theorem pyAll_ints : ∀ ns : List Int, pyAll (ns.map D.int) = some (ns.map PyData.int)
  | [] => rfl
  | n :: ns => by simp only [List.map_cons, pyAll, D.py, pyAll_ints ns]
theorem lay_ints : ∀ ns : List Int, PyData.canLayAll0 (ns.map PyData.int) = true
  | [] => by simp [PyData.canLayAll0]
  | n :: ns => by simp [PyData.canLayAll0, PyData.canLay0, lay_ints ns]
theorem depth_ints : ∀ ns : List Int, PyData.depthAll (ns.map PyData.int) ≤ 1
  | [] => by simp [PyData.depthAll]
  | n :: ns => by
    have := depth_ints ns
    simp only [List.map_cons, PyData.depthAll, PyData.depth]
    omega
theorem shaped_ints (ns : List Int) : SeqAt.shaped (.list (ns.map PyData.int)) = true := by
  have := depth_ints ns
  have h2 := lay_ints ns
  unfold SeqAt.shaped
  rw [show (PyData.list (ns.map PyData.int)).canLay0 = true by simp only [PyData.canLay0]; exact h2, Bool.true_and, decide_eq_true_eq]
  show PyData.depthAll _ + 1 ≤ 64
  omega
end Dl

namespace Dl
open PySem PySem.Spec L2
open PyProof.Rows hiding St Binds

mutual
theorem bd_mono {n m : Nat} (h : n ≤ m) : ∀ {d : D}, d.bd n = true → d.bd m = true
  | .non, _ => rfl
  | .bl _, _ => rfl
  | .int _, _ => rfl
  | .str _, _ => rfl
  | .lst ds, b => by unfold D.bd at b ⊢; exact bdL_mono h b
  | .tup ds, b => by unfold D.bd at b ⊢; exact bdL_mono h b
  | .dct ds, b => by unfold D.bd at b ⊢; exact bdK_mono h b
  | .ins _ ds, b => by unfold D.bd at b ⊢; exact bdF_mono h b
  | .cell k, b => by unfold D.bd at b ⊢; exact decide_eq_true (Nat.lt_of_lt_of_le (of_decide_eq_true b) h)
  | .ref _, _ => rfl
  | .ty _, _ => rfl
  | .fzl ds, b => by unfold D.bd at b ⊢; exact bdL_mono h b
theorem bdL_mono {n m : Nat} (h : n ≤ m) : ∀ {ds : List D}, bdL n ds = true → bdL m ds = true
  | [], _ => rfl
  | d :: ds, b => by unfold bdL at b ⊢; rw [Bool.and_eq_true] at b ⊢; exact ⟨bd_mono h b.1, bdL_mono h b.2⟩
theorem bdK_mono {n m : Nat} (h : n ≤ m) : ∀ {ds : List (Key × D)}, bdK n ds = true → bdK m ds = true
  | [], _ => rfl
  | (_, d) :: ds, b => by unfold bdK at b ⊢; rw [Bool.and_eq_true] at b ⊢; exact ⟨bd_mono h b.1, bdK_mono h b.2⟩
theorem bdF_mono {n m : Nat} (h : n ≤ m) : ∀ {ds : List (Str × D)}, bdF n ds = true → bdF m ds = true
  | [], _ => rfl
  | (_, d) :: ds, b => by unfold bdF at b ⊢; rw [Bool.and_eq_true] at b ⊢; exact ⟨bd_mono h b.1, bdF_mono h b.2⟩
end
theorem ctbd_mono {n m : Nat} (h : n ≤ m) {c : CT} (b : c.bd n = true) : c.bd m = true := by
  cases c with
  | lst ds => exact bdL_mono h b
  | dct ds => exact bdK_mono h b
  | lck ob kv ds => exact bdK_mono h b
  | ins C ds => exact bdF_mono h b
theorem bdS_mono {n m : Nat} (h : n ≤ m) {μ : Sto} (b : bdS n μ = true) : bdS m μ = true := by
  unfold bdS at b ⊢
  rw [List.all_eq_true] at b ⊢
  exact fun c hc => ctbd_mono h (b c hc)
theorem bdS_app {n : Nat} {μ ν : Sto} : bdS n (μ ++ ν) = (bdS n μ && bdS n ν) := List.all_append
theorem bdL_all {n : Nat} {ds : List D} : bdL n ds = true ↔ ∀ d ∈ ds, d.bd n = true := by
  induction ds with
  | nil => exact ⟨fun _ _ h => absurd h (by simp), fun _ => rfl⟩
  | cons d ds ih =>
    unfold bdL
    rw [Bool.and_eq_true, ih]
    exact ⟨fun ⟨a, b⟩ x h => (List.mem_cons.mp h).elim (fun e => e ▸ a) (b x), fun h => ⟨h d List.mem_cons_self, fun x hx => h x (List.mem_cons_of_mem _ hx)⟩⟩
theorem bdL_strs {n : Nat} (ss : List Str) : bdL n (ss.map D.str) = true := bdL_all.mpr fun d h => by
  obtain ⟨s, _, rfl⟩ := List.mem_map.mp h
  rfl
theorem bdL_ints {n : Nat} (ss : List Int) : bdL n (ss.map D.int) = true := bdL_all.mpr fun d h => by
  obtain ⟨s, _, rfl⟩ := List.mem_map.mp h
  rfl

/-- the stream of the draws -/
structure Dr where
  ns : List Int
  a : Int
  t : Int
  c : Int
structure Dr.ok (S : Dr) : Prop where
  a0 : 0 ≤ S.a
  t0 : 0 ≤ S.t
  c0 : 0 ≤ S.c
  c1 : S.c < 2147483647
abbrev Dr.sto (S : Dr) (rest : Sto) : Sto := .lst (S.ns.map .int) :: .lst [.cell 0, .int S.a, .int S.t, .int S.c] :: rest
/-- the cells behind the stream hold no reference to newer ones -/
def okRest (rest : Sto) : Prop := bdS (rest.length + 2) rest = true
theorem okRest.add {rest : Sto} {c : CT} (h : okRest rest) (b : c.bd (rest.length + 2) = true) : okRest (rest ++ [c]) := by
  unfold okRest at h ⊢
  rw [bdS_app, Bool.and_eq_true, List.length_append]
  refine ⟨bdS_mono (by omega) h, ?_⟩
  unfold bdS
  rw [List.all_cons, List.all_nil, Bool.and_true]
  exact ctbd_mono (by omega) b
theorem okRest.sto {S : Dr} {rest : Sto} (h : okRest rest) : bdS (S.sto rest).length (S.sto rest) = true := by
  unfold bdS
  show (CT.bd _ _ && (CT.bd _ _ && List.all rest _)) = true
  rw [Bool.and_eq_true, Bool.and_eq_true]
  refine ⟨bdL_ints _, ?_, h⟩
  show bdL _ _ = true
  simp [bdL, D.bd]
section
variable {S : Dr} {rest : Sto} {a b c : CT} {n : Nat}
theorem sto_app : S.sto rest ++ [a] = S.sto (rest ++ [a]) := rfl
theorem sto_app2 : S.sto (rest ++ [a]) ++ [b] = S.sto (rest ++ [a, b]) := by show CT.lst _ :: CT.lst _ :: (rest ++ [a] ++ [b]) = _; rw [List.append_assoc]; rfl
theorem sto_len : (S.sto rest).length = rest.length + 2 := rfl
theorem get_a (h : n = rest.length + 2) : (S.sto (rest ++ [a]))[n]? = some a := by subst h; simp
theorem get_ab (h : n = rest.length + 2) : (S.sto (rest ++ [a, b]))[n]? = some a := by subst h; simp
theorem get_bb (h : n = rest.length + 3) : (S.sto (rest ++ [a, b]))[n]? = some b := by
  subst h
  show (rest ++ [a, b])[rest.length + 1]? = _
  rw [List.getElem?_append_right (by omega)]
  simp
theorem set_a (h : n = rest.length + 2) : (S.sto (rest ++ [a])).set n c = S.sto (rest ++ [c]) := by
  subst h
  show CT.lst _ :: CT.lst _ :: (rest ++ [a]).set rest.length c = _
  rw [List.set_append_right _ _ (by omega)]
  simp
theorem set_ab (h : n = rest.length + 2) : (S.sto (rest ++ [a, b])).set n c = S.sto (rest ++ [c, b]) := by
  subst h
  show CT.lst _ :: CT.lst _ :: (rest ++ [a, b]).set rest.length c = _
  rw [List.set_append_right _ _ (by omega)]
  simp
theorem set_bb (h : n = rest.length + 3) : (S.sto (rest ++ [a, b])).set n c = S.sto (rest ++ [a, c]) := by
  subst h
  show CT.lst _ :: CT.lst _ :: (rest ++ [a, b]).set (rest.length + 1) c = _
  rw [List.set_append_right _ _ (by omega)]
  simp
theorem asS_of {n : Nat} {μ : Sto} {ds : List D} (h : μ[n]? = some (.lst ds)) : asS μ (.cell n) = some ds := z_asL_c.mpr h
theorem asL_of {n : Nat} {μ : Sto} {ds : List D} (h : μ[n]? = some (.lst ds)) : asL μ (.cell n) = some ds := z_asL_c.mpr h
end
theorem bd_lst {n : Nat} {ds : List D} (h : bdL n ds = true) : (D.lst ds).bd n = true := by unfold D.bd; exact h
theorem ix_nn {i : Int} {n : Nat} (h : 0 ≤ i) (h2 : i < n) : seqIndex? i n = some i.toNat := by
  unfold seqIndex?
  simp only [show ¬ i < 0 by omega, if_false]
  rw [if_pos (by simp [h, h2])]
/-! ### comprehensions in the sight of what they make -/
section
variable {g : FG} {ft : FT} {fe : FE} {ρ : Rho} {vs : List Nat} {Q : QD}
/-- the store stays: each item gives one, or none -/
theorem lc_pure {xs : List D} {st : Sto → Prop} {m : Sto} (p : D → Option D) (hst : ∀ c, st (m ++ [.lst c]))
    (turn : ∀ x, x ∈ xs → ∀ (acc : List D) (NX : D → Sto → Prop) (N0 : Sto → Prop), (∀ y, p x = some y → NX y (m ++ [.lst acc])) → (p x = none → N0 (m ++ [.lst acc])) →
      g x (wipeD ρ vs) (m ++ [.lst acc]) (fun ρ2 μ2 => ft ρ2 μ2 (fun b m3 => if b = true then fe ρ2 m3 NX NE else N0 m3) NE))
    (hl : xs.length ≤ sizeLine) (bd : bdL m.length (xs.filterMap p) = true) (bm : bdS m.length m = true) (q : Q (.lst (xs.filterMap p)) m) :
    ∃ I : Nat → Sto → Prop, I 0 (m ++ [.lst []]) ∧ (∀ i μ', I i μ' → st μ') ∧
      (∀ i x μ', xs[i]? = some x → I i μ' → g x (wipeD ρ vs) μ' (fun ρ2 μ2 => ft ρ2 μ2 (fun b m3 =>
        if b = true then fe ρ2 m3 (fun y m4 => ∃ acc, m4[m.length]? = some (.lst acc) ∧ acc.length < sizeLine ∧ I (i + 1) (m4.set m.length (.lst (acc ++ [y])))) NE else I (i + 1) m3) NE)) ∧
      ∀ μ', I xs.length μ' → ∃ d2 μ2, Fz m.length (.cell m.length) μ' d2 μ2 ∧ Q d2 μ2 := by
  have fl : ∀ l : List D, (l.filterMap p).length ≤ l.length := fun l => List.length_filterMap_le p l
  refine ⟨fun i μ' => μ' = m ++ [.lst ((xs.take i).filterMap p)], rfl, fun i μ' e => by rw [e]; exact hst _, ?_, ?_⟩
  · rintro i x μ' hx rfl
    have ht : xs.take (i + 1) = xs.take i ++ [x] := by rw [List.take_add_one, hx]; rfl
    refine turn x (List.mem_of_getElem? hx) _ _ _ (fun y hy => ⟨(xs.take i).filterMap p, by simp, ?_, ?_⟩) (fun hn => ?_)
    · have h1 := fl (xs.take i)
      have h2 : (xs.take i).length ≤ i := by rw [List.length_take]; omega
      have h3 := (List.getElem?_eq_some_iff.mp hx).1
      omega
    · dsimp only
      rw [List.set_append_right _ _ (Nat.le_refl _), Nat.sub_self, ht, List.filterMap_append]
      simp [hy]
    · dsimp only
      rw [ht, List.filterMap_append]
      simp [hn]
  · rintro μ' rfl
    rw [List.take_length]
    exact ⟨_, _, .lst (Nat.le_refl _) bd bm .refl, q⟩
/-- draws on the way -/
theorem lc_draw {xs : List D} {st : Sto → Prop} {S : Dr} {rest : Sto} (cost : Int) (R : Nat → List D → Prop) (ok : S.ok) (okr : okRest rest) (hst : ∀ (S' : Dr) c, st (S'.sto (rest ++ [.lst c]))) (R0 : R 0 [])
    (turn : ∀ (i : Nat) x (acc : List D) (S' : Dr), xs[i]? = some x → i < xs.length → S'.ok → S.t ≤ S'.t → S'.t ≤ S.t + i * cost → R i acc → ∀ (NX : D → Sto → Prop) (N0 : Sto → Prop),
      (∀ y (S2 : Dr), S2.ok → S'.t ≤ S2.t → S2.t ≤ S'.t + cost → R (i + 1) (acc ++ [y]) → NX y (S2.sto (rest ++ [.lst acc]))) →
      (∀ (S2 : Dr), S2.ok → S'.t ≤ S2.t → S2.t ≤ S'.t + cost → R (i + 1) acc → N0 (S2.sto (rest ++ [.lst acc]))) →
      g x (wipeD ρ vs) (S'.sto (rest ++ [.lst acc])) (fun ρ2 μ2 => ft ρ2 μ2 (fun b m3 => if b = true then fe ρ2 m3 NX NE else N0 m3) NE))
    (hR : ∀ i acc, R i acc → acc.length ≤ i) (hl : xs.length ≤ sizeLine) (bd : ∀ acc, R xs.length acc → bdL (rest.length + 2) acc = true)
    (q : ∀ acc (S' : Dr), R xs.length acc → S'.ok → S.t ≤ S'.t → S'.t ≤ S.t + xs.length * cost → Q (.lst acc) (S'.sto rest)) :
    ∃ I : Nat → Sto → Prop, I 0 (S.sto rest ++ [.lst []]) ∧ (∀ i μ', I i μ' → st μ') ∧
      (∀ i x μ', xs[i]? = some x → I i μ' → g x (wipeD ρ vs) μ' (fun ρ2 μ2 => ft ρ2 μ2 (fun b m3 =>
        if b = true then fe ρ2 m3 (fun y m4 => ∃ acc, m4[(S.sto rest).length]? = some (.lst acc) ∧ acc.length < sizeLine ∧ I (i + 1) (m4.set (S.sto rest).length (.lst (acc ++ [y])))) NE else I (i + 1) m3) NE)) ∧
      ∀ μ', I xs.length μ' → ∃ d2 μ2, Fz (S.sto rest).length (.cell (S.sto rest).length) μ' d2 μ2 ∧ Q d2 μ2 := by
  have step : ∀ (i : Nat) (a b : Int), a ≤ S.t + i * cost → b ≤ a + cost → b ≤ S.t + (i + 1 : Nat) * cost := fun i a b h1 h2 => by
    have e : ((i + 1 : Nat) : Int) * cost = i * cost + cost := by rw [Int.natCast_add, Int.add_mul]; simp
    omega
  refine ⟨fun i μ' => ∃ (S' : Dr) (acc : List D), S'.ok ∧ S.t ≤ S'.t ∧ S'.t ≤ S.t + i * cost ∧ R i acc ∧ μ' = S'.sto (rest ++ [.lst acc]), ⟨S, [], ok, Int.le_refl _, by simp, R0, rfl⟩, ?_, ?_, ?_⟩
  · rintro i μ' ⟨S', acc, _, _, _, _, rfl⟩; exact hst S' acc
  · rintro i x μ' hx ⟨S', acc, ok', t1, t2, hr, rfl⟩
    have hi := (List.getElem?_eq_some_iff.mp hx).1
    refine turn i x acc S' hx hi ok' t1 t2 hr _ _ (fun y S2 ok2 u1 u2 hr2 => ⟨acc, get_a sto_len, by have := hR _ _ hr; omega, ?_⟩) (fun S2 ok2 u1 u2 hr2 => ⟨S2, acc, ok2, by omega, step i _ _ t2 u2, hr2, rfl⟩)
    exact ⟨S2, acc ++ [y], ok2, by omega, step i _ _ t2 u2, hr2, set_a sto_len⟩
  · rintro μ' ⟨S', acc, ok', t1, t2, hr, rfl⟩
    exact ⟨_, _, .lst (μ := S'.sto rest) (Nat.le_refl _) (bd acc hr) okr.sto .refl, q acc S' hr ok' t1 t2⟩
end
theorem eqDD_str {a b : Str} : eqDD (.str a) (.str b) = decide (a = b) := by
  show (a == b) = _
  rfl
theorem inDD_strs {s : Str} {tk : List Str} : inDD (.str s) (tk.map .str) = decide (s ∈ tk) := by
  unfold inDD
  rw [List.any_map]
  rw [Bool.eq_iff_iff]
  simp only [List.any_eq_true, decide_eq_true_eq, Function.comp, eqDD_str]
  exact ⟨fun ⟨x, h, e⟩ => e ▸ h, fun h => ⟨s, h, rfl⟩⟩
theorem flat_strs (tk : List Str) : (tk.map D.str).all flatD = true := by
  rw [List.all_eq_true]
  intro d h
  obtain ⟨s, _, rfl⟩ := List.mem_map.mp h
  rfl
theorem nodup_le : ∀ {l tk : List Str}, l.Nodup → (∀ x ∈ l, x ∈ tk) → l.length ≤ tk.length
  | [], _, _, _ => Nat.zero_le _
  | x :: l, tk, hn, h => by
    obtain ⟨h1, h2⟩ := List.nodup_cons.mp hn
    have hx := h x List.mem_cons_self
    have ih := nodup_le (tk := tk.erase x) h2 fun y hy => (List.mem_erase_of_ne (show y ≠ x from fun e => h1 (e ▸ hy))).mpr (h y (List.mem_cons_of_mem _ hy))
    rw [List.length_erase_of_mem hx] at ih
    have := List.length_pos_of_mem hx
    show l.length + 1 ≤ _
    omega
theorem app_chars (a b : Str) : (a ++ b).cps.toList = a.cps.toList ++ b.cps.toList := by
  show (a.cps ++ b.cps).toList = _
  simp
theorem join_chars (cs : List Nat) : (Txt.join (Str.ofString "") (cs.map fun c => (⟨#[c]⟩ : Str))).cps.toList = cs := by
  show (Builtin.Str.glued _ _).cps.toList = cs
  rw [StrLaws.glued_eq_join]
  have e0 : (Str.ofString "").cps.toList = [] := by decide
  have key : ∀ cs : List Nat, (Str.join (Str.ofString "") (cs.map fun c => (⟨#[c]⟩ : Str))).cps.toList = cs := by
    intro cs
    induction cs with
    | nil => rfl
    | cons c cs ih =>
      cases cs with
      | nil => rfl
      | cons d r =>
        show ((⟨#[c]⟩ : Str) ++ Str.ofString "" ++ Str.join (Str.ofString "") ((d :: r).map fun c => (⟨#[c]⟩ : Str))).cps.toList = _
        rw [app_chars, app_chars, e0, ih]
        rfl
  exact key cs
/-- a name: 1 to 8 small letters, none of the words -/
def Reserved : List Str := ["and", "or", "not", "always", "never"]
structure NameOk (s : Str) : Prop where
  pos : 1 ≤ s.cps.toList.length
  le : s.cps.toList.length ≤ 8
  low : ∀ c ∈ s.cps.toList, 97 ≤ c ∧ c ≤ 122
  res : s ∉ Reserved
def abc : List Nat := (Str.ofString "abcdefghijklmnopqrstuvwxyz").cps.toList
theorem abc_low : ∀ c ∈ abc, 97 ≤ c ∧ c ≤ 122 := by decide +kernel
theorem abc_len : abc.length = 26 := by decide +kernel
def qs : List Str := (Str.ofString "abcdefghijklmnopqrst").cps.toList.map fun c => (Str.ofString "q" ++ ⟨#[c]⟩ : Str)
theorem qs_len : qs.length = 20 := by decide +kernel
theorem qs_nodup : qs.Nodup := by decide +kernel
theorem qs_ok : ∀ s ∈ qs, NameOk s := by
  have h : ∀ s ∈ qs, 1 ≤ s.cps.toList.length ∧ s.cps.toList.length ≤ 8 ∧ (∀ c ∈ s.cps.toList, 97 ≤ c ∧ c ≤ 122) ∧ s ∉ Reserved := by decide +kernel
  exact fun s hs => ⟨(h s hs).1, (h s hs).2.1, (h s hs).2.2.1, (h s hs).2.2.2⟩
theorem sum_ones : ∀ cs : List Nat, ((cs.map fun c => (⟨#[c]⟩ : Str)).map (·.length)).sum = cs.length
  | [] => rfl
  | c :: cs => by
    rw [List.map_cons, List.map_cons, List.sum_cons, sum_ones cs]
    show 1 + _ = cs.length + 1
    omega
def pQ : D → Option D
  | .str t => some (.str (Str.ofString "q" ++ t))
  | _ => none
def pN (tk : List Str) : D → Option D
  | .str t => if t ∈ tk then none else some (.str t)
  | _ => none
theorem pN_map (tk : List Str) : ∀ l : List Str, (l.map D.str).filterMap (pN tk) = (l.filter fun t => decide (t ∉ tk)).map D.str
  | [] => rfl
  | t :: l => by
    rw [List.map_cons, List.filterMap_cons, pN_map tk l, List.filter_cons]
    by_cases h : t ∈ tk
    · simp [pN, h]
    · simp [pN, h]
theorem qs_some {tk : List Str} (h : tk.length ≤ 15) : ∃ s l, (qs.filter fun t => decide (t ∉ tk)) = s :: l ∧ s ∈ qs ∧ s ∉ tk := by
  cases e : qs.filter fun t => decide (t ∉ tk) with
  | nil =>
    have := nodup_le (tk := tk) qs_nodup fun x hx => by
      rw [List.filter_eq_nil_iff] at e
      have := e x hx
      simpa using this
    rw [qs_len] at this
    omega
  | cons s l =>
    have : s ∈ qs.filter fun t => decide (t ∉ tk) := by rw [e]; exact List.mem_cons_self
    rw [List.mem_filter] at this
    exact ⟨s, l, rfl, this.1, by simpa using this.2⟩
end Dl

namespace Dl
open PySem PySem.Spec L2
open PyProof.Rows hiding St Binds

/-- the law's call, where nothing that guards against itself is under way -/
theorem callG {P : Program} {w : World} {K : W.Frag} {mg mb : Str → Option Value} {k : Nat} {fa a : Addr} {fd : FuncData} {x : Str} {sp : Sp} {s : Shared} {us : List Value} {ns : List Int}
    (inK : K.In s.heap) (gns : s.heap.Ns mainGlobals mg) (bns : s.heap.Ns builtinsNs mb) (boot : ∀ y : Str, y ≠ "__name__" → mb y = bootBuiltins y) (nl : s.heap.NoLimit) (ng : s.gens = #[])
    (at_a : s.heap.get? a = some { cls := .type "list", data := .seq us.toArray }) (allInt : IntsAre us ns) (few : ns.length ≤ sizeLine) (room : Room k callerA)
    (F : ∀ base : Heap, K.In base → base.Ns mainGlobals mg → FnG P w K mg base (L2.CX P w) k fa fd [x] sp) (bind : ∀ (s : Shared) (u : Value), BindsTo s fd ⟨[u], []⟩ [(x, u)])
    (wish : ∀ H : Hp, Only H → SqL K H a (ns.map V.int) → sp [.ref a] H (fun v _ => v = .bl true) fun _ _ _ => False) :
    codeAny (model P w) callerA (.call (.ref fa) ⟨[.ref a], []⟩) (fun r s' => r = .ok (.ret (.bool true)) ∧ OldK s.heap s'.heap ∧ s'.os = s.os ∧ AllBare s'.gens) s := by
  have many := allInt.length
  have vals := vals_ints allInt
  suffices run : ∀ H : Hp, Only H → SqL K H a (ns.map V.int) → HOk P w H s.heap → (∀ b, b ≠ a → H b = none) → (K.lookup a ≠ none → H a = none) →
      codeAny (model P w) callerA (.call (.ref fa) ⟨[.ref a], []⟩) (fun r s' => r = .ok (.ret (.bool true)) ∧ OldK s.heap s'.heap ∧ s'.os = s.os ∧ AllBare s'.gens) s by
    cases own : K.lookup a with
    | none =>
      let O : Obj := { cls := .type "list", data := .seq us.toArray }
      let H1 : Hp := fun b => if b = a then some (.frz O (.lst (ns.map V.int))) else none
      have H1a : H1 a = some (.frz O (.lst (ns.map V.int))) := if_pos rfl
      have H1b : ∀ b, b ≠ a → H1 b = none := fun b n => if_neg n
      refine run H1 (fun b => ?_) (.inl (.inr ⟨O, H1a⟩)) (fun b u e => ?_) H1b fun n => absurd own n
      · by_cases e : b = a
        · exact .inr ⟨O, _, e ▸ H1a⟩
        · exact .inl (H1b b e)
      · by_cases eb : b = a
        · subst eb
          rw [H1a] at e; cases e
          exact ⟨at_a, by rw [List.length_map]; exact few, us, _, vals, at_a⟩
        · rw [H1b b eb] at e; cases e
    | some o =>
      have eo := inK a o own
      rw [at_a] at eo
      cases eo
      exact run (fun _ => none) (fun _ => .inl rfl) (.inr ⟨_, us.toArray, _, own, rfl, rfl, rfl, by rw [List.size_toArray, many]; exact few, by simpa using vals⟩) (fun b u e => nomatch (show (none : Option HO) = some u from e))
        (fun _ _ => rfl) fun _ => rfl
  intro H only seq hok elsewhere ownA
  have dictFree : ∀ {b : Addr} {o : Obj} {es : Array DictEntry} {ep : Nat}, s.heap.get? b = some o → o.data = .dict es ep → H b = none := by
    intro b o es ep e d
    by_cases eb : b = a
    · subst eb
      rw [at_a] at e; cases e
      exact nomatch (show Data.seq us.toArray _ = Data.dict es ep from d)
    · exact elsewhere b eb
  have nsOf : ∀ {b : Addr} {m : Str → Option Value}, s.heap.Ns b m → (hidT s.heap H).Ns b m := by
    rintro b m ⟨o, es, ep, e, d, r⟩
    exact ⟨o, es, ep, hidT_get e (dictFree e d), d, r⟩
  have KB : K.In (hidT s.heap H) := by
    intro b o e
    refine hidT_get (inK b o e) ?_
    by_cases eb : b = a
    · subst eb; exact ownA (by rw [e]; simp)
    · exact elsewhere b eb
  have limB : (hidT s.heap H).NoLimit := by
    obtain ⟨mc, n1, n2⟩ := nl
    exact ⟨mc, nsOf n1, n2⟩
  have none_in : ∀ b : Addr, b ∉ ([] : List Addr) := fun b => by simp
  have E0 : Env0 P w K mg (hidT s.heap H) callerA [] s H :=
    ⟨rfl, ⟨KB, nsOf gns, ⟨mb, nsOf bns, boot⟩, limB⟩, fun b o e => of_hidT e, Nat.le_of_eq (hidT_size _ _), trivial, fun b hb => absurd hb (none_in b), hok, .of_eq ng⟩
  have ran := (F _ KB (nsOf gns)).go callerA [] s H ⟨[.ref a], []⟩ [.ref a] [.ref a] _ _ rfl room E0 (bind s (.ref a)) (.cons rfl .nil) (wish H only seq)
  refine codeAny_mono ran fun r s' q => ?_
  match r, q with
  | .error e, q =>
    obtain ⟨_, _, _, _, _, _, _, _, _, _, _, _, z⟩ := q
    exact z.elim
  | .ok .next, q => exact False.elim q
  | .ok .brk, q => exact False.elim q
  | .ok .cont, q => exact False.elim q
  | .ok (.ret u), q =>
    obtain ⟨v, H2, os, bare, un, hok2, rel, ev⟩ := q
    cases (show v = .bl true from ev)
    cases (show u = Value.bool true from rel)
    refine ⟨rfl, OldK.of_keep fun b o e => ?_, os, bare⟩
    rcases only b with n | ⟨ob, ys, f⟩
    · exact un.keep b o e n (fun z => none_in b z) (none_in b)
    · obtain ⟨o1, _⟩ := hok b _ f
      obtain ⟨o2, _⟩ := hok2 b _ (un.frzs b ob _ f)
      rw [e] at o1; cases o1
      exact o2
end Dl

namespace Dl
open PySem PySem.Spec L2
open PyProof.Rows hiding St Binds

/-! ### a dict that is walked: locked meanwhile -/
def RdO (o u : HO) : Prop := o = u ∨ ∃ ob, o = .frz ob u
section
variable {K : PySem.W.Frag} {ι ι' : Io} {H H' : Hp} {a : Addr} {kv : List (Key × V)} {o' : HO} {v : V} {d : D} {μ : Sto} {σ : L2.St} {ρ : Rho}
theorem rd_ne (ha : Rd H a (.dK kv)) {b : Addr} {o : HO} (hb : H b = some o) (no : ∀ kv, ¬ RdO o (.dK kv)) : b ≠ a := fun e => by
  subst e
  rcases ha with h | ⟨ob, h⟩
  · rw [h] at hb; cases hb; exact no kv (.inl rfl)
  · rw [h] at hb; cases hb; exact no kv (.inr ⟨ob, rfl⟩)
theorem rd_tup_ne (ha : Rd H a (.dK kv)) {b : Addr} {vs : List V} (hb : Rd H b (.tup vs)) : b ≠ a := by
  rcases hb with h | ⟨ob, h⟩
  · exact rd_ne ha h fun kv z => by rcases z with z | ⟨_, z⟩ <;> cases z
  · exact rd_ne ha h fun kv z => by rcases z with z | ⟨_, z⟩ <;> cases z
theorem rd_same (ha : Rd H a (.dK kv)) {kv' : List (Key × V)} (hb : Rd H a (.dK kv')) : kv' = kv := by
  rcases ha with h | ⟨ob, h⟩ <;> rcases hb with h' | ⟨ob', h'⟩ <;> rw [h] at h' <;> cases h' <;> rfl
theorem rd_upd_ne {b : Addr} {u : HO} (h : Rd H b u) (n : b ≠ a) : Rd (upd H a o') b u := by
  rcases h with h | ⟨ob, h⟩
  · exact .inl (by rw [upd_ne n]; exact h)
  · exact .inr ⟨ob, by rw [upd_ne n]; exact h⟩
theorem rd_upd (ho : RdO o' (.dK kv)) : Rd (upd H a o') a (.dK kv) := by
  rcases ho with rfl | ⟨ob, rfl⟩
  · exact .inl upd_same
  · exact .inr ⟨ob, upd_same⟩
theorem no_lst {vs : List V} : ∀ kv, ¬ RdO (.lst vs) (.dK kv) := fun kv z => by rcases z with z | ⟨_, z⟩ <;> cases z
theorem no_ins {C dx : Addr} {fs : List (Str × V)} : ∀ kv, ¬ RdO (.ins C dx fs) (.dK kv) := fun kv z => by rcases z with z | ⟨_, z⟩ <;> cases z
theorem no_fzl {ob : Obj} {vs : List V} : ∀ kv, ¬ RdO (.frz ob (.lst vs)) (.dK kv) := fun kv z => by rcases z with z | ⟨_, z⟩ <;> cases z
theorem At.relock (ha : Rd H a (.dK kv)) (ho : RdO o' (.dK kv)) (h : At K ι H v d) : At K ι (upd H a o') v d := by
  induction h with
  | non => exact .non
  | bl b => exact .bl b
  | int i => exact .int i
  | str s => exact .str s
  | lst h n l _ ih => exact .lst (by rw [upd_ne (rd_ne ha h no_lst)]; exact h) n l ih
  | tup h n l _ ih => exact .tup (rd_upd_ne h (rd_tup_ne ha h)) n l ih
  | ktup h l _ ih => exact .ktup h l ih
  | @dct b kv' kd h n l _ ih =>
    by_cases e : b = a
    · subst e
      cases rd_same ha h
      exact .dct (rd_upd ho) n l ih
    · exact .dct (rd_upd_ne h e) n l ih
  | ins h n l _ ih => exact .ins (by rw [upd_ne (rd_ne ha h no_ins)]; exact h) n l ih
  | cell h => exact .cell h
  | ref a => exact .ref a
  | ty n => exact .ty n
  | fzl h l _ ih => exact .fzl (h.imp (fun ⟨o, e, n⟩ => ⟨o, by rw [upd_ne (rd_ne ha e no_fzl)]; exact e, n⟩) id) l ih
theorem Ats.relock {vs : List V} {ds : List D} (ha : Rd H a (.dK kv)) (ho : RdO o' (.dK kv)) (h : Ats K ι H vs ds) : Ats K ι (upd H a o') vs ds := ⟨h.1, fun i v d e1 e2 => (h.2 i v d e1 e2).relock ha ho⟩
theorem Pts.relock {κ : Type} {ks : List (κ × V)} {kd : List (κ × D)} (ha : Rd H a (.dK kv)) (ho : RdO o' (.dK kv)) (h : Pts K ι H ks kd) : Pts K ι (upd H a o') ks kd := ⟨h.1, fun i p q e1 e2 => (h.2 i p q e1 e2).relock ha ho⟩
theorem Loc.relock (ha : Rd H a (.dK kv)) (ho : RdO o' (.dK kv)) (h : Loc K ι H σ ρ) : Loc K ι (upd H a o') σ ρ := ⟨h.1, fun i d e => let ⟨v, e1, x⟩ := h.2 i d e; ⟨v, e1, x.relock ha ho⟩⟩
theorem Rep.relock (ha : Rd H a (.dK kv)) (ho : RdO o' (.dK kv)) (n : a ∉ ι) (h : Rep K ι μ H) : Rep K ι μ (upd H a o') := by
  refine ⟨h.len, h.nd, fun j b c e1 e2 => ?_⟩
  have ne : b ≠ a := fun e => n (e ▸ List.mem_of_getElem? e1)
  have z := h.at_ j b c e1 e2
  cases c with
  | lst ds => obtain ⟨vs, h1, h2⟩ := z; exact ⟨vs, by rw [upd_ne ne]; exact h1, h2.relock ha ho⟩
  | dct kd => obtain ⟨kv, h1, h2⟩ := z; exact ⟨kv, by rw [upd_ne ne]; exact h1, h2.relock ha ho⟩
  | lck ob kv kd => exact ⟨by rw [upd_ne ne]; exact z.1, z.2.relock ha ho⟩
  | ins C fd => obtain ⟨dx, fv, h1, h2⟩ := z; exact ⟨dx, fv, by rw [upd_ne ne]; exact h1, h2.relock ha ho⟩
theorem upd_id {o : HO} (h : H a = some o) : upd H a o = H := by
  funext b
  by_cases e : b = a
  · subst e; rw [upd_same, h]
  · rw [upd_ne e]
/-- what grew while it was locked, unlocked -/
theorem Gr.unlock {u o1 : HO} (h : H a = some u) (n : a ∉ ι) (g : Gr ι (upd H a o1) ι' H') : H' a = some o1 ∧ a ∉ ι' ∧ Gr ι H ι' (upd H' a u) := by
  obtain ⟨h1, n1⟩ := g.keep a o1 upd_same n
  refine ⟨h1, n1, g.pre, fun b o e m => ?_⟩
  by_cases eb : b = a
  · subst eb
    rw [h] at e; cases e
    exact ⟨upd_same, n1⟩
  · obtain ⟨h2, n2⟩ := g.keep b o (by rw [upd_ne eb]; exact e) m
    exact ⟨by rw [upd_ne eb]; exact h2, n2⟩
/-! walks -/
theorem walks_items {kd : List (Key × D)} {ob : Obj} {st : Sto → Prop} (h : H a = some (.frz ob (.dK kv))) (n : a ∉ ι) (p : Pts K ι H kv kd) : Walks K (Iti a ob kv) ι H (kd.map fun q => D.tup [kOf q.1, q.2]) st := by
  refine ⟨fun ι' H' μ' i x g r s hx => ?_, fun ι' H' μ' i g r s hx0 => have hx := Nat.le_of_eq hx0; ⟨(g.keep _ _ h n).1, by rw [p.length]; simpa using hx⟩⟩
  rw [List.getElem?_map, Option.map_eq_some_iff] at hx
  obtain ⟨q, hq, rfl⟩ := hx
  have hi : i < kv.length := by rw [p.length]; exact (List.getElem?_eq_some_iff.mp hq).1
  refine ⟨⟨(g.keep _ _ h n).1, hi⟩, fun v H2 hy => ?_⟩
  obtain ⟨T, k, w, e, rfl, hT, rfl⟩ := hy
  have z := congrArg (fun l => l[i]?) p.1
  simp only [List.getElem?_map, e, hq, Option.map_some] at z
  refine ⟨Gr.new hT (r.free hT), r.new hT, .newT hT (r.free hT) (Ats.cons ?_ (Ats.cons ((p.gr g).2 i _ _ e hq) Ats.nil))⟩
  have e' : k = q.1 := Option.some.inj z
  rw [e']
  exact kOf_at
end

/-- a dict that is found by a name, or by a name's attribute -/
structure Pth (X : Cx) (e : Expr) (g : Rho → Sto → Option (List (Key × D))) : Prop where
  run : ∃ td, PE X e td ∧ ∀ ι H σ ρ μ kd, Rep X.K ι μ H → Loc X.K ι H σ ρ → g ρ μ = some kd → ∃ a kv, Rd H a (.dK kv) ∧ a ∉ ι ∧ Pts X.K ι H kv kd ∧
    ∀ u, RdO u (.dK kv) → ∀ Q : VK, Q (.ref a) (upd H a u) → td σ (upd H a u) Q
def gVar (i : Nat) : Rho → Sto → Option (List (Key × D)) := fun ρ _ => match ρ[i]? with | some (some (.dct kd)) => some kd | _ => none
section
variable {X : Cx} {e : Expr} {g : Rho → Sto → Option (List (Key × D))} {pos p : Pos} {x : Str}
theorem pth_var (i : Nat) (hN : X.N[i]? = some x := by rfl) (hv : Vis X.env.scope x := by first | exact Or.inl rfl | exact Or.inr (Or.inl rfl) | exact Or.inr (Or.inr rfl))
    (hd : (x == ("__debug__" : Str)) = false := by decide) (hcd : (x == ("__classdict__" : Str)) = false := by decide) : Pth X (.Name x pos) (gVar i) := by
  refine ⟨_, pe_var hN hv hd hcd, fun ι H σ ρ μ kd r l h => ?_⟩
  unfold gVar at h
  split at h
  · rename_i kd' e1
    cases h
    obtain ⟨v, e2, at_⟩ := l.2 i _ e1
    cases at_ with
    | dct h n ll rr => exact ⟨_, _, h, n, ⟨ll, rr⟩, fun u _ Q q => ⟨_, e2, q⟩⟩
  · cases h
/-- what walks a dict -/
structure WD (X : Cx) (tg iter : Expr) (g : Rho → Sto → Option (List (Key × D))) (its : List (Key × D) → List D) : Prop where
  run : ∃ wi, PI X tg iter wi ∧ ∀ ι H σ ρ μ kd, Rep X.K ι μ H → Loc X.K ι H σ ρ → g ρ μ = some kd → ∃ a kv, Rd H a (.dK kv) ∧ a ∉ ι ∧
    ∀ ob, ∀ R : It → Hp → Prop, (∀ J, Walks X.K J ι (upd H a (.frz ob (.dK kv))) (its kd) (fun _ => True) → R J (upd H a (.frz ob (.dK kv)))) → wi σ (upd H a (.frz ob (.dK kv))) R
theorem wd_items {elts : List Expr} {kk : Nat} {tpos apos cpos : Pos} (pt : Pth X e g) (hbase : attributeBase e "items" X.env (eval e X.env) = eval e X.env := by rfl) (hline : (apos.endLine == cpos.line) = true := by rfl) :
    WD X (.Tuple elts kk tpos) (.Call (.Attribute e "items" apos) [] [] cpos) g (fun kd => kd.map fun q => D.tup [kOf q.1, q.2]) := by
  obtain ⟨td, he, k⟩ := pt.run
  refine ⟨_, pi_items he hbase hline, fun ι H σ ρ μ kd r l h => ?_⟩
  obtain ⟨a, kv, rd, n, p, q⟩ := k ι H σ ρ μ kd r l h
  exact ⟨a, kv, rd, n, fun ob R hR => q _ (.inr ⟨ob, rfl⟩) _ ⟨a, ob, kv, rfl, upd_same, hR _ (walks_items upd_same n (p.relock rd (.inr ⟨ob, rfl⟩)))⟩⟩
end

/-! ### for .. over a dict -/
section
variable {X : Cx} {W : WX} {tg iter : Expr} {sb : List Stmt} {g : Rho → Sto → Option (List (Key × D))} {its : List (Key × D) → List D} {tgf : FG} {fb : FS} {pos : Pos}
theorem for_core {ι1 : Io} {H1 : Hp} {σ : L2.St} {ρ : Rho} {m : Sto} {De : Ends} {J : It} {xs : List D} {st : Sto → Prop} {t : TG} {A : DK} (mg : MonTg tgf) (mb : MonS fb)
    (kk : ∀ ι H σ ρ μ v d N, Rep X.K ι μ H → Loc X.K ι H σ ρ → At X.K ι H v d → tgf d ρ μ (SV X.K ι H N) → t v σ H N)
    (r1 : Rep X.K ι1 m H1) (l1 : Loc X.K ι1 H1 σ ρ) (wk : Walks X.K J ι1 H1 xs st) (le : A.le (KV X.K W ι1 H1 De)) {I : Nat → Rho → Sto → Prop} (h0 : I 0 ρ m) (hst : ∀ i ρ' μ', I i ρ' μ' → st μ')
    (ht : ∀ i x ρ' μ', xs[i]? = some x → I i ρ' μ' → tgf x ρ' μ' (fun ρ2 μ2 => fb { A with nx := I (i + 1), ct := I (i + 1), bk := A.nx } ρ2 μ2)) (hd : ∀ ρ' μ', I xs.length ρ' μ' → A.nx ρ' μ') :
    ∃ Wm : Nat → Nat → L2.St → Hp → Prop, (∃ k, Wm 0 k σ H1) ∧ ∀ i k σ H, Wm i k σ H →
      (J.stop i H ∧ De.nx σ H) ∨ (J.go i H ∧ ∃ N : L2.St → Hp → Prop, (∀ σ' H', N σ' H' → ∃ k', k' < k ∧ Wm (i + 1) k' σ' H') ∧ ∀ x H', J.yld i H x H' → t x σ H' fun σ2 H2 => rdS X.K W fb { De with nx := N, ct := N, bk := De.nx } σ2 H2) := by
  refine ⟨fun i n σ' H' => n = xs.length - i ∧ i ≤ xs.length ∧ ∃ ι' ρ' μ', Gr ι1 H1 ι' H' ∧ Rep X.K ι' μ' H' ∧ Loc X.K ι' H' σ' ρ' ∧ I i ρ' μ', ⟨xs.length, by simp, Nat.zero_le _, ι1, ρ, m, Gr.refl _ _, r1, l1, h0⟩, ?_⟩
  rintro i n σ' H' ⟨rfl, hle, ι', ρ', μ', g', r', l', hI⟩
  by_cases hlt : i < xs.length
  · have hx : xs[i]? = some xs[i] := List.getElem?_eq_getElem hlt
    obtain ⟨w1, w2⟩ := wk.go ι' H' μ' i _ g' r' (hst i ρ' μ' hI) hx
    refine .inr ⟨w1, fun σ2 H2 => ∃ ι2 ρ2 μ2, Gr ι1 H1 ι2 H2 ∧ Rep X.K ι2 μ2 H2 ∧ Loc X.K ι2 H2 σ2 ρ2 ∧ I (i + 1) ρ2 μ2, fun σ2 H2 z => ⟨xs.length - (i + 1), by omega, rfl, hlt, z⟩, fun v H2 hy => ?_⟩
    obtain ⟨gy, ry, ay⟩ := w2 v H2 hy
    refine kk ι' H2 σ' ρ' μ' v _ _ ry (l'.gr gy) ay (mg _ _ _ _ _ (fun ρ2 μ2 z => ?_) (ht i _ ρ' μ' hx hI))
    intro ι3 H3 σ3 g3 r3 l3
    have gg : Gr ι1 H1 ι3 H3 := (g'.trans gy).trans g3
    refine ⟨ι3, ρ2, μ2, r3, l3, mb ρ2 μ2 { A with nx := I (i + 1), ct := I (i + 1), bk := A.nx } _ ⟨fun ρ4 μ4 z ι4 H4 σ4 g4 r4 l4 => ⟨ι4, ρ4, μ4, gg.trans g4, r4, l4, z⟩, fun _ _ z => QV.gr gg (le.rt _ _ z), fun _ _ _ _ z => WV.gr gg (le.ex _ _ _ _ z),
      fun _ _ z => SV.gr gg (le.nx _ _ z), fun ρ4 μ4 z ι4 H4 σ4 g4 r4 l4 => ⟨ι4, ρ4, μ4, gg.trans g4, r4, l4, z⟩⟩ z⟩
  · have e : i = xs.length := by omega
    subst e
    exact .inl ⟨wk.stop ι' H' μ' _ g' r' (hst _ ρ' μ' hI) rfl, le.nx _ _ (hd ρ' μ' hI) ι' H' σ' g' r' l'⟩
def sForD (g : Rho → Sto → Option (List (Key × D))) (its : List (Key × D) → List D) (tgf : FG) (fb : FS) : FS := fun A ρ μ => ∃ kd, g ρ μ = some kd ∧ ∃ I : Nat → Rho → Sto → Prop, I 0 ρ μ ∧
  (∀ i x ρ' μ', (its kd)[i]? = some x → I i ρ' μ' → tgf x ρ' μ' (fun ρ2 μ2 => fb { A with nx := I (i + 1), ct := I (i + 1), bk := A.nx, ex := NE } ρ2 μ2)) ∧ ∀ ρ' μ', I (its kd).length ρ' μ' → A.nx ρ' μ'
theorem PS.or {s : Stmt} {t t' : TS} (h : PS X s t) (h' : PS X s t') : PS X s (fun D σ H => t D σ H ∨ t' D σ H) := ⟨fun pins s σ H D I q => q.elim (h.run pins s σ H D I) (h'.run pins s σ H D I)⟩
theorem ds_forD (hp : PassesOwn (model X.prog X.w) X.A X.env X.xe) (hc : X.calm = true) (wd : WD X tg iter g its) (hg : DG X tg tgf) (hb : DB X W sb fb)
    (hs : ∀ x, foldedSetIterable iter X.env x = pure x := by intro _; rfl) : DS X W (.For tg iter sb [] pos) (sForD g its tgf fb) := by
  obtain ⟨t, p, kk⟩ := hg.run
  obtain ⟨wi, hi, k⟩ := wd.run
  have base := ps_for (pos := pos) hp hc hi p hb.run hs
  refine ⟨fun ρ μ A B h ⟨kd, e, I, h0, ht, hd⟩ => ⟨kd, e, I, h0, fun i x ρ' μ' hx hI => hg.mono _ _ _ _ _ (fun ρ2 μ2 z => hb.mono ρ2 μ2 { A with nx := I (i + 1), ct := I (i + 1), bk := A.nx, ex := NE } { B with nx := I (i + 1), ct := I (i + 1), bk := B.nx, ex := NE } ⟨fun _ _ z => z, h.rt, fun _ _ _ _ z => z, h.nx, fun _ _ z => z⟩ z) (ht i x ρ' μ' hx hI), fun ρ' μ' z => h.nx _ _ (hd ρ' μ' z)⟩,
    PS.imp (PS.or (ps_lock base) base) fun De σ H ⟨ι, ρ, μ, r, l, kd, e, I, h0, ht, hd⟩ => ?_⟩
  obtain ⟨a, kv, rd, n, hw⟩ := k ι H σ ρ μ kd r l e
  rcases rd with plain | ⟨ob, fr⟩
  · refine .inl ⟨a, .dK kv, plain, trivial, fun od => hw od _ fun J wk => ?_⟩
    have rd : Rd H a (.dK kv) := .inl plain
    have ho : RdO (HO.frz od (.dK kv)) (.dK kv) := .inr ⟨od, rfl⟩
    have back : ∀ {ι' : Io} {H' : Hp}, Gr ι (upd H a (.frz od (.dK kv))) ι' H' → H' a = some (.frz od (.dK kv)) ∧ a ∉ ι' ∧ Gr ι H ι' (upd H' a (.dK kv)) := fun g' => g'.unlock plain n
    refine for_core (A := { KV X.K W ι H De with ex := NE }) hg.mono hb.mono kk (r.relock rd ho n) (l.relock rd ho) wk ⟨fun ρ' μ' z => ?_, fun d μ' z => ?_, fun _ _ _ _ z => z.elim, fun ρ' μ' z => ?_, fun ρ' μ' z => ?_⟩ h0 (fun _ _ _ _ => trivial) ht hd
    · intro ι' H' σ' g' r' l'
      obtain ⟨e1, n1, g2⟩ := back g'
      exact ⟨e1, z ι' _ σ' g2 (r'.relock (.inr ⟨od, e1⟩) (.inl rfl) n1) (l'.relock (.inr ⟨od, e1⟩) (.inl rfl))⟩
    · intro ι' H' v g' r' a'
      obtain ⟨e1, n1, g2⟩ := back g'
      exact ⟨e1, z ι' _ v g2 (r'.relock (.inr ⟨od, e1⟩) (.inl rfl) n1) (a'.relock (.inr ⟨od, e1⟩) (.inl rfl))⟩
    · intro ι' H' σ' g' r' l'
      obtain ⟨e1, n1, g2⟩ := back g'
      exact ⟨e1, z ι' _ σ' g2 (r'.relock (.inr ⟨od, e1⟩) (.inl rfl) n1) (l'.relock (.inr ⟨od, e1⟩) (.inl rfl))⟩
    · intro ι' H' σ' g' r' l'
      obtain ⟨e1, n1, g2⟩ := back g'
      exact ⟨e1, z ι' _ σ' g2 (r'.relock (.inr ⟨od, e1⟩) (.inl rfl) n1) (l'.relock (.inr ⟨od, e1⟩) (.inl rfl))⟩
  · refine .inr ?_
    have w := hw ob
    rw [upd_id fr] at w
    exact w _ fun J wk => for_core (A := { KV X.K W ι H De with ex := NE }) hg.mono hb.mono kk r l wk ⟨fun _ _ z => z, fun _ _ z => z, fun _ _ _ _ z => z.elim, fun _ _ z => z, fun _ _ z => z⟩ h0 (fun _ _ _ _ => trivial) ht hd
end

/-! ### comprehensions over a dict, and those that make a dict -/
section
variable {K : PySem.W.Frag} {ι1 : Io} {H1 : Hp} {σ : L2.St} {ρ : Rho} {m : Sto} {J : It} {xs : List D} {st : Sto → Prop} {tgf : FG} {ft : FT} {fe fk fv : FE} {vs : List Nat} {QD' : QD} {Q : VK}
end
section
variable {X : Cx} {W : WX} {elt kx vx tg iter : Expr} {ifs : List Expr} {scope : Scope} {own : List (Str × Nat)} {pos : Pos} {fi : FI} {g : Rho → Sto → Option (List (Key × D))} {its : List (Key × D) → List D} {tgf : FG} {ft : FT} {fe fk fv : FE}
end
end Dl

namespace Dl
open PySem PySem.Spec L2
open PyProof.Rows hiding St Binds

/-! ### classes as values, isinstance -/
/-- what isinstance asks of an own class -/
structure IsC (K : PySem.W.Frag) (C : Addr) : Prop where
  cl : Cls K C
  ha : PySem.W.findIn K (.ref C) "__class__" = some (some (.builtin "object.__class__"))
  hn : PySem.W.specialIn K (.builtin "object.__class__") "__get__" = some (some (.builtin "getset_descriptor.__get__"))
  htk : PySem.W.takesIn K (.builtin "object.__class__") = some true
  hm : PySem.W.mroIn K C (.type "object") = some true
/-- the type of a datum -/
inductive TyD (K : PySem.W.Frag) (μ : Sto) : D → Value → Prop
  | non : TyD K μ .non (.type "NoneType")
  | bl (b : Bool) : TyD K μ (.bl b) (.type "bool")
  | int (i : Int) : TyD K μ (.int i) (.type "int")
  | str (s : Str) : TyD K μ (.str s) (.type "str")
  | lst (d : D) (ds : List D) (h : asL μ d = some ds) : TyD K μ d (.type "list")
  | tup (ds : List D) : TyD K μ (.tup ds) (.type "tuple")
  | dct (d : D) (kd : List (Key × D)) (h : asD μ d = some kd) : TyD K μ d (.type "dict")
  | ins (d : D) (C : Addr) (fd : List (Str × D)) (h : asI μ d = some (C, fd)) (c : IsC K C) : TyD K μ d (.ref C)
theorem tyd_of {K : PySem.W.Frag} {ι : Io} {H : Hp} {μ : Sto} {v : V} {d : D} {t : Value} (r : Rep K ι μ H) (a : At K ι H v d) (h : TyD K μ d t) : TyX K H v t := by
  cases h with
  | non => cases a; exact .base .non
  | bl b => cases a; exact .base (.bl b)
  | int i => cases a; exact .base (.int i)
  | str s => cases a; exact .base (.str s)
  | lst d ds h => obtain ⟨p, vs, rfl, h1, _⟩ := asL_at r a h; exact .base (.lst h1)
  | tup ds =>
    obtain ⟨p, vs, rfl, h1, _⟩ := tup_at a
    rcases h1 with (h1 | ⟨ob, h1⟩) | ⟨o, its, n, e, c, _⟩
    · exact .base (.tup h1)
    · exact .fTuple h1
    · exact .kTuple e c
  | dct d kd h =>
    obtain ⟨p, kv, rfl, h1, _⟩ := asD_at r a h
    rcases h1 with h1 | ⟨ob, h1⟩
    · exact .base (.dK h1)
    · exact .fDict h1
  | ins d C fd h c =>
    obtain ⟨p, dx, fv, rfl, h1, _⟩ := asI_at r a h
    exact .base (.ins h1 c.cl c.ha c.hn c.htk c.hm)
def gIsi (K : PySem.W.Frag) : GC := fun xs μ Q => ∃ d c t u b, xs = [d, c] ∧ ((∃ C, c = .ref C ∧ u = .ref C) ∨ ∃ n, c = .ty n ∧ u = .type n) ∧ TyD K μ d t ∧ PySem.W.kitOne K t u = some b ∧ Q (.bl b) μ
section
variable {X : Cx} {W : WX} {a b e o i : Expr} {es : List Expr} {f fa fb fo fi fv : FE} {fl : FA} {pos p pos' : Pos} {x : Str} {C : Addr} {F : FD} {dds : List D} {j k : Nat} {K : PySem.W.Frag}
theorem cad_isi (hK : X.K = K := by rfl) : CaD X (.builtin "isinstance") (gIsi K) := by
  subst hK
  refine ⟨fun xs μ Q Q' h ⟨d, c, t, u, b, e1, e2, e3, e4, q⟩ => ⟨d, c, t, u, b, e1, e2, e3, e4, h _ _ q⟩, _, call_isi, fun ι H μ vs ds Q r a ⟨d, c, t, u, b, e1, e2, e3, e4, q⟩ => ?_⟩
  subst e1
  obtain ⟨v, vs', rfl, a1, a2⟩ := a.uncons
  obtain ⟨w, rfl, a3⟩ := a2.one
  rcases e2 with ⟨C, rfl, rfl⟩ | ⟨n, rfl, rfl⟩
  · cases a3
    exact ⟨v, _, t, _, b, rfl, .own C, tyd_of r a1 e3, e4, q ι H _ (Gr.refl _ _) r (.bl _)⟩
  · cases a3
    exact ⟨v, _, t, _, b, rfl, .ty n, tyd_of r a1 e3, e4, q ι H _ (Gr.refl _ _) r (.bl _)⟩
theorem de_cls (hg : Gl X x) (hm : X.mg x = some (.ref C)) (hd : (x == ("__debug__" : Str)) = false := by decide) : DE X W (.Name x pos) (fC (.ref C)) := de_k (pe_glob (v := .ref C) hg hm rfl hd) fun _ _ => .ref C
theorem de_ty {n : String} (hg : Gl X x) (hm : X.mg x = none) (hv : bootBuiltins x = some (.type n)) (hn : x ≠ "__name__" := by decide) (hd : (x == ("__debug__" : Str)) = false := by decide) : DE X W (.Name x pos) (fC (.ty n)) :=
  de_k (pe_bltn (v := .ty n) hg hm hv rfl hn hd) fun _ _ => .ty n

/-! ### own operators -/
theorem passNo {k : Nat} {E : XK} {σ : L2.St} (h : ∀ c d H, ¬ E c d H) : PassesAt (L2.CX X.prog X.w) X σ E := fun _ _ _ e s' _ q => by
  obtain ⟨_, _, _, _, _, _, _, _, _, _, _, _, z⟩ := q
  exact (h _ _ _ z).elim
variable {pins : List (Addr × Obj)} {σ : L2.St} {H : Hp} {s : Shared} {Q : VK} {us : List Value} {vs : List V} {ds : List Value} {dvs : List V} {f0 : Addr} {fd0 : FuncData} {ps : List Str} {sp : Sp} {E : XK}
/-- the callee is run, within a builtin's call -/
theorem g_runA {A' : Around} (hG : A'.guards = some []) (F : FnG X.prog X.w X.K X.mg X.base (L2.CX X.prog X.w) k f0 fd0 ps sp) (hr : Room k A') (e0 : Env0 X.prog X.w X.K X.mg X.base A' X.stack s H) (hb : L2.Binds X.K fd0 ps ds) (hd : Vals dvs ds)
    (hx : ∀ c d H, ¬ E c d H) (I : Inv X pins σ H s) (r : Vals vs us) (h : sp (vs ++ dvs) H Q E) : wpAny (model X.prog X.w) A' (call (.ref f0) us) (EP X pins σ Q) X.xe s := by
  have both := r.append hd
  have many : (us ++ ds).length = ps.length := both.length.symm.trans (F.nargs _ _ _ _ h)
  have ran := F.go A' X.stack s H ⟨us, []⟩ _ _ Q E hG hr e0 (hb s us I.kIn many) both h
  exact wpAny_call (codeAny_mono ran fun r s' hq => match r, hq with
    | .error e, hq => passNo (k := k) hx pins H s e s' I hq
    | .ok (.ret _), hq => I.after hq
    | .ok .next, hq => False.elim hq
    | .ok .brk, hq => False.elim hq
    | .ok .cont, hq => False.elim hq)
/-- x[i], x of the class at C -/
def gGetO (C : Addr) (F : FD) : G2 := fun x y μ Q => ∃ fd, asI μ x = some (C, fd) ∧ F [x, y] μ Q (fun _ _ _ => False)
theorem de_getO (ha : DE X W a fa) (hb : DE X W b fb) (c : MetX X k C "__getitem__" F []) (hfn : ∀ f, Meth X.K C "__getitem__" f → PySem.W.fnIn X.K f = true) (hG : X.A.guards = some []) (hr : Room j X.A) (hk : k + 1 ≤ j)
    (hsl : ∀ v u, subscripted b true v u = runValue (.builtin "lifetime.subscript" ⟨[v, u], []⟩) := by intro _ _; with_unfolding_all rfl) : DE X W (.Subscript a b pos) (fOp (gGetO C F) fa fb) := by
  obtain ⟨f, fd0, ps, dvs, ds, Fg, hM, hbd, hv, hd⟩ := c.ex
  have mg : MonG (gGetO C F) := fun x y μ Q Q' h ⟨fd, e1, q⟩ => ⟨fd, e1, c.mono _ _ _ _ _ _ h (fun _ _ _ z => z) q⟩
  refine ⟨mOp mg ha.mono hb.mono, PE.imp (t := tOp (fun x y H Q => ∃ a dx fv, x = .ref a ∧ H a = some (.ins C dx fv) ∧ spD X.K F ([x, y] ++ dvs) H Q (fun _ _ _ => False)) (rdE X.K W fa) (rdE X.K W fb)) ⟨fun pins s σ H Q I h => ?_⟩ fun σ H Q h => rdOp mg ha.mono hb.mono (fun ι H μ x y dx dy Q r ax ay ⟨fd, e1, q⟩ => ?_) h⟩
  · refine Subscript_ (binT ha.run hb.run I h fun v u s2 x y H2 I2 rx ry q => ?_)
    obtain ⟨p, dx, fv, rfl, hp, q⟩ := q
    cases (show v = Value.ref p from rx)
    obtain ⟨mA, O, _, _, _, _⟩ := ins_get I2.hok hp
    obtain ⟨od, J, _⟩ := O.look
    obtain ⟨m, hF⟩ := I2.fr
    have hr1 : Room k X.A.in1 := (hr.mono hk).in1
    exact PySem.W.sub_K hF I2.ok.mod.kin J hM.at_ (hfn f hM) hM.fn (g_runA (us := [.ref p, u]) (vs := [.ref p, y]) hG Fg hr1 I2.env0.in1 hbd hv (fun _ _ _ z => z) I2 (.cons rfl (.cons ry .nil)) q) (hsl _ _)
  · obtain ⟨p, dxx, fv, rfl, hp, _⟩ := asI_at r ax e1
    exact ⟨p, dxx, fv, rfl, hp, ι, μ, _, r, (Ats.cons ax (Ats.cons ay Ats.nil)).app (hd ι H), c.mono [dx, dy] μ _ _ (fun _ _ _ => False) _ (fun _ _ z => z) (fun _ _ _ z => z.elim) q⟩
end
end Dl

namespace Dl
open PySem PySem.Spec L2
open PyProof.Rows hiding St Binds

/-! ### != and >= of a class that has == and <= alone -/
section
variable {prog : Program} {w : World} {A : Around} {E : Value → Shared → Prop} {s : Shared} {K : PySem.W.Frag} {x C f : Addr} {ox : Obj} {od : Option Obj} {b : Value} {h₀ : Heap} {L : Addr} {m : Str → Option Value}
/-! >= -/
end

section
variable {X : Cx} {C : Addr} {F : FD} {j k : Nat} {K : PySem.W.Frag}
end
end Dl

namespace Dl
open PySem PySem.Spec L2
open PyProof.Rows hiding St Binds

/-! ### dict(pairs), list(d.items()) -/
def mergeKD (kd more : List (Key × D)) : List (Key × D) := more.foldl (fun acc q => putKD acc q.1 q.2) kd
theorem Pts.merge {K : PySem.W.Frag} {ι : Io} {H : Hp} : ∀ {more : List (Key × V)} {md : List (Key × D)} {kv : List (Key × V)} {kd : List (Key × D)}, Pts K ι H more md → Pts K ι H kv kd → Pts K ι H (L2.mergeK kv more) (mergeKD kd md)
  | more, [], kv, kd, p, q => by
    have e : more = [] := by have := p.1; simpa using this
    subst e
    exact q
  | more, (k, d) :: md, kv, kd, p, q => by
    obtain ⟨v, more', rfl, a, p'⟩ := p.uncons
    show Pts K ι H (L2.mergeK (L2.putK kv k v) more') (mergeKD (putKD kd k d) md)
    exact Pts.merge p' (q.putK a)
section
variable {X : Cx} {W : WX} {e : Expr} {f : FE} {p apos cpos pos : Pos}
def gAny : GC := fun xs μ Q => ∃ (d : D) (bs : List Bool), xs = [d] ∧ asL μ d = some (bs.map D.bl) ∧ Q (.bl (bs.any id)) μ
theorem cad_any (hc : X.calm = true) : CaD X (.builtin "any") gAny :=
  ⟨fun xs μ Q Q' h ⟨d, ds, e, e2, q⟩ => ⟨d, ds, e, e2, h _ _ q⟩, _, cr_any hc, fun ι H μ vs ds Q r a ⟨d, bs, e, e2, q⟩ => by
    subst e
    obtain ⟨v, rfl, a1⟩ := a.one
    obtain ⟨p, ws, rfl, h1, h2⟩ := asL_at r a1 e2
    cases bls_at h2
    exact ⟨p, bs, rfl, SqL.of h1, q ι H _ (Gr.refl _ _) r (.bl _)⟩⟩
end
end Dl

namespace Dl
open PySem PySem.Spec L2
open PyProof.Rows hiding St Binds

/-! ### a comprehension over the keys of a cell's dict -/
section
variable {K : PySem.W.Frag} {ι ι' : Io} {H H' : Hp} {a : Addr} {kv : List (Key × V)} {kd : List (Key × D)} {ob : Obj} {n : Nat}
end
section
variable {X : Cx} {W : WX} {elt tg iter : Expr} {ifs : List Expr} {scope : Scope} {own : List (Str × Nat)} {pos p : Pos} {tgf : FG} {ft : FT} {fe : FE} {x : Str}
end
/-! ### list(d.items()), d a cell -/
theorem Rep.ext {K : PySem.W.Frag} {ι : Io} {μ : Sto} {H H' : Hp} (r : Rep K ι μ H) (k : ∀ b o, H b = some o → H' b = some o) : Rep K ι μ H' ∧ Gr ι H ι H' := by
  have g : Gr ι H ι H' := ⟨fun _ _ h => h, fun a o e n => ⟨k a o e, n⟩⟩
  refine ⟨⟨r.len, r.nd, fun j b c e1 e2 => ?_⟩, g⟩
  have z := r.at_ j b c e1 e2
  cases c with
  | lst ds => obtain ⟨vs, h1, h2⟩ := z; exact ⟨vs, k _ _ h1, h2.gr g⟩
  | dct kd => obtain ⟨kv, h1, h2⟩ := z; exact ⟨kv, k _ _ h1, h2.gr g⟩
  | lck ob kv kd => exact ⟨k _ _ z.1, z.2.gr g⟩
  | ins C fd => obtain ⟨dx, fv, h1, h2⟩ := z; exact ⟨dx, fv, k _ _ h1, h2.gr g⟩
end Dl

/-! an own error's __init__ whose first statement is super().__init__(..), two classes above a built-in one -/
namespace Dl
open PySem PySem.Spec L2
open PyProof.Rows hiding St Binds

structure SupScope (N P : List Str) (sc : Scope) : Prop where
  kind : sc.kind = .function
  co : sc.isCoroutine = false
  gen : sc.isGenerator = false
  nd : N.Nodup
  pre : N.take P.length = P
  par : ∀ x ∈ P, sc.names.lookup x = some .local
  nocell : ∀ y ∈ sc.names, y.2 ≠ .cell
  free1 : ∀ y ∈ sc.names, y.2 = .free → y.1 = "__class__"
  cls : sc.names.lookup ("__class__" : Str) = some .free
  sup : sc.names.lookup ("super" : Str) = some .globalImplicit

/-- the context of such a body -/
def cxS (CX : CXT) (P : Program) (w : World) (K : PySem.W.Frag) (mg : Str → Option Value) (base : Heap) (N : List Str) (qual : Str) (scope : Scope) (f : Addr) (cd : Value) (cc : Addr) (A : Around) (outer : List Env) (s : Shared) (H : Hp) (E : XK) : Cx where
  prog := P
  w := w
  K := K
  mg := mg
  base := base
  A := A.deeper (PySem.W.ksEnv qual scope s.heap.objs.size f cd cc)
  N := N
  s_0 := s
  H_0 := H
  env := PySem.W.ksEnv qual scope s.heap.objs.size f cd cc
  outer := outer
  stack := PySem.W.ksEnv qual scope s.heap.objs.size f cd cc :: outer
  ex := []
  calm := true
  fn := fun _ => false
  pn := []
  xe := fun e s' => wpAny (model P w) (A.deeper (PySem.W.ksEnv qual scope s.heap.objs.size f cd cc)) (leaving (PySem.W.ksEnv qual scope s.heap.objs.size f cd cc) e) (fun _ s'' => CX outer H s E e s'') (fun e' s'' => CX outer H s E e' s'') s'

theorem rev_lookup : ∀ {ps : List Str} {us : List Value} {i : Nat} {x : Str} {u : Value}, ps.Nodup → ps[i]? = some x → us[i]? = some u → (ps.zip us).reverse.lookup x = some u
  | [], _, _, _, _, _, h, _ => by simp at h
  | _ :: _, [], _, _, _, _, _, h => by simp at h
  | p :: ps, w :: us, 0, x, u, nd, h1, h2 => by
    simp at h1 h2; subst h1; subst h2
    have nx : ((ps.zip us).reverse).lookup p = none := by
      rw [List.lookup_eq_none_iff]
      intro q hq
      have hm := (List.of_mem_zip (List.mem_reverse.mp hq)).1
      have : p ≠ q.1 := by rintro rfl; exact (List.nodup_cons.mp nd).1 hm
      simpa using this
    rw [List.zip_cons_cons, List.reverse_cons, List.lookup_append, nx]
    simp [List.lookup]
  | p :: ps, w :: us, i + 1, x, u, nd, h1, h2 => by
    rw [List.zip_cons_cons, List.reverse_cons, List.lookup_append, rev_lookup (i := i) (List.nodup_cons.mp nd).2 (by simpa using h1) (by simpa using h2)]
    rfl

theorem start_at {N : List Str} {vs : List V} {i : Nat} {v : V} (h : (L2.start N vs)[i]? = some (some v)) : vs[i]? = some v := by
  by_cases c : i < vs.length
  · simpa [L2.start, List.getElem?_append, c] using h
  · simp [L2.start, List.getElem?_append, c, List.getElem?_replicate] at h
theorem SupScope.ndP {N ps : List Str} {sc : Scope} (S : SupScope N ps sc) : ps.Nodup := S.pre ▸ S.nd.sublist (List.take_sublist ps.length N)
theorem SupScope.atP {N ps : List Str} {sc : Scope} (S : SupScope N ps sc) {i : Nat} {y : Str} (hi : i < ps.length) (h : N[i]? = some y) : ps[i]? = some y := by
  have z := List.getElem?_take_of_lt (l := N) hi
  rwa [S.pre, h] at z
theorem SupScope.leN {N ps : List Str} {sc : Scope} (S : SupScope N ps sc) : ps.length ≤ N.length := by
  have z : (N.take ps.length).length = ps.length := congrArg List.length S.pre
  rw [List.length_take] at z
  omega
/-- how such a body is entered: the frame has the arguments, the one cell is the class's -/
theorem inv_startS {CX : CXT} {P : Program} {w : World} {K : PySem.W.Frag} {mg : Str → Option Value} {base : Heap} {N ps : List Str} {qual : Str} {scope : Scope} {f cc : Addr} {cd : Value} {A : Around} {outer : List Env} {s : Shared} {h1 : Heap} {tk : Nat} {H : Hp} {E : XK} {us : List Value} {vs : List V}
    (S : SupScope N ps scope) (hd : A.handled = none) (e0 : Env0 P w K mg base A outer s H) (hl : vs.length = ps.length) (r : Vals vs us)
    (hcell : ∃ cl cld v csl, K.lookup cc = some ⟨cl, cld, .cell v, csl⟩)
    (ns : h1.Ns s.heap.objs.size (fun x => (ps.zip us).reverse.lookup x)) (hk : ∀ b o, s.heap.get? b = some o → h1.get? b = some o) :
    Inv (cxS CX P w K mg base N qual scope f cd cc A outer s H E) [] (L2.start N vs) H { s with heap := h1, toks := tk } := by
  obtain ⟨_, _, held, _, there⟩ := hcell
  obtain ⟨cS, cH⟩ := e0.bs _ _ (e0.mod.kin _ _ there)
  have only : ∀ y c, (cxS CX P w K mg base N qual scope f cd cc A outer s H E).env.cells.lookup y = some c → y = "__class__" ∧ c = cc := fun y c z => by
    have z : List.lookup y [(("__class__" : Str), cc)] = some c := z
    by_cases q : y = "__class__"
    · subst q
      exact ⟨rfl, by simpa [List.lookup] using z.symm⟩
    · have ne : (y == ("__class__" : Str)) = false := by simpa using q
      simp [List.lookup, ne] at z
  have ok : (cxS CX P w K mg base N qual scope f cd cc A outer s H E).Ok :=
    { mod := e0.mod, kind := S.kind, glob := rfl, blt := rfl, above := Nat.le_refl _
      inj := fun y z c a b => (only y c a).1.trans (only z c b).1.symm
      has := fun y z => by
        rcases z with z | z
        · exact (S.nocell (y, .cell) (PySem.mem_of_lookup z) rfl).elim
        · have q : y = "__class__" := S.free1 (y, .free) (PySem.mem_of_lookup z) rfl
          exact ⟨cc, by rw [q]; simp [cxS, List.lookup]⟩
      cab := fun y c z _ => Bool.noConfusion z
      hd := fun _ => hd, frames := Around.frames_deeper e0.frames, stk := Or.inr ⟨rfl, rfl⟩
      exf := fun b z => (List.not_mem_nil z).elim, bs := e0.bs, bsz := e0.bsz, noex := fun _ _ _ z => List.not_mem_nil z
      exfs := fun b z => (List.not_mem_nil z).elim, funs := e0.funs, frf := e0.frf }
  have loc : ∀ (i : Nat) (y : Str) (v : V), N[i]? = some y → (L2.start N vs)[i]? = some (some v) → ∃ u, RelV v u ∧ scope.names.lookup y = some .local ∧ (ps.zip us).reverse.lookup y = some u := fun i y v a b => by
    have hv := start_at b
    obtain ⟨u, hu, rv⟩ := r.get hv
    have hp := S.atP (hl ▸ (List.getElem?_eq_some_iff.mp hv).1) a
    exact ⟨u, rv, S.par y (List.mem_of_getElem? hp), rev_lookup S.ndP hp hu⟩
  exact { ok := ok, os := rfl, bare := e0.bare, base := Un.kept hk, hok := e0.hok.kept hk, free := e0.hok.fresh (Nat.le_refl _)
          loc := ⟨_, ns, fun i y v a b _ => let ⟨u, rv, q1, q2⟩ := loc i y v a b; ⟨u, rv, Or.inl ⟨q1, q2⟩⟩⟩
          cell := fun y c z => (only y c z).2 ▸ ⟨held, _, hk _ _ cS, rfl⟩
          freeC := fun y c z => (only y c z).2 ▸ cH
          pin := fun p z => (List.not_mem_nil (show p ∈ ([] : List (Addr × Obj)) from z)).elim
          len := by
            have le := S.leN
            simp only [L2.start, List.length_append, List.length_map, List.length_replicate]
            show _ = N.length
            omega }

/-- what the written part says of the class and of its __init__ -/
structure SupK (P : Program) (K : PySem.W.Frag) (mg : Str → Option Value) (C : Addr) (cda cc : Addr) : Prop where
  cls : OexC K C
  code : ∃ ccl cdd vs ccs file tf, K.lookup cda = some ⟨ccl, cdd, .fields vs, ccs⟩ ∧ vs[2]? = some (.str file tf) ∧ ((P.main.file : Str) == file) = true
  cell : ∃ cl cld csl, K.lookup cc = some ⟨cl, cld, .cell (some (.ref C)), csl⟩
  sub : PySem.W.mroIn K C (.ref C) = some true
  super : mg "super" = none
  top : (P.main.scope.names.lookup ("super" : Str)).isSome = false
  init : PySem.W.ks_superIn K C C "__init__" = some (some (.builtin "ValueError.__init__"))
  base : PySem.W.subIn K (.ref C) (.type "ValueError") = some true
  tp : PySem.W.nsIn K cStatics "thirdparty.any" = some none

section
variable {X : Cx} {C cda cc f q : Addr} {pins : List (Addr × Obj)} {σ : L2.St} {H : Hp} {s : Shared} {a : Addr}
/-- the wrapper is called -/
theorem sup_call {us : List Value} {Q : Value → Shared → Prop} {B : Value → Shared → Prop} (T : OexC X.K C) (I : Inv X pins σ H s) (hq : s.heap.get? q = some (PySem.W.kxs_mw "ValueError.__init__" a)) (e : H a = some (exo a C none)) (hl : us.length ≤ sizeLine) (h : ∀ s', Inv X pins σ H s' → Q .none s') :
    wpAny (model X.prog X.w) X.A (call (.ref q) us) Q B s := by
  obtain ⟨nm, qn, N, bs, bm, sn, sub, ab, col, dd, k0, k1, k2, k3, k5, hC, hbm⟩ := T.cls
  obtain ⟨t1, ho⟩ := exo_at I.hok e
  obtain ⟨hp, g, d, t, os⟩ := s
  refine wpAny_call (codeAny_of_tree ?_)
  show wpAny _ X.A.in1 (callAny (.ref q) ⟨us, []⟩) _ _ _
  simp only [callAny]
  refine wpAny_bind (wpAny_load hq ?_)
  simp only [PySem.W.kxs_mw, show (Value.type "method-wrapper" == Value.type "method" || Value.type "method-wrapper" == Value.type "builtin_function_or_method" || Value.type "method-wrapper" == Value.type "method-wrapper") = true by decide, if_true]
  refine PySem.W.KFB.if_so (by decide) ?_
  refine wpAny_bind (PySem.W.check_bound_init F.excBase_ValueError.toExcCallFacts (I.kIn _ _ hC) ho rfl ?_)
  refine wpAny_bind (wpAny_pure (wpAny_pure ?_))
  refine ⟨plainId_quiet F.excBase_ValueError.init.plain _, codeAny_builtin F.excBase_ValueError.initEntry ?_⟩
  refine PySem.W.exc_init_tree (cls := .ref C) (t0 := t1) (dv := none) (c2 := .none) (c3 := .none) (b4 := .bool false) ho hl fun h' k hx _ => ?_
  have same : upd H a (exo a C none) = H := funext fun b => by
    unfold upd
    split
    · rename_i q
      rw [q, e]
    · rfl
  exact h _ (same ▸ Inv.write I (e := a) (x := a) (t' := t) (by rw [e]; trivial) (Or.inl rfl) k ⟨_, hx⟩ (exo_ok hx))
end

section
variable {P : Program} {w : World} {K : PySem.W.Frag} {mg : Str → Option Value} {base : Heap} {CX : CXT} {k : Nat} {f C cda cc : Addr} {name qual : Str} {params : Arguments} {rest : List Stmt} {scope : Scope}
  {dV kV doc pm ct oc : Value} {an od : Option Addr} {osl : Array (Option Value)} {N ps : List Str} {sp : Sp} {e : Expr} {es : List Expr} {p0 p1 p2 p3 p4 : Pos} {ar : Arg}
/-- an error's __init__: super().__init__(e, ..), then the rest -/
theorem fn_sup (T : SupK P K mg C cda cc)
    (lk : K.lookup f = some ⟨oc, od, .func (PySem.W.ksFn name qual params (.Expr (.Call (.Attribute (.Call (.Name "super" p0) [] [] p1) "__init__" p2) (e :: es) [] p3) p4 :: rest) scope dV kV doc pm an (.ref cda) ct cc), osl⟩)
    (hcd : PySem.W.codeIn K (.ref cda) qual = true) (S : SupScope N ps scope) (har : (params.posonlyargs ++ params.args).head? = some ar) (hps : ps.head? = some ar.arg)
    (len : ∀ vs H Q E, sp vs H Q E → vs.length = ps.length)
    (hbody : ∀ (A : Around) (outer : List Env) (s : Shared) (H : Hp) (vs : List V) (Q : VK) (E : XK),
      (A.deeper (PySem.W.ksEnv qual scope s.heap.objs.size f (.ref cda) cc)).guards = some [] → Room k (A.deeper (PySem.W.ksEnv qual scope s.heap.objs.size f (.ref cda) cc)) → sp vs H Q E →
        ∃ (ta : TA) (tr : TS) (a : Addr) (ws : List V), PA (cxS CX P w K mg base N qual scope f (.ref cda) cc A outer s H E) (e :: es) ta ∧ PSs (cxS CX P w K mg base N qual scope f (.ref cda) cc A outer s H E) rest tr ∧ vs = .ref a :: ws ∧ H a = some (exo a C none) ∧
          ta (L2.start N vs) H fun us H1 => us.length ≤ 1000 ∧ H1 a = some (exo a C none) ∧ tr { nx := fun _ H' => Q .non H', rt := Q } (L2.start N vs) H1)
    {pl : Env → Sem Bool} (ht : ∀ env, eval (.Call (.Attribute (.Call (.Name "super" p0) [] [] p1) "__init__" p2) (e :: es) [] p3) env = (do
      let ov ← attributeBase (.Call (.Name "super" p0) [] [] p1) "__init__" env (eval (.Call (.Name "super" p0) [] [] p1) env)
      standAt p2.atName
      let (f, first) ← holding [ov] (getMethod ov "__init__" (pl env))
      callWith p3 f first (backTo p3 (starEach (e :: es) env)) []) := by intro; rfl)
    (hs : ∀ env, swapsWith (.Call (.Attribute (.Call (.Name "super" p0) [] [] p1) "__init__" p2) (e :: es) [] p3) none p4.line env = pure false := by intro; rfl)
    (he : ∀ env, starEach (e :: es) env = (false, eval e env) :: starEach es env := by intro; rfl) (hpl : ∀ env, (backTo p3 (starEach es env)).any (·.1) = false := by intro; rfl) :
    FnG P w K mg base CX (k + 1) f (PySem.W.ksFn name qual params (.Expr (.Call (.Attribute (.Call (.Name "super" p0) [] [] p1) "__init__" p2) (e :: es) [] p3) p4 :: rest) scope dV kV doc pm an (.ref cda) ct cc) ps sp := by
  refine ⟨len, fun A outer s H args us vs Q E hG hr e0 hb r hsp => ?_⟩
  have old : ∀ b o, base.get? b = some o → s.heap.get? b = some o := fun b o z => (e0.bs b o z).1
  have KX := e0.mod.kin.keeps old
  have lim := e0.mod.nolimit.keeps old
  obtain ⟨ccl, cdd, cvs, ccs, file, tf, hcode, hvs, hfile⟩ := T.code
  obtain ⟨cl, cld, csl, hcell⟩ := T.cell
  refine PySem.ks_codeAny_call_defAt (fd := PySem.W.ksFn name qual params (.Expr (.Call (.Attribute (.Call (.Name "super" p0) [] [] p1) "__init__" p2) (e :: es) [] p3) p4 :: rest) scope dV kV doc pm an (.ref cda) ct cc) (binds := ps.zip us) hr.depth (KX _ _ lk) rfl lim (PySem.W.codeRec_of KX hcd) rfl hb S.nocell
    (fun y hy => S.par y.1 (List.of_mem_zip (show (y.1, y.2) ∈ ps.zip us from hy)).1) (fun h1 hns hk => ?_) S.co S.gen S.kind
  obtain ⟨ta, tr, a, ws, hA, hR, ev, ea, q⟩ := hbody A outer s H vs Q E hG (hr.deeper _) hsp
  have I : Inv (cxS CX P w K mg base N qual scope f (.ref cda) cc A outer s H E) [] (L2.start N vs) H { s with heap := h1, toks := s.toks + (ps.zip us).length } :=
    inv_startS S hr.hd e0 (len _ _ _ _ hsp) r ⟨_, _, _, _, hcell⟩ hns hk
  have hus : ∃ ur, us = .ref a :: ur := by
    subst ev
    cases r with
    | @cons _ u0 _ ur ra rw' =>
      obtain rfl : u0 = Value.ref a := ra
      exact ⟨ur, rfl⟩
  obtain ⟨ur, rfl⟩ := hus
  have self : (ps.zip (Value.ref a :: ur)).reverse.lookup ar.arg = some (Value.ref a) :=
    rev_lookup (i := 0) (by rw [← S.pre]; exact S.nd.sublist (List.take_sublist _ _)) (by rw [← List.head?_eq_getElem?]; exact hps) rfl
  show _root_.PySem.wpAt (model P w) _ (.func _ (PySem.W.ksEnv qual scope s.heap.objs.size f (.ref cda) cc)) (execs _ (PySem.W.ksEnv qual scope s.heap.objs.size f (.ref cda) cc)) _ _ _
  refine PySem.ks_wpAt_execs_cons (PySem.ks_wpAt_Expr_any (PySem.ks_wpAt_MethodCall ?_ (ht _)) (by unfold interactive; show (scope.kind == ScopeKind.module && _) = false; rw [S.kind]; rfl) (hs _))
  -- super()
  obtain ⟨cdD, hD⟩ : ∃ cdD, PySem.W.clsIn K C = some cdD := by
    obtain ⟨nm, qn, N', bs, bm, sn, sub, ab, col, dd, k0, k1, k2, k3, k5, hC, hbm⟩ := T.cls.cls
    exact ⟨_, by unfold PySem.W.clsIn; rw [hC]⟩
  obtain ⟨oD, hD1, hD2⟩ : ∃ oD, h1.get? C = some oD ∧ oD.data = .cls cdD := by
    unfold PySem.W.clsIn at hD
    split at hD
    · rename_i c d cd' sl ho
      cases hD
      exact ⟨_, I.kIn _ _ ho, rfl⟩
    · cases hD
  obtain ⟨t1, ho⟩ := exo_at I.hok ea
  obtain ⟨mb, hb1, hb2⟩ := I.mod.blt
  refine PySem.ks_wpAt_super_base (env := PySem.W.ksEnv qual scope s.heap.objs.size f (.ref cda) cc) S.sup S.cls (by decide) rfl (I.kIn _ _ lk) rfl har rfl (I.kIn _ _ hcode) rfl hvs hfile T.top ?_
  refine PySem.W.ks_loadName_global S.kind S.sup (PySem.Calls.loadGlobal_builtin (env := PySem.W.ksEnv qual scope s.heap.objs.size f (.ref cda) cc) (I.mod.glob.keeps I.bk) T.super (hb1.keeps I.bk) ((hb2 "super" (by decide)).trans PyProof.Rows.Boot.«super») ⟨rfl, ?_⟩)
  refine wpAny_loadName_free S.kind S.cls rfl ⟨_, I.kIn _ _ hcell, rfl⟩ ?_
  refine wpAny_loadName_local S.kind (S.par ar.arg (List.mem_of_mem_head? hps)) hns self ?_
  refine PySem.ks_wpAny_isType_cls hD1 hD2 ⟨rfl, ?_⟩
  refine PySem.ks_wpAny_call_super hD1 hD2 ho rfl (fun c e => by cases e) (PySem.W.looks_mroIn I.kIn T.sub) (fun h2 e2 k2 => ?_)
  -- .__init__
  have I2 := I.kept (t' := s.toks + (ps.zip (Value.ref a :: ur)).length) k2
  have ho2 := k2 _ _ ho
  have hIn : PySem.W.Looks (model P w) h2 (isInstance (.ref a) (.type "ValueError")) true :=
    (show PySem.W.InstAt h2 a _ C none from ⟨ho2, rfl, rfl, trivial⟩).type.andThen (PySem.W.looks_subIn I2.kIn T.base)
  have hal : PySem.W.alongIn K "__init__" ((cdD.mro.dropWhile (· != .ref C)).drop 1) = some (some (.builtin "ValueError.__init__")) := by
    have z := T.init
    unfold PySem.W.ks_superIn at z
    rw [hD] at z
    exact z
  have haC : a ≠ C := fun z => by
    unfold PySem.W.clsIn at hD
    split at hD
    · rename_i c d cd' sl hoC
      have y := I2.kIn _ _ hoC
      rw [← z] at y
      have y2 := ho2.symm.trans y
      cases y2
    · cases hD
  refine PySem.W.kxs_getMethod PySem.W.kxs_ValueError e2 (PySem.W.looks_opaque I2.kIn T.tp) (l₀ := cdD.mro) (fun A Q E s k q => wpAny_bind ((PySem.W.looks_clsIn I2.kIn hD) A _ E s k (wpAny_pure q))) rfl I2.kIn hal hIn haC (by decide) ?_
  -- the arguments
  have keep3 : ∀ b u, h2.get? b = some u → (h2.push (PySem.W.kxs_mw "ValueError.__init__" a)).get? b = some u := fun b u e => Heap.get?_push_of_some _ e
  have hq3 : (h2.push (PySem.W.kxs_mw "ValueError.__init__" a)).get? h2.objs.size = some (PySem.W.kxs_mw "ValueError.__init__" a) := Heap.get?_push_at rfl rfl
  have I3 := I2.kept (t' := s.toks + (ps.zip (Value.ref a :: ur)).length + 1) keep3
  have hqL : h2.objs.size ≠ s.heap.objs.size := Nat.ne_of_gt I2.lt
  have I4 : Inv (cxS CX P w K mg base N qual scope f (.ref cda) cc A outer s H E) [(h2.objs.size, PySem.W.kxs_mw "ValueError.__init__" a)] (L2.start N vs) H _ :=
    ⟨I3.ok, I3.os, I3.bare, I3.base, I3.loc, I3.cell, I3.free, I3.freeC, fun p hp => (by
        have hp : p ∈ [(h2.objs.size, PySem.W.kxs_mw "ValueError.__init__" a)] := hp
        obtain rfl := List.mem_singleton.mp hp
        exact ⟨hq3, I2.hok.fresh (Nat.le_refl _), hqL, I2.nofs (Nat.le_refl _), fun v z => by cases z⟩), I3.hok, I3.len⟩
  have fin : ∀ s5 H5, Inv (cxS CX P w K mg base N qual scope f (.ref cda) cc A outer s H E) [(h2.objs.size, PySem.W.kxs_mw "ValueError.__init__" a)] (L2.start N vs) H5 s5 → Inv (cxS CX P w K mg base N qual scope f (.ref cda) cc A outer s H E) [] (L2.start N vs) H5 s5 := fun s5 H5 J =>
    ⟨J.ok, J.os, J.bare, J.base, J.loc, J.cell, J.free, J.freeC, fun p hp => absurd (show p ∈ ([] : List (Addr × Obj)) from hp) (by simp), J.hok, J.len⟩
  show wpAny (model P w) _ (callWith p3 (.ref h2.objs.size) [] (backTo p3 (starEach (e :: es) (PySem.W.ksEnv qual scope s.heap.objs.size f (.ref cda) cc))) []) _ _ _
  have hA4 := hA.run p3 _ _ _ _ _ I4 q
  have hA4 : wpAny (model P w) _ (spliced (backTo p3 (starEach (e :: es) (PySem.W.ksEnv qual scope s.heap.objs.size f (.ref cda) cc)))) _ _ _ := hA4
  rw [he] at hA4 ⊢
  refine PySem.W.kxs_callWith (i := "ValueError.__init__") (x := a) (by show (false || (backTo p3 (starEach es _)).any (·.1)) = false; rw [hpl]; rfl) (PySem.Calls.evalArgs_plain (thn hA4 fun us4 s4 ⟨vs4, H4, I5, r4, l4, e4, q4⟩ => ⟨(I5.pin (h2.objs.size, PySem.W.kxs_mw "ValueError.__init__" a) (by show _ ∈ [_]; simp)).1, ?_⟩))
  refine sup_call (X := cxS CX P w K mg base N qual scope f (.ref cda) cc A outer s H E) T.cls I5 (I5.pin (h2.objs.size, PySem.W.kxs_mw "ValueError.__init__" a) (by show _ ∈ [_]; simp)).1 e4 (by show us4.length ≤ sizeLine; rw [← r4.length, sizeLine_eq]; omega) fun s5 J => ?_
  have I6 := fin s5 _ J
  show _root_.PySem.wpAt (model P w) _ _ (execs rest (PySem.W.ksEnv qual scope s.heap.objs.size f (.ref cda) cc)) _ _ s5
  refine wpAt_of_wpAny (wpAny_mono (hR.run [] s5 _ _ _ I6 q4) (fun fl s' hs => ?_) fun e s' hs => hs)
  match fl, hs with
  | .ret u, ⟨v, _, H', J, rv, q⟩ => exact ⟨v, H', J.os, J.bare, J.base, J.hok, rv, q⟩
  | .next, ⟨_, H', J, q⟩ => exact ⟨.non, H', J.os, J.bare, J.base, J.hok, rfl, q⟩
  | .brk, ⟨_, _, _, q⟩ => exact False.elim q
  | .cont, ⟨_, _, _, q⟩ => exact False.elim q
end
end Dl

/-! an own error made, by the promise of its __init__ -/
namespace Dl
open PySem PySem.Spec L2
open PyProof.Rows hiding St Binds
section
variable {X : Cx} {pins : List (Addr × Obj)} {σ : L2.St} {H : Hp} {s : Shared} {C fI : Addr} {k : Nat} {fd : FuncData} {ps : List Str} {sp : Sp} {ta : TA} {x : Str} {e : Expr} {es : List Expr} {p pos : Pos}
/-- the heap in which an error's __init__ begins: its arguments' tuple and itself are laid -/
abbrev begun (C : Addr) (h : Heap) (us : List Value) : Heap := (h.push (PySem.W.kdv_tup us)).push (PySem.HandSPX.excO C h.objs.size)
theorem begun_inv (us : List Value) (I : Inv X pins σ H s) : Inv X pins σ (upd H (s.heap.objs.size + 1) (exo (s.heap.objs.size + 1) C none)) { s with heap := begun C s.heap us } := by
  have two : ∀ b u, s.heap.get? b = some u → (begun C s.heap us).get? b = some u := fun b u z => by
    unfold begun
    exact Heap.get?_push_of_some _ (Heap.get?_push_of_some _ z)
  have it : (begun C s.heap us).get? (s.heap.objs.size + 1) = some (PySem.HandSPX.excO C s.heap.objs.size) := by
    unfold begun
    heap_get
  exact Inv.laid I two (by omega) (exo_ok it)
/-- a class of errors is called, its __init__ keeps sp -/
theorem oex_call (hG : X.A.guards = some []) (T : OexC X.K C) (iC : PySem.W.findIn X.K (.ref C) "__init__" = some (some (.ref fI))) (tI : PySem.W.typeIn X.K (.ref fI) = some (.type "function"))
    (Fi : FnG X.prog X.w X.K X.mg X.base (L2.CX X.prog X.w) k fI fd ps sp) (room : Room (k + 1) X.A) (hb : L2.Binds X.K fd ps []) (hx : Passes (L2.CX X.prog X.w) X (fun _ _ _ => False)) (I : Inv X pins σ H s) {us : List Value} {vs : List V} (rv : Vals vs us) (few : vs.length ≤ 1000) {Q : XK}
    (h : ∀ a, H a = none → sp (.ref a :: vs) (upd H a (exo a C none)) (fun v H2 => v = .non ∧ ∃ (d : Addr) (fs : List (Str × V)), H2 a = some (exo a C (some d)) ∧ H2 d = some (exd d fs) ∧ H d = none ∧ Q (.ref C) (some d) (upd (L2.del H2 a) d (.xd fs))) (fun _ _ _ => False)) :
    wpAny (model X.prog X.w) X.A (call (.ref C) us) (MkP X pins σ Q) X.xe s := by
  have g : (X.A.under (.builtin "type.__call__" ⟨.ref C :: us, []⟩)).guards = some [] := by
    unfold Around.under
    rw [hG]
    rfl
  obtain ⟨_, _, _, _, m, _, _, _, _, _, _, _, _, _, _, at_, refs⟩ := id T.cls
  have B := begun_inv (C := C) us I
  have all : Vals (V.ref (s.heap.objs.size + 1) :: vs) (Value.ref (s.heap.objs.size + 1) :: us) := .cons rfl rv
  have says := h _ (I.hok.fresh (Nat.le_succ s.heap.objs.size))
  have many : (Value.ref (s.heap.objs.size + 1) :: us).length = ps.length := all.length.symm.trans (Fi.nargs _ _ _ _ says)
  have ran := Fi.go _ X.stack _ _ ⟨Value.ref (s.heap.objs.size + 1) :: us, []⟩ (Value.ref (s.heap.objs.size + 1) :: us) _ _ (fun _ _ _ => False) g (room.make C us []) (B.env0.make C us [])
    (by have z := hb _ (Value.ref (s.heap.objs.size + 1) :: us) B.kIn (by rw [List.append_nil]; exact many); rw [List.append_nil] at z; exact z) all says
  obtain ⟨h0, g0, d0, t0, os0⟩ := s
  refine wpAny_call (PySem.HandSPX.call_own F.excBase_ValueError (fun Y => PySem.HandSPX.refsVE_contains Y m refs) (I.kIn _ _ at_) (PySem.W.looks_findIn I.kIn iC) (fun self => PySem.W.bind_fn I.kIn self tI) (by rw [← rv.length, sizeLine_eq]; omega) (codeAny_mono ran ?_))
  rintro (err | (u | _ | _ | _)) s1 end_
  · exact hx pins σ _ _ err s1 B end_
  all_goals first | exact False.elim end_ | skip
  obtain ⟨y, H2, io, bare, un, ok2, ry, rfl, d, fs, w1, w2, w3, w4⟩ := end_
  obtain ⟨h1, g1, d1, t1, os1⟩ := s1
  exact ⟨ry, mk_end (raises_own T.exC T.tyC) I (Nat.le_succ _) (fun b u z => by unfold begun; exact Heap.get?_push_of_some _ (Heap.get?_push_of_some _ z)) un ok2 io bare w1 w2 w3 w4⟩
theorem g_oex (hG : X.A.guards = some []) (T : OexC X.K C) (iC : PySem.W.findIn X.K (.ref C) "__init__" = some (some (.ref fI))) (tI : PySem.W.typeIn X.K (.ref fI) = some (.type "function"))
    (Fi : FnG X.prog X.w X.K X.mg X.base (L2.CX X.prog X.w) k fI fd ps sp) (room : Room (k + 1) X.A) (hb : L2.Binds X.K fd ps []) (hx : Passes (L2.CX X.prog X.w) X (fun _ _ _ => False)) (hg : Gl X x) (hm : X.mg x = some (.ref C)) (ha : PA X (e :: es) ta)
    (ndb : (x == ("__debug__" : Str)) = false) (one : starEach (e :: es) X.env = (false, eval e X.env) :: starEach es X.env) (plain : (backTo pos (starEach es X.env)).any (·.1) = false) :
    PMk X (.Call (.Name x p) (e :: es) [] pos) (tMkO C sp [] ta) := fun pins s σ H Q I h =>
  wpAny_Call_Name_kw (ld_glob I hg hm (PySem.W.callWith_K (h₀ := X.base) I.mod.kin T.kC (thn (ha.run pos pins s σ H _ I h) fun us s1 hs => by
    obtain ⟨vs, H1, J, rv, few, q⟩ := hs
    exact ⟨J.kIn, oex_call hG T iC tI Fi room hb hx J rv few fun a na => by have z := q a na; rw [List.append_nil] at z; exact z⟩) one plain) ndb)
end
/-- the promise of an error's __init__: ok: what its arguments must be (their texts fit); fl: its fields -/
def spE (K : PySem.W.Frag) (C : Addr) (ok : List D → Sto → Prop) (fl : List D → List (Str × D)) : Sp := fun vs H Q E => ∃ a ws ι μ ds H0, vs = .ref a :: ws ∧ H0 a = none ∧ H = upd H0 a (exo a C none) ∧ Rep K ι μ H0 ∧ Ats K ι H0 ws ds ∧ ok ds μ ∧
  ∀ d fv, H0 d = none → d ≠ a → Pts K ι H0 fv (fl ds) → Q .non (upd (upd H0 a (exo a C (some d))) d (exd d fv))
/-- an error class under a name -/
structure Erc (P : Program) (w : World) (K : PySem.W.Frag) (mg : Str → Option Value) (base : Heap) (k : Nat) (x : Str) (C : Addr) (ok : List D → Sto → Prop) (fl : List D → List (Str × D)) : Prop where
  ex : ∃ (f : Addr) (fd : FuncData) (ps : List Str), FnG P w K mg base (L2.CX P w) k f fd ps (spE K C ok fl) ∧ OexC K C ∧ PySem.W.findIn K (.ref C) "__init__" = some (some (.ref f)) ∧ PySem.W.typeIn K (.ref f) = some (.type "function") ∧ mg x = some (.ref C) ∧ L2.Binds K fd ps []
abbrev ErcX (X : Cx) := Erc X.prog X.w X.K X.mg X.base
def fRaise (C : Addr) (ok : List D → Sto → Prop) (fl : List D → List (Str × D)) (g : FA) : FS := fun A ρ μ => g ρ μ (fun ds m => ds.length ≤ 1000 ∧ ok ds m ∧ A.ex (.ref C) (fl ds) ρ m) A.ex
section
variable {X : Cx} {W : WX} {e : Expr} {es : List Expr} {g : FA} {p pos pos2 : Pos} {k j : Nat} {x : Str} {C : Addr} {ok : List D → Sto → Prop} {fl : List D → List (Str × D)}
/-- raise C(e, ..) -/
theorem ds_raise (c : ErcX X k x C ok fl) (hc : X.calm = true) (hG : X.A.guards = some []) (hr : Room j X.A) (hk : k + 1 ≤ j) (hg : Gl X x) (tk : Takes X W) (hx : Passes (L2.CX X.prog X.w) X (fun _ _ _ => False)) (ha : DA X W (e :: es) g)
    (hdb : (x == ("__debug__" : Str)) = false := by decide) (he : starEach (e :: es) X.env = (false, eval e X.env) :: starEach es X.env := by rfl) (hpl : (backTo pos (starEach es X.env)).any (·.1) = false := by rfl) :
    DS X W (.Raise (some (.Call (.Name x p) (e :: es) [] pos)) none pos2) (fRaise C ok fl g) := by
  obtain ⟨f, fd, ps, Fg, T, iC, tI, hm, hb⟩ := c.ex
  refine ⟨fun ρ μ A B le q => ha.mono ρ μ _ _ _ _ (fun ds m ⟨z1, z2, z3⟩ => ⟨z1, z2, le.ex _ _ _ _ z3⟩) (fun c l m z => le.ex _ _ _ _ z) q, PS.imp (ps_raise hc tk (g_oex hG T iC tI Fg (hr.mono hk) hb hx hg hm ha.run hdb he hpl)) fun D σ H ⟨ι, ρ, μ, r, l, q⟩ => ?_⟩
  have q2 := ha.mono ρ μ _ _ _ (EW X.K ι H W σ) (fun ds m z => z) (fun c l' m z => (fun ι' H' dd fv g r hd p => z ι' H' dd fv σ g r hd p (l.gr g) : EW X.K ι H W σ c l' ρ m)) q
  refine chainA ha.mono r l q2 fun ds μ1 ι1 H1 vs ⟨ll, o1, w⟩ g1 r1 l1 a1 => ⟨by rw [a1.1]; exact ll, fun a na => ?_⟩
  refine ⟨a, vs, ι1, μ1, ds, H1, by simp, na, rfl, r1, a1, o1, fun d fv hd ne pt => ⟨rfl, d, fv, ?_, ?_, hd, ?_⟩⟩
  · rw [upd_ne (Ne.symm ne), upd_same]
  · rw [upd_same]
  · have e : upd (L2.del (upd (upd H1 a (exo a C (some d))) d (exd d fv)) a) d (.xd fv) = upd H1 d (.xd fv) := by
      funext b
      by_cases h1 : b = d
      · rw [h1, upd_same, upd_same]
      · rw [upd_ne h1, upd_ne h1]
        by_cases h2 : b = a
        · rw [h2, del_same, na]
        · rw [del_ne h2, upd_ne h1, upd_ne h2]
    rw [e]
    have gn := Gr.new (o := .xd fv) hd (r1.free hd)
    exact w ι1 _ d fv σ (g1.trans gn) (r1.new hd) upd_same (pt.gr gn) (l1.gr gn)
end
end Dl

/-! an own error's __init__: super().__init__(f"..{x!r}.."), self.f = x, .. -/
namespace Dl
open PySem PySem.Spec L2
open PyProof.Rows hiding St Binds

def tFmtRD (K : PySem.W.Frag) (te : TE) : TE := fun σ H Q => te σ H fun x H1 => ∃ p, Dp K H1 x p ∧ okR p ∧ Q (.str p.shown) H1
theorem pe_fmtRD {X : Cx} {e : Expr} {te : TE} {pos : Pos} (hG : X.A.guards = some []) (hu : X.A.units + 64 < cLine) (he : PE X e te) : PE X (.FormattedValue e 114 none pos) (tFmtRD X.K te) := by
  refine ⟨fun pins s σ H Q I h => wpAny_FormattedValue_repr (thn (he.run pins s σ H _ I h) fun v s1 ⟨x, H1, I1, r1, p, hd, ⟨o1, o2, o3, o4⟩, q⟩ => ?_)⟩
  obtain ⟨as, rd⟩ := Dp.reads I1 p x v hd r1
  have fin : ∀ h' t tk, (∀ b o, s1.heap.get? b = some o → h'.get? b = some o) → wpAny (model X.prog X.w) X.A (formatField (.str p.shown t) Str.empty) (EP X pins σ Q) X.xe { s1 with heap := h', toks := tk } := fun h' t tk kp =>
    wpAny_formatField_str ⟨.str p.shown, H1, I1.kept (t' := tk) kp, ⟨t, rfl⟩, q⟩ ⟨.str p.shown, H1, (I1.kept (t' := tk) kp).tok _, ⟨_, rfl⟩, q⟩ o3
  have tok := fin s1.heap s1.toks (s1.toks + 1) fun _ _ e => e
  cases hd with
  | non => cases r1; simp only [PyData.shown] at tok; exact pyReprObj_none tok
  | bl b => cases r1; simp only [PyData.shown] at tok; exact pyReprObj_bool tok
  | int i =>
    obtain ⟨t, rfl⟩ := r1
    simp only [PyData.shown] at tok
    exact pyReprObj_int (by simpa [PyData.showable] using o1) tok
  | str z =>
    obtain ⟨t, rfl⟩ := r1
    simp only [PyData.shown] at tok o3
    exact pyReprObj_str tok o3
  | lst h1 h2 => cases r1; exact pyReprObj_of_reads rd o1 (PyData.noDict_hsm o2) hG (by omega) (fun _ _ e => e) fin o3
  | tup h1 h2 => cases r1; exact pyReprObj_of_reads rd o1 (PyData.noDict_hsm o2) hG (by omega) (fun _ _ e => e) fin o3

/-- a part of the message -/
inductive Pt where
  | txt (z : Str) | arg (i : Nat)
def tPt (K : PySem.W.Frag) : Pt → TE
  | .txt z => tC (.str z)
  | .arg i => tFmtRD K (tVar (i + 1))
/-- the message fits -/
def okJ (ds : List D) (μ : Sto) : List Pt → Str → Prop
  | [], _ => True
  | .txt z :: r, acc => (acc ++ z).length ≤ sizeLine ∧ okJ ds μ r (acc ++ z)
  | .arg i :: r, acc => ∃ d p, ds[i]? = some d ∧ pyS μ d = some p ∧ okR p ∧ (acc ++ p.shown).length ≤ sizeLine ∧ okJ ds μ r (acc ++ p.shown)
theorem sem_j {K : PySem.W.Frag} {ι : Io} {μ : Sto} {H : Hp} {ds : List D} {σ : L2.St} (r : Rep K ι μ H) (vs : ∀ (i : Nat) (d : D), ds[i]? = some d → ∃ v, σ[i + 1]? = some (some v) ∧ At K ι H v d) {Q : Str → Hp → Prop} (q : ∀ out, Q out H) :
    ∀ (l : List Pt) (acc : Str), okJ ds μ l acc → tJs (l.map (tPt K)) acc σ H Q
  | [], acc, _ => q acc
  | .txt z :: l, acc, ⟨h1, h2⟩ => ⟨z, rfl, h1, sem_j r vs q l _ h2⟩
  | .arg i :: l, acc, ⟨d, p, e1, e2, o, h1, h2⟩ => by
    obtain ⟨v, hv, a⟩ := vs i d e1
    exact ⟨v, hv, p, dpS_of r a e2, o, p.shown, rfl, h1, sem_j r vs q l _ h2⟩

/-- self.f = x, .. -/
def tFl (K : PySem.W.Frag) : List (Str × Nat) → TS
  | [] => tNext
  | (f, i) :: r => tSeq (tOst K f (tVar 0) (tVar (i + 1))) (tFl K r)
def putF {α : Type} (g : Nat → α) (fx : List (Str × Nat)) (l : List (Str × α)) : List (Str × α) := fx.foldl (fun l p => (p.1, g p.2) :: l) l
theorem upd_upd {H : Hp} {d : Addr} {x y : HO} : upd (upd H d x) d y = upd H d y := by
  funext b
  by_cases h : b = d
  · rw [h, upd_same, upd_same]
  · rw [upd_ne h, upd_ne h, upd_ne h]
theorem upd_swap {H : Hp} {d a : Addr} {x y : HO} (n : d ≠ a) : upd (upd H d x) a y = upd (upd H a y) d x := by
  funext b
  by_cases h : b = d
  · rw [h, upd_ne n, upd_same, upd_same]
  · by_cases h2 : b = a
    · rw [h2, upd_same, upd_ne (Ne.symm n), upd_same]
    · rw [upd_ne h2, upd_ne h, upd_ne h, upd_ne h2]
theorem sem_fl {K : PySem.W.Frag} {C a d : Addr} {σ : L2.St} {H0 : Hp} {g : Nat → V} (T : OexC K C) (h0 : σ[0]? = some (some (.ref a))) (n : d ≠ a) {De : Ends} :
    ∀ (fx : List (Str × Nat)) (fv : List (Str × V)), (∀ p ∈ fx, PySem.W.findIn K (.ref C) p.1 = some none ∧ σ[p.2 + 1]? = some (some (g p.2))) → fv.length + fx.length ≤ 900 →
      De.nx σ (upd (upd H0 a (exo a C (some d))) d (exd d (putF g fx fv))) → tFl K fx De σ (upd (upd H0 a (exo a C (some d))) d (exd d fv))
  | [], fv, _, _, q => q
  | (f, i) :: fx, fv, h, l, q => by
    obtain ⟨e1, e2⟩ := h (f, i) List.mem_cons_self
    simp only [List.length_cons] at l
    refine ⟨g i, e2, .ref a, h0, a, C, rfl, T, e1, .inr ⟨d, fv, by rw [upd_ne (Ne.symm n), upd_same], upd_same, by omega, ?_⟩⟩
    rw [upd_upd]
    exact sem_fl T h0 n fx ((f, g i) :: fv) (fun p hp => h p (List.mem_cons_of_mem _ hp)) (by simp only [List.length_cons]; omega) q
theorem sem_fl0 {K : PySem.W.Frag} {C a : Addr} {σ : L2.St} {H0 : Hp} {g : Nat → V} (T : OexC K C) (h0 : σ[0]? = some (some (.ref a))) {De : Ends} (fx : List (Str × Nat)) (ne : fx ≠ [])
    (h : ∀ p ∈ fx, PySem.W.findIn K (.ref C) p.1 = some none ∧ σ[p.2 + 1]? = some (some (g p.2))) (l : fx.length ≤ 900)
    (q : ∀ d, upd H0 a (exo a C none) d = none → d ≠ a → De.nx σ (upd (upd H0 a (exo a C (some d))) d (exd d (putF g fx [])))) : tFl K fx De σ (upd H0 a (exo a C none)) := by
  cases fx with
  | nil => exact absurd rfl ne
  | cons p fx =>
    obtain ⟨f, i⟩ := p
    obtain ⟨e1, e2⟩ := h (f, i) List.mem_cons_self
    simp only [List.length_cons] at l
    refine ⟨g i, e2, .ref a, h0, a, C, rfl, T, e1, .inl ⟨upd_same, fun d hd n => ?_⟩⟩
    rw [upd_swap n, upd_upd]
    exact sem_fl T h0 n fx [(f, g i)] (fun p hp => h p (List.mem_cons_of_mem _ hp)) (by simp only [List.length_cons, List.length_nil]; omega) (q d hd n)
theorem putF_pts {K : PySem.W.Frag} {ι : Io} {H : Hp} {g : Nat → V} {g' : Nat → D} : ∀ (fx : List (Str × Nat)) (fv : List (Str × V)) (fd : List (Str × D)), (∀ p ∈ fx, At K ι H (g p.2) (g' p.2)) → Pts K ι H fv fd → Pts K ι H (putF g fx fv) (putF g' fx fd)
  | [], _, _, _, p => p
  | (f, i) :: fx, fv, fd, h, p => putF_pts fx _ _ (fun q hq => h q (List.mem_cons_of_mem _ hq)) (Pts.cons (h (f, i) List.mem_cons_self) p)

section
variable {P : Program} {w : World} {K : PySem.W.Frag} {mg : Str → Option Value} {base : Heap} {k : Nat} {f C cda cc : Addr} {name qual : Str} {params : Arguments} {rest : List Stmt} {scope : Scope}
  {dV kV doc pm ct oc : Value} {an od : Option Addr} {osl : Array (Option Value)} {N ps : List Str} {v1 v2 : Expr} {vr : List Expr} {p0 p1 p2 p3 p4 jp : Pos} {ar : Arg}
/-- what an error is made of: n arguments, the parts of its message -/
def okX (n : Nat) (parts : List Pt) : List D → Sto → Prop := fun ds μ => ds.length = n ∧ okJ ds μ parts Str.empty
def flX (fx : List (Str × Nat)) : List D → List (Str × D) := fun ds => putF (fun i => (ds[i]?).getD .non) fx []
theorem erc_mk (n : Nat) (parts : List Pt) (fx : List (Str × Nat)) (T : SupK P K mg C cda cc)
    (lk : K.lookup f = some ⟨oc, od, .func (PySem.W.ksFn name qual params (.Expr (.Call (.Attribute (.Call (.Name "super" p0) [] [] p1) "__init__" p2) [.JoinedStr (v1 :: v2 :: vr) jp] [] p3) p4 :: rest) scope dV kV doc pm an (.ref cda) ct cc), osl⟩)
    (hcd : PySem.W.codeIn K (.ref cda) qual = true) (S : SupScope N ps scope) (har : (params.posonlyargs ++ params.args).head? = some ar) (hps : ps.head? = some ar.arg)
    {pl : Env → Sem Bool} (ht : ∀ env, eval (.Call (.Attribute (.Call (.Name "super" p0) [] [] p1) "__init__" p2) [.JoinedStr (v1 :: v2 :: vr) jp] [] p3) env = (do
      let ov ← attributeBase (.Call (.Name "super" p0) [] [] p1) "__init__" env (eval (.Call (.Name "super" p0) [] [] p1) env)
      standAt p2.atName
      let (f, first) ← holding [ov] (getMethod ov "__init__" (pl env))
      callWith p3 f first (backTo p3 (starEach [.JoinedStr (v1 :: v2 :: vr) jp] env)) []))
    (hs : ∀ env, swapsWith (.Call (.Attribute (.Call (.Name "super" p0) [] [] p1) "__init__" p2) [.JoinedStr (v1 :: v2 :: vr) jp] [] p3) none p4.line env = pure false)
    (hn : ps.length = n + 1) (ne : fx ≠ []) (hfx : ∀ p ∈ fx, PySem.W.findIn K (.ref C) p.1 = some none ∧ p.2 < n) (hl : fx.length ≤ 900)
    (hj : ∀ (A : Around) (outer : List Env) (s : Shared) (H : Hp) (E : XK), (A.deeper (PySem.W.ksEnv qual scope s.heap.objs.size f (.ref cda) cc)).guards = some [] → Room k (A.deeper (PySem.W.ksEnv qual scope s.heap.objs.size f (.ref cda) cc)) →
      PJ (cxS (L2.CX P w) P w K mg base N qual scope f (.ref cda) cc A outer s H E) (v1 :: v2 :: vr) (parts.map (tPt K)) ∧ PSs (cxS (L2.CX P w) P w K mg base N qual scope f (.ref cda) cc A outer s H E) rest (tFl K fx)) :
    FnG P w K mg base (L2.CX P w) (k + 1) f (PySem.W.ksFn name qual params (.Expr (.Call (.Attribute (.Call (.Name "super" p0) [] [] p1) "__init__" p2) [.JoinedStr (v1 :: v2 :: vr) jp] [] p3) p4 :: rest) scope dV kV doc pm an (.ref cda) ct cc) ps (spE K C (okX n parts) (flX fx)) := by
  refine fn_sup T lk hcd S har hps (fun vs H Q E ⟨a, ws, ι, μ, ds, H0, e1, e2, e3, r, at_, ⟨o1, o2⟩, q⟩ => by rw [e1, List.length_cons, at_.1, o1, hn]) ?_ ht hs
  · intro A outer s H vs Q E hG hr ⟨a, ws, ι, μ, ds, H0, e1, e2, e3, r, at_, ⟨o1, o2⟩, q⟩
    subst e1 e3
    obtain ⟨h1, h2⟩ := hj A outer s (upd H0 a (exo a C none)) E hG hr
    have r1 := r.new (o := exo a C none) e2
    have g1 := Gr.new (o := exo a C none) e2 (r.free e2)
    have hN : ps.length ≤ N.length := by have := congrArg List.length S.pre; rw [List.length_take] at this; omega
    have get : ∀ (i : Nat) (v : V), ws[i]? = some v → (L2.start N (.ref a :: ws))[i + 1]? = some (some v) := fun i v h => by
      unfold L2.start
      have hi := (List.getElem?_eq_some_iff.mp h).1
      rw [List.getElem?_append_left (by simp; omega), List.getElem?_map, List.getElem?_cons_succ, h]
      rfl
    have self : (L2.start N (.ref a :: ws))[0]? = some (some (.ref a)) := rfl
    refine ⟨_, _, a, ws, pa_cons (pe_joined h1) pa_nil, h2, rfl, upd_same, ?_⟩
    refine sem_j (ds := ds) r1 (fun i d e => ?_) (fun out => ⟨by show 1 ≤ 1000; omega, upd_same, ?_⟩) parts Str.empty o2
    · obtain ⟨v, hv, a1⟩ := at_.get e
      exact ⟨v, get i v hv, a1.gr g1⟩
    · refine sem_fl0 (g := fun i => (ws[i]?).getD .non) T.cls self fx ne (fun p hp => ⟨(hfx p hp).1, ?_⟩) hl fun d hd nd => ?_
      · have hi : p.2 < ws.length := by rw [at_.1, o1]; exact (hfx p hp).2
        rw [List.getElem?_eq_getElem hi]
        exact get _ _ (List.getElem?_eq_getElem hi)
      · refine q d _ (by rw [upd_ne nd] at hd; exact hd) nd (putF_pts fx [] [] (fun p hp => ?_) Pts.nil)
        have hi : p.2 < ws.length := by rw [at_.1, o1]; exact (hfx p hp).2
        have hi2 : p.2 < ds.length := by rw [o1]; exact (hfx p hp).2
        rw [List.getElem?_eq_getElem hi, List.getElem?_eq_getElem hi2]
        exact at_.2 _ _ _ (List.getElem?_eq_getElem hi) (List.getElem?_eq_getElem hi2)
end
end Dl

/-! try: .. except C as e: return (word, e.f, ..) -/
namespace Dl
open PySem PySem.Spec L2
open PyProof.Rows hiding St Binds

def tXfs (a : Addr) (cls : Value) (d : Option Addr) (C : Addr) (i : Nat) : List Str → TA
  | [] => tNil
  | f :: r => tCons (tXf a cls d C f (tVar i)) (tXfs a cls d C i r)
end Dl

namespace Dl
open PySem PySem.Spec L2
open PyProof.Rows hiding St Binds
/-! ### static methods, read off the class -/
structure SMet (K : PySem.W.Frag) (C : Addr) (m : Str) (g : Addr) : Prop where
  ex : ∃ mc p rest, PySem.W.typeIn K (.ref C) = some mc ∧ PySem.W.readsIn K C mc = true ∧
    PySem.W.findCls K (.ref C) mc m = some (.get (.builtin "staticmethod.__get__") (.ref p) .none (.ref C)) ∧ PySem.W.recIn K p "staticmethod" = some (.ref g :: rest)
  ga : PySem.W.specialIn K (.ref C) "__getattribute__" = some (some (.builtin "type.__getattribute__"))
  hd : PySem.W.handedIn (.ref g) = true
  kp : PySem.W.keepIn K (.ref g) = true
section
variable {X : Cx} {CX : CXT} {k j : Nat} {f C : Addr} {fd : FuncData} {ps : List Str} {sp : Sp} {dvs : List V} {ds : List Value} {EE : L2.St → XK} {x m : Str} {p pos apos : Pos} {e : Expr} {es : List Expr} {t : TA}
variable {pins : List (Addr × Obj)} {σ : L2.St} {H : Hp} {s : Shared}
theorem getstat_ok {A : Around} {E : Value → Shared → Prop} {pl : Sem Bool} {Q : Value × List Value → Shared → Prop} (I : Inv X pins σ H s) (c : SMet X.K C m f)
    (h : ∀ s', Inv X pins σ H s' → Q (.ref f, []) s') : wpAny (model X.prog X.w) A (getMethod (.ref C) m pl) Q E s := by
  obtain ⟨mc, p, rest, ty, rd, fc, rc⟩ := c.ex
  obtain ⟨ml, fr⟩ := I.fr
  unfold getMethod
  refine wpAny_bind (PySem.W.looks_specialIn I.kIn c.ga A _ E s (fun _ _ e => e) ?_)
  refine wpAny_bind ?_
  refine PySem.W.cls_sm fr I.ok.mod.kin ty rd fc rc c.hd ?_
  exact wpAny_pure (h _ (I.kept (t' := s.toks + 1) fun _ _ e => e))
theorem ge_stat {pl : Sem Bool} (hG : X.A.guards = some []) (hg : Gl X x) (hm : X.mg x = some (.ref C)) (c : SMet X.K C m f) (F : FnG X.prog X.w X.K X.mg X.base CX k f fd ps sp)
    (hr : Room k X.A) (hb : Binds X.K fd ps ds) (hd : Vals dvs ds) (hx : ∀ σ, PassesAt CX X σ (EE σ)) (ha : PA X (e :: es) t) (hdb : (x == ("__debug__" : Str)) = false := by decide)
    (hst : starEach (e :: es) X.env = (false, eval e X.env) :: starEach es X.env := by rfl) (hpl : (backTo pos (starEach es X.env)).any (·.1) = false := by rfl)
    (ht : eval (.Call (.Attribute (.Name x p) m apos) (e :: es) [] pos) X.env = (eval (.Name x p) X.env >>= fun ov => standAt apos.atName >>= fun _ =>
      holding [ov] (getMethod ov m pl) >>= fun fm => callWith pos fm.1 fm.2 (backTo pos (starEach (e :: es) X.env)) (backToKw pos (keywordEach [] X.env))) := by rfl) :
    PE X (.Call (.Attribute (.Name x p) m apos) (e :: es) [] pos) (gCall sp dvs EE t) :=
  ⟨fun pins s σ H Q I h => PySem.W.methodCall_KW (pl := pl) (thn ((pe_glob (v := .ref C) (pos := p) hg hm rfl hdb).run pins s σ H (fun v H1 => v = .ref C ∧ H1 = H) I ⟨rfl, rfl⟩) fun u s1 ⟨v, H1, I1, rx, ev, eH⟩ => by
    subst ev
    subst eH
    cases rx
    exact getstat_ok I1 c fun s2 I2 => PySem.W.callWith_K (h₀ := X.base) I2.ok.mod.kin c.kp
      (thn (ha.run pos pins s2 σ _ _ I2 h) fun us s3 ⟨vs, H2, I3, r, q2⟩ => ⟨I3.kIn, g_run hG F hr hb hd (hx _) I3 r q2⟩) hst hpl) ht⟩
theorem ge_stat0 {pl : Sem Bool} (hG : X.A.guards = some []) (hg : Gl X x) (hm : X.mg x = some (.ref C)) (c : SMet X.K C m f) (F : FnG X.prog X.w X.K X.mg X.base CX k f fd ps sp)
    (hr : Room k X.A) (hb : Binds X.K fd ps ds) (hd : Vals dvs ds) (hx : ∀ σ, PassesAt CX X σ (EE σ)) (hdb : (x == ("__debug__" : Str)) = false := by decide)
    (ht : eval (.Call (.Attribute (.Name x p) m apos) [] [] pos) X.env = (eval (.Name x p) X.env >>= fun ov => standAt apos.atName >>= fun _ =>
      holding [ov] (getMethod ov m pl) >>= fun fm => callWith pos fm.1 fm.2 (backTo pos (starEach [] X.env)) (backToKw pos (keywordEach [] X.env))) := by rfl) :
    PE X (.Call (.Attribute (.Name x p) m apos) [] [] pos) (gCall sp dvs EE tNil) :=
  ⟨fun pins s σ H Q I h => PySem.W.methodCall_KW (pl := pl) (thn ((pe_glob (v := .ref C) (pos := p) hg hm rfl hdb).run pins s σ H (fun v H1 => v = .ref C ∧ H1 = H) I ⟨rfl, rfl⟩) fun u s1 ⟨v, H1, I1, rx, ev, eH⟩ => by
    subst ev
    subst eH
    cases rx
    exact getstat_ok I1 c fun s2 I2 => PySem.W.callWith_K0 I2.kIn c.kp (g_run (us := []) hG F hr hb hd (hx _) I2 .nil h)) ht⟩
end

theorem smet_mk {K : PySem.W.Frag} {C g p : Addr} {m : Str} {pd : Option Addr} {pv : Array Value} {psl : Array (Option Value)} {rest : List Value} (st : PySem.W.typeIn K (.ref C) = some (.type "type")) (sr : PySem.W.readsIn K C (.type "type") = true) (sg : PySem.W.specialIn K (.ref C) "__getattribute__" = some (some (.builtin "type.__getattribute__")))
    (ga : PySem.W.findIn K (.type "type") m = some none) (gi : PySem.W.findIn K (.ref C) m = some (some (.ref p))) (gt : PySem.W.typeIn K (.ref p) = some (.type "staticmethod")) (gs : PySem.W.specialIn K (.ref p) "__get__" = some (some (.builtin "staticmethod.__get__")))
    (gp : K.lookup p = some ⟨.type "staticmethod", pd, .fields pv, psl⟩) (gv : pv.toList = .ref g :: rest) (gk : PySem.W.keepIn K (.ref g) = true) : SMet K C m g := by
  refine ⟨⟨_, p, rest, st, sr, ?_, ?_⟩, sg, rfl, gk⟩
  · unfold PySem.W.findCls
    rw [ga, gi]
    show ((PySem.W.typeIn K (.ref p)).bind fun ta => if PySem.W.bareKinds.contains ta = true then some (PySem.W.CFound.val (.ref p)) else (PySem.W.specialIn K (.ref p) "__get__").bind fun x => match x with
      | some g => some (PySem.W.CFound.get g (.ref p) .none (.ref C))
      | none => if PySem.W.handedIn (.ref p) = true then some (PySem.W.CFound.val (.ref p)) else none) = _
    rw [gt, gs]
    rfl
  · unfold PySem.W.recIn
    rw [gp]
    show (if (("staticmethod" : String) == "staticmethod") = true then some pv.toList else none) = _
    rw [if_pos (by decide), gv]
/-- a static method of a class -/
structure Sta (P : Program) (w : World) (K : PySem.W.Frag) (mg : Str → Option Value) (base : Heap) (k : Nat) (C : Addr) (m : Str) (F : FD) (dds : List D) : Prop where
  mono : MonF F
  ex : ∃ (f : Addr) (fd : FuncData) (ps : List Str) (dvs : List V) (ds : List Value), FnG P w K mg base (L2.CX P w) k f fd ps (spD K F) ∧ SMet K C m f ∧
    L2.Binds K fd ps ds ∧ Vals dvs ds ∧ ∀ ι H, Ats K ι H dvs dds
abbrev StaX (X : Cx) := Sta X.prog X.w X.K X.mg X.base
section
variable {X : Cx} {W : WX} {a b c e o fe : Expr} {es : List Expr} {fa fb fc f fo : FE} {fl : FA} {pos p apos : Pos} {K : PySem.W.Frag} {ι : Io} {H : Hp} {σ : L2.St} {ρ : Rho} {μ : Sto} {x m fn : Str} {F : FD} {dds : List D} {j k : Nat} {C : Addr}
theorem de_stat {pl : Sem Bool} (c : StaX X k C m F dds) (hm : X.mg x = some (.ref C)) (hG : X.A.guards = some []) (hr : Room j X.A) (hk : k ≤ j) (hg : Gl X x) (tk : Takes X W) (ha : DA X W (e :: es) fl)
    (hdb : (x == ("__debug__" : Str)) = false := by decide) (hst : starEach (e :: es) X.env = (false, eval e X.env) :: starEach es X.env := by rfl) (hpl : (backTo pos (starEach es X.env)).any (·.1) = false := by rfl)
    (ht : eval (.Call (.Attribute (.Name x p) m apos) (e :: es) [] pos) X.env = (eval (.Name x p) X.env >>= fun ov => standAt apos.atName >>= fun _ =>
      holding [ov] (getMethod ov m pl) >>= fun fm => callWith pos fm.1 fm.2 (backTo pos (starEach (e :: es) X.env)) (backToKw pos (keywordEach [] X.env))) := by rfl) :
    DE X W (.Call (.Attribute (.Name x p) m apos) (e :: es) [] pos) (fCall F dds fl) := by
  obtain ⟨f, fd, ps, dvs, ds, Fg, hM, hb, hv, hd⟩ := c.ex
  exact ⟨mCall c.mono ha.mono, PE.imp (ge_stat hG hg hm hM Fg (hr.mono hk) hb hv (passAt tk) ha.run hdb hst hpl ht) fun σ H Q h => rdCall c.mono ha.mono hd h⟩
theorem de_stat0 {pl : Sem Bool} (c : StaX X k C m F dds) (hm : X.mg x = some (.ref C)) (hG : X.A.guards = some []) (hr : Room j X.A) (hk : k ≤ j) (hg : Gl X x) (tk : Takes X W)
    (hdb : (x == ("__debug__" : Str)) = false := by decide)
    (ht : eval (.Call (.Attribute (.Name x p) m apos) [] [] pos) X.env = (eval (.Name x p) X.env >>= fun ov => standAt apos.atName >>= fun _ =>
      holding [ov] (getMethod ov m pl) >>= fun fm => callWith pos fm.1 fm.2 (backTo pos (starEach [] X.env)) (backToKw pos (keywordEach [] X.env))) := by rfl) :
    DE X W (.Call (.Attribute (.Name x p) m apos) [] [] pos) (fCall F dds fNil) := by
  obtain ⟨f, fd, ps, dvs, ds, Fg, hM, hb, hv, hd⟩ := c.ex
  refine ⟨mCall c.mono mNil, PE.imp (ge_stat0 hG hg hm hM Fg (hr.mono hk) hb hv (passAt tk) hdb ht) fun σ H Q h => ?_⟩
  obtain ⟨ι, ρ, μ, rp, l, q⟩ := h
  exact ⟨ι, μ, [] ++ dds, rp, Ats.app Ats.nil (hd ι H), q⟩
end
section
variable {P : Program} {w : World} {K : PySem.W.Frag} {mg : Str → Option Value} {base : Heap} {k : Nat} {f C : Addr} {fd : FuncData} {x qual : Str} {st : Stmt} {N ps : List Str} {F : FD} {fs : FS}
theorem sta_fun (Fu : FunA K x qual st f fd) (S : FnScope N ps (defScope st)) (M : SMet K C x f) (hb : L2.Binds K fd ps []) (mono : MonF F) (len : ∀ ds μ Q E, F ds μ Q E → ds.length = ps.length)
    (body : ∀ (cdv : Value) (A : Around) (outer : List Env) (s : Shared) (H : Hp) (E : XK), (A.deeper (envOfC qual (defScope st) s.heap.objs.size f cdv)).guards = some [] → Room k (A.deeper (envOfC qual (defScope st) s.heap.objs.size f cdv)) →
      DB (cxOf (L2.CX P w) P w K mg base N qual (defScope st) f cdv A outer s H E) (fun c d _ H' => E c d H') (defBody st) fs)
    (sem : ∀ ds μ Q E, F ds μ Q E → fs (endK μ.length Q E) (startD N.length ds) μ) : Sta P w K mg base (k + 1) C x F [] :=
  ⟨mono, f, fd, ps, [], [], fn_body Fu S len body sem, M, hb, .nil, fun _ _ => Ats.nil⟩
end
/-! ### an instance is called -/
section
variable {X : Cx} {CX : CXT} {k j : Nat} {f C : Addr} {fd : FuncData} {ps : List Str} {sp : Sp} {dvs : List V} {ds : List Value} {EE : L2.St → XK} {x m : Str} {p pos apos : Pos} {e fe : Expr} {es : List Expr} {tf : TE} {t : TA} {E : XK}
variable {pins : List (Addr × Obj)} {σ : L2.St} {H : Hp} {s : Shared} {Q : VK} {us : List Value} {vs : List V} {a : Addr}
end
section
variable {X : Cx} {W : WX} {a b c e o fe : Expr} {es : List Expr} {fa fb fc f fo : FE} {fl : FA} {pos p apos : Pos} {K : PySem.W.Frag} {ι : Io} {H : Hp} {σ : L2.St} {ρ : Rho} {μ : Sto} {x m fn : Str} {F : FD} {dds : List D} {j k : Nat} {C : Addr}
end
/-! ### what is never come to -/
section
variable {X : Cx} {W : WX}
end
end Dl

/-! the small head: what the top has left, read off in one run of the kernel -/
namespace Dl
open PySem PySem.Spec L2
open PyProof.Rows hiding St Binds

/-! ### the part of the heap that is looked at -/
/-- what hangs on an object: a class's names and bases, a function's code, defaults and cells, a static method's function -/
def hangs (o : Obj) : List Addr := match o.data with
  | .cls cd => cd.ns :: (cd.mro.drop 1).flatMap He.refV
  | .seq its _ => its.toList.flatMap He.refV
  | .dict es _ => es.toList.flatMap fun e => He.refV e.val
  | .func fd => He.refV fd.code ++ (He.refV fd.defaults ++ fd.closure.map fun q => q.2)
  | .fields vs => bif decide (o.cls = .type "staticmethod") then vs.toList.flatMap He.refV else []
  | _ => []
/-- some objects and what hangs on them, n steps down -/
def below (g : Addr → Option Obj) : Nat → List Addr → List Addr
  | 0, as => as
  | n + 1, as => as ++ below g n (as.flatMap fun a => match g a with
    | some o => hangs o
    | none => [])
def partOf (g : Addr → Option Obj) : PySem.W.Frag := He.frG g (cStatics :: below g 5 [mainGlobals])

/-! ### functions -/
/-- where a function stands, what it is called, its def in the text; its cells and its defaults -/
structure Fd where
  loc : PySem.W.Frag → Addr
  x : Str
  q : Str
  st : Stmt
  cl : PySem.W.Frag → List (Str × Addr)
  dv : PySem.W.Frag → Value
abbrev FdT : Type := Str × Str × Arguments × FuncBody × Scope
def Fd.text (d : Fd) : FdT := (d.x, d.q, defArgs d.st, .stmts (defBody d.st), defScope d.st)
def fdAt (K : PySem.W.Frag) (a : Addr) : Option FuncData := match K.lookup a with
  | some ⟨_, _, .func fd, _⟩ => some fd
  | _ => none
def fdText (fd : FuncData) : FdT := (fd.name, fd.qualname, fd.params, fd.body, fd.scope)
def Fd.seen (K : PySem.W.Frag) (d : Fd) : Option FdT := (fdAt K (d.loc K)).map fdText
def fdRest (K : PySem.W.Frag) (d : Fd) (fd : FuncData) : Bool :=
  decide (fd.globals = mainGlobals) && (decide (fd.builtins = builtinsNs) && (decide (fd.closure = d.cl K) && (decide (fd.defaults = d.dv K) && PySem.W.codeIn K fd.code d.q)))
def Fd.rest (K : PySem.W.Frag) (d : Fd) : Bool := match fdAt K (d.loc K) with
  | some fd => fdRest K d fd
  | none => false
theorem fdAt_lk {K : PySem.W.Frag} {a : Addr} {fd : FuncData} (h : fdAt K a = some fd) : ∃ oc od sl, K.lookup a = some ⟨oc, od, .func fd, sl⟩ := by
  unfold fdAt at h
  split at h
  · rename_i oc od fd' sl e
    rw [Option.some.inj h] at e
    exact ⟨oc, od, sl, e⟩
  · cases h
theorem Fd.at_ {K : PySem.W.Frag} {d : Fd} (h1 : d.seen K = some d.text) (h2 : d.rest K = true) :
    ∃ fd, fdAt K (d.loc K) = some fd ∧ fdText fd = d.text ∧ fdRest K d fd = true := by
  unfold Fd.rest at h2
  unfold Fd.seen at h1
  cases e : fdAt K (d.loc K) with
  | none => rw [e] at h1; cases h1
  | some fd =>
    rw [e] at h1 h2
    exact ⟨fd, rfl, Option.some.inj h1, h2⟩
/-- a function without cells -/
theorem Fd.plain {K : PySem.W.Frag} {d : Fd} (h1 : d.seen K = some d.text) (h2 : d.rest K = true) (hc : d.cl K = []) :
    ∃ oc od sl kV dc pm an cd ct, K.lookup (d.loc K) = some ⟨oc, od, .func (PySem.W.fnOf d.x d.q (defArgs d.st) (defBody d.st) (defScope d.st) (d.dv K) kV dc pm an cd ct), sl⟩ ∧ PySem.W.codeIn K cd d.q = true := by
  obtain ⟨fd, e, t, r⟩ := Fd.at_ h1 h2
  obtain ⟨oc, od, sl, lk⟩ := fdAt_lk e
  obtain ⟨n1, n2, n3, n4, n5, n6, n7, n8, n9, n10, n11, n12, n13, n14, n15⟩ := fd
  simp only [fdText, Fd.text, Prod.mk.injEq] at t
  simp only [fdRest, Bool.and_eq_true, decide_eq_true_eq, hc] at r
  obtain ⟨rfl, rfl, rfl, rfl, rfl⟩ := t
  obtain ⟨rfl, rfl, rfl, rfl, c⟩ := r
  exact ⟨oc, od, sl, n9, n10, n11, n12, n13, n14, lk, c⟩
/-- a function with the class's cell -/
theorem Fd.celled {K : PySem.W.Frag} {d : Fd} {cc : Addr} (h1 : d.seen K = some d.text) (h2 : d.rest K = true) (hc : d.cl K = [(("__class__" : Str), cc)]) :
    ∃ oc od sl kV dc pm an cd ct, fdAt K (d.loc K) = some (PySem.W.ksFn d.x d.q (defArgs d.st) (defBody d.st) (defScope d.st) (d.dv K) kV dc pm an cd ct cc) ∧ K.lookup (d.loc K) = some ⟨oc, od, .func (PySem.W.ksFn d.x d.q (defArgs d.st) (defBody d.st) (defScope d.st) (d.dv K) kV dc pm an cd ct cc), sl⟩ ∧ PySem.W.codeIn K cd d.q = true := by
  obtain ⟨fd, e, t, r⟩ := Fd.at_ h1 h2
  obtain ⟨oc, od, sl, lk⟩ := fdAt_lk e
  obtain ⟨n1, n2, n3, n4, n5, n6, n7, n8, n9, n10, n11, n12, n13, n14, n15⟩ := fd
  simp only [fdText, Fd.text, Prod.mk.injEq] at t
  simp only [fdRest, Bool.and_eq_true, decide_eq_true_eq, hc] at r
  obtain ⟨rfl, rfl, rfl, rfl, rfl⟩ := t
  obtain ⟨rfl, rfl, rfl, rfl, c⟩ := r
  exact ⟨oc, od, sl, n9, n10, n11, n12, n13, n14, e, lk, c⟩

/-! ### paths -/
/-- the module's name x, if it is an object -/
abbrev gA (x : Str) (K : PySem.W.Frag) : Addr := He.ga K x
/-- the class C's attribute m, if it is an object -/
abbrev mA (C m : Str) (K : PySem.W.Frag) : Addr := He.ma K (He.ga K C) m
/-- the function of a static method -/
def sA (C m : Str) (K : PySem.W.Frag) : Addr := match K.lookup (mA C m K) with
  | some ⟨_, _, .fields vs, _⟩ => (match vs.toList with
    | .ref g :: _ => g
    | _ => 0)
  | _ => 0
/-- a function's code, its defaults' tuple, its first cell -/
def codeAt (f : PySem.W.Frag → Addr) (K : PySem.W.Frag) : Addr := match fdAt K (f K) with
  | some fd => (match fd.code with
    | .ref a => a
    | _ => 0)
  | none => 0
def dflAt (f : PySem.W.Frag → Addr) (K : PySem.W.Frag) : Addr := match fdAt K (f K) with
  | some fd => (match fd.defaults with
    | .ref a => a
    | _ => 0)
  | none => 0
def dfiAt (f : PySem.W.Frag → Addr) (i : Nat) (K : PySem.W.Frag) : Addr := match K.lookup (dflAt f K) with
  | some ⟨_, _, .seq its _, _⟩ => (match its.toList[i]? with
    | some (.ref a) => a
    | _ => 0)
  | _ => 0
def cellAt (f : PySem.W.Frag → Addr) (K : PySem.W.Frag) : Addr := match fdAt K (f K) with
  | some fd => (match fd.closure with
    | q :: _ => q.2
    | [] => 0)
  | none => 0

/-! ### single facts: each a Bool, and what it says -/
/-- a tuple of these texts, or of what a test admits -/
def tupB (a : Addr) (vs : List V) (K : PySem.W.Frag) : Bool := match K.lookup a with
  | some ⟨c, _, .seq its _, _⟩ => decide (c = .type "tuple") && (decide (its.size ≤ sizeLine) && He.relAll vs its.toList)
  | _ => false
theorem tupB_ok {K : PySem.W.Frag} {a : Addr} {vs : List V} (h : tupB a vs K = true) : ∃ (d : Option Addr) (its : Array Value) (n : Nat) (sl : Array (Option Value)), K.lookup a = some ⟨.type "tuple", d, .seq its n, sl⟩ ∧ its.size ≤ sizeLine ∧ Vals vs its.toList := by
  unfold tupB at h
  split at h
  · rename_i c d its n sl e
    simp only [Bool.and_eq_true, decide_eq_true_eq] at h
    obtain ⟨rfl, h1, h2⟩ := h
    exact ⟨d, its, n, sl, e, h1, He.relAll_ok h2⟩
  · cases h
/-- a tuple of these very values -/
def tupVB (a : Addr) (vs : List Value) (K : PySem.W.Frag) : Bool := match K.lookup a with
  | some ⟨c, _, .seq its _, _⟩ => decide (c = .type "tuple") && decide (its.toList = vs)
  | _ => false
theorem tupVB_ok {K : PySem.W.Frag} {a : Addr} {vs : List Value} (h : tupVB a vs K = true) : ∃ d n sl, K.lookup a = some ⟨.type "tuple", d, .seq vs.toArray n, sl⟩ := by
  unfold tupVB at h
  split at h
  · rename_i c d its n sl e
    simp only [Bool.and_eq_true, decide_eq_true_eq] at h
    obtain ⟨rfl, h2⟩ := h
    subst h2
    exact ⟨d, n, sl, by simpa using e⟩
  · cases h
/-- the module's name is this number -/
def intB (x : Str) (i : Int) (K : PySem.W.Frag) : Bool := match PySem.W.nsIn K mainGlobals x with
  | some (some (.int j _)) => decide (j = i)
  | _ => false
theorem intB_ok {K : PySem.W.Frag} {x : Str} {i : Int} (h : intB x i K = true) : ∃ t, PySem.W.nsIn K mainGlobals x = some (some (.int i t)) := by
  unfold intB at h
  split at h
  · rename_i j t e
    rw [decide_eq_true_eq] at h
    subst h
    exact ⟨t, e⟩
  · cases h
/-- a static method -/
def staB (p : Addr) (K : PySem.W.Frag) : Bool := match K.lookup p with
  | some ⟨c, _, .fields vs, _⟩ => decide (c = .type "staticmethod") && (match vs.toList with
    | .ref _ :: _ => true
    | _ => false)
  | _ => false
theorem staB_ok {C m : Str} {K : PySem.W.Frag} (h : staB (mA C m K) K = true) : ∃ d vs sl r, K.lookup (mA C m K) = some ⟨.type "staticmethod", d, .fields vs, sl⟩ ∧ vs.toList = .ref (sA C m K) :: r := by
  unfold staB at h
  split at h
  · rename_i c d vs sl e
    simp only [Bool.and_eq_true, decide_eq_true_eq] at h
    obtain ⟨rfl, h2⟩ := h
    split at h2
    · rename_i g r e2
      have es : sA C m K = g := by unfold sA; rw [e]; dsimp only; rw [e2]
      exact ⟨d, vs, sl, r, e, by rw [es]; exact e2⟩
    · cases h2
  · cases h
/-- an error's class -/
def excB (C : Addr) (K : PySem.W.Frag) : Bool := match K.lookup C with
  | some ⟨c, _, .cls cd, sl⟩ => (match cd.mro, sl.toList with
    | .ref D :: bm, [_, _, _, _, some (.builtin n), _] => decide (c = .type "type") && (decide (D = C) && (decide (n = "ValueError.__new__") && (!cd.hasDel && (cd.hasDict && PySem.HandSPX.refsVE bm))))
    | _, _ => false)
  | _ => false
theorem excB_ok {C : Addr} {K : PySem.W.Frag} (h : excB C K = true) : ∃ nm q N bs bm sn sub ab col dd k0 k1 k2 k3 k5, K.lookup C = some (excClassObj nm q C N bs bm true sn sub ab col dd k0 k1 k2 k3 k5 "ValueError.__new__") ∧ PySem.HandSPX.refsVE bm = true := by
  unfold excB at h
  split at h
  · rename_i c dd cd sl e
    split at h
    · rename_i D bm k0 k1 k2 k3 n k5 hm hs
      simp only [Bool.and_eq_true, decide_eq_true_eq, Bool.not_eq_true'] at h
      obtain ⟨rfl, rfl, rfl, hdel, hd, hb⟩ := h
      obtain ⟨nm, bs, mro, ns, q, hdct, sn, sub, ab, col, del⟩ := cd
      dsimp only at hm hdel hd
      subst hm hdel hd
      obtain ⟨l⟩ := sl
      have hs : l = _ := hs
      subst hs
      exact ⟨nm, q, ns, bs, bm, sn, sub, ab, col, dd, k0, k1, k2, k3, k5, e, hb⟩
    · cases h
  · cases h
/-- a code object's file -/
def fileB (P : Program) (a : Addr) (K : PySem.W.Frag) : Bool := match K.lookup a with
  | some ⟨_, _, .fields vs, _⟩ => (match (vs[2]? : Option Value) with
    | some (Value.str f _) => (P.main.file : Str) == f
    | _ => false)
  | _ => false
theorem fileB_ok {P : Program} {a : Addr} {K : PySem.W.Frag} (h : fileB P a K = true) : ∃ cl d vs sl f t, K.lookup a = some ⟨cl, d, .fields vs, sl⟩ ∧ vs[2]? = some (.str f t) ∧ ((P.main.file : Str) == f) = true := by
  unfold fileB at h
  split at h
  · rename_i cl d vs sl e
    split at h
    · rename_i f t e2
      exact ⟨cl, d, vs, sl, f, t, e, e2, h⟩
    · cases h
  · cases h
/-- a cell of a class -/
def cellB (a C : Addr) (K : PySem.W.Frag) : Bool := match K.lookup a with
  | some ⟨_, _, .cell v, _⟩ => decide (v = some (.ref C))
  | _ => false
theorem cellB_ok {a C : Addr} {K : PySem.W.Frag} (h : cellB a C K = true) : ∃ cl d sl, K.lookup a = some ⟨cl, d, .cell (some (.ref C)), sl⟩ := by
  unfold cellB at h
  split at h
  · rename_i cl d v sl e
    rw [decide_eq_true_eq] at h
    subst h
    exact ⟨cl, d, sl, e⟩
  · cases h
/-- a function's code is this object -/
def codB (f : PySem.W.Frag → Addr) (K : PySem.W.Frag) : Bool := match fdAt K (f K) with
  | some fd => (match fd.code with
    | .ref _ => true
    | _ => false)
  | none => false
theorem codB_ok {f : PySem.W.Frag → Addr} {K : PySem.W.Frag} {fd : FuncData} (h : codB f K = true) (e : fdAt K (f K) = some fd) : fd.code = .ref (codeAt f K) := by
  unfold codB at h
  unfold codeAt
  rw [e] at h ⊢
  dsimp only at h ⊢
  split at h
  · rename_i a e2
    rw [e2]
  · cases h

/-! ### the Hook -/
abbrev TopA : Type := Bool × List (Option FdT)
def topObs (exs : List (PySem.W.Frag → Bool)) (fns : List Fd) (K : PySem.W.Frag) : TopA := ((exs.all fun f => f K) && fns.all fun d => d.rest K, fns.map fun d => d.seen K)
def topVal (fns : List Fd) : TopA := (true, fns.map fun d => some d.text)
def Told (exs : List (PySem.W.Frag → Bool)) (fns : List Fd) (K : PySem.W.Frag) : Prop := topObs exs fns K = topVal fns
def topHook (exs : List (PySem.W.Frag → Bool)) (fns : List Fd) : PySem.W.Hook where
  α := TopA
  obs := fun s => topObs exs fns (partOf s.heap.get?)
  val := fun _ => topVal fns
  says := fun _ h => ∃ K : PySem.W.Frag, K.In h ∧ Told exs fns K
  of := fun _ _ e => ⟨_, He.frG_in, e⟩
  keeps := fun _ _ _ q k => q.elim fun K z => ⟨K, PySem.W.Frag.In.keeps z.1 k, z.2⟩
def topOb (exs : List (PySem.W.Frag → Bool)) (fns : List Fd) (s : PySem.W.SharedT) : TopA := topObs exs fns (partOf (HandSHeadRun.getT s))
theorem topOb_eq (exs : List (PySem.W.Frag → Bool)) (fns : List Fd) (s : PySem.W.SharedT) : topOb exs fns s = (topHook exs fns).obs s.abs := by
  have e : HandSHeadRun.getT s = s.abs.heap.get? := funext fun a => HandSHeadRun.getT_eq s a
  unfold topOb
  rw [e] <;> rfl
section
variable {exs : List (PySem.W.Frag → Bool)} {fns : List Fd} {K : PySem.W.Frag}
theorem Told.ex (c : Told exs fns K) (i : Nat) {f : PySem.W.Frag → Bool} (h : exs[i]? = some f := by rfl) : f K = true := by
  have c1 : ((exs.all fun f => f K) && fns.all fun d => d.rest K) = true := congrArg (fun z : TopA => z.1) c
  exact List.all_eq_true.mp (Bool.and_eq_true_iff.mp c1).1 f (List.mem_of_getElem? h)
theorem Told.fn (c : Told exs fns K) (i : Nat) {d : Fd} (h : fns[i]? = some d := by rfl) : d.seen K = some d.text ∧ d.rest K = true := by
  have c1 : ((exs.all fun f => f K) && fns.all fun d => d.rest K) = true := congrArg (fun z : TopA => z.1) c
  have c2 : fns.map (fun d => d.seen K) = fns.map fun d => some d.text := congrArg (fun z : TopA => z.2) c
  refine ⟨?_, List.all_eq_true.mp (Bool.and_eq_true_iff.mp c1).2 d (List.mem_of_getElem? h)⟩
  have e : (fns.map fun d => d.seen K)[i]? = (fns.map fun d => some d.text)[i]? := by rw [c2]
  rw [List.getElem?_map, List.getElem?_map, h] at e
  exact Option.some.inj e
theorem Told.pl (c : Told exs fns K) (i : Nat) {d : Fd} (h : fns[i]? = some d := by rfl) (hc : d.cl K = [] := by rfl) :
    ∃ oc od sl kV dc pm an cd ct, K.lookup (d.loc K) = some ⟨oc, od, .func (PySem.W.fnOf d.x d.q (defArgs d.st) (defBody d.st) (defScope d.st) (d.dv K) kV dc pm an cd ct), sl⟩ ∧ PySem.W.codeIn K cd d.q = true :=
  Fd.plain (c.fn i h).1 (c.fn i h).2 hc
/-- an error's own __init__ -/
theorem Told.err (c : Told exs fns K) (i j : Nat) {d : Fd} (h : fns[i]? = some d := by rfl) (hj : exs[j]? = some (codB d.loc) := by rfl) (hc : d.cl K = [(("__class__" : Str), cellAt d.loc K)] := by rfl) :
    ∃ oc od sl kV dc pm an ct, K.lookup (d.loc K) = some ⟨oc, od, .func (PySem.W.ksFn d.x d.q (defArgs d.st) (defBody d.st) (defScope d.st) (d.dv K) kV dc pm an (.ref (codeAt d.loc K)) ct (cellAt d.loc K)), sl⟩ ∧ PySem.W.codeIn K (.ref (codeAt d.loc K)) d.q = true := by
  obtain ⟨oc, od, sl, kV, dc, pm, an, cd, ct, e, lk, ci⟩ := Fd.celled (c.fn i h).1 (c.fn i h).2 hc
  have q : cd = .ref (codeAt d.loc K) := codB_ok (c.ex j hj) e
  rw [q] at lk ci
  exact ⟨oc, od, sl, kV, dc, pm, an, ct, lk, ci⟩
end
theorem of_dec {p : Prop} [Decidable p] (h : decide p = true) : p := of_decide_eq_true h

/-! ### the law's end over it -/
theorem walkY {l : PySem.W.OpenLaw} {n k : Nat} {q : Program} {loose : List Str} {XP : (Str → Option Value) → Heap → Prop} {YP : World → Heap → Prop} {d : DefRec} {F : FD} {x : Str}
    (most : l.most = some n) (few : n ≤ sizeLine) (nod : d.params.defaults = []) (room : Room k callerA)
    (G : ∀ (w : World) (mg : Str → Option Value) (fa : Addr) (h : Heap), YP w h → h.Ns mainGlobals mg → mg d.name = some (.ref fa) →
      ∃ K : PySem.W.Frag, K.In h ∧ ∃ fd : FuncData, (∀ (s : Shared) (u : Value), BindsTo s fd ⟨[u], []⟩ [(x, u)]) ∧
        ∀ base : Heap, K.In base → base.Ns mainGlobals mg → FnG l.prog w K mg base (L2.CX l.prog w) k fa fd [x] (spD K F))
    (law : ∀ (ns : List Int) (Q : QD) (E : XD), ns.length ≤ n → (∀ μ, Q (.bl true) μ) → F [.fzl (ns.map .int)] [] Q E) :
    PySem.W.WalkO q loose XP YP l.row.toRowW d [] (fun f vs => PySem.call f vs) := by
  refine Att.attach_call most nod fun w s0 s1 mg mb fa o pm cd doc a us ns T Y ho hd hcd hmg obj allInt len ng => ?_
  obtain ⟨K, inK, fd, bind, go⟩ := G w mg fa _ Y T.T.g hmg
  refine callG inK T.T.g T.T.b T.T.builtins T.T.nolimit ng obj allInt (Nat.le_trans len few) room go bind fun H only seq => ?_
  refine ⟨[], [], [.fzl (ns.map .int)], ⟨rfl, List.nodup_nil, fun n a c e => by simp at e⟩, Ats.cons ?_ Ats.nil, law ns _ _ len fun μ ι' H' v _ _ av => by cases av; rfl⟩
  have at_ : Ats K [] H (ns.map V.int) (ns.map D.int) := by
    refine ⟨by simp, fun i v d e1 e2 => ?_⟩
    rw [List.getElem?_map, Option.map_eq_some_iff] at e1 e2
    obtain ⟨m, h1, rfl⟩ := e1
    obtain ⟨m', h2, rfl⟩ := e2
    rw [h1] at h2; cases h2
    exact .int _
  refine .fzl ?_ at_.1 at_.2
  rcases seq with (e | ⟨ob, e⟩) | own
  · rcases only a with n | ⟨ob, ys, f⟩
    · rw [n] at e; cases e
    · rw [f] at e; cases e
  · exact .inl ⟨ob, e, by simp⟩
  · exact .inr fun _ => .inr own
end Dl

namespace Dl
open PySem PySem.Spec L2
open PyProof.Rows hiding St Binds
/-! ### stars in a display, texts with parts, operators of an own class, str of an instance -/
section
variable {X : Cx} {W : WX} {a b c e o i : Expr} {es : List Expr} {f fa fb fo fi fv : FE} {fl : FA} {pos p pos' : Pos} {x : Str} {C : Addr} {F : FD} {dds : List D} {j k : Nat} {K : PySem.W.Frag}
def fStar (f : FE) (g : FA) : FA := fun ρ μ Q E => f ρ μ (fun d m => ∃ ds, asS m d = some ds ∧ g ρ m (fun ys m2 => Q (ds ++ ys) m2) E) E
theorem mStar (m : MonE f) (m' : MonA fl) : MonA (fStar f fl) := fun ρ μ Q Q' E E' h he q =>
  m ρ μ _ _ E E' (fun d mm ⟨ds, e, z⟩ => ⟨ds, e, m' ρ mm _ _ E E' (fun ys m2 z2 => h _ m2 z2) he z⟩) he q
theorem da_star (h : DE X W e f) (h' : DA X W es fl) (hs : starEach (.Starred e p :: es) X.env = (true, eval e X.env) :: starEach es X.env := by rfl) : DA X W (.Starred e p :: es) (fStar f fl) :=
  ⟨mStar h.mono h'.mono, PA.imp (StX.pa_star h.run h'.run hs) fun σ H Q ⟨ι, ρ, μ, rp, l, q⟩ => chain1 h.mono rp l q fun d μ1 ι1 H1 v q1 g1 r1 l1 a1 => by
    obtain ⟨ds, e, z⟩ := q1
    obtain ⟨p, vs, rfl, hs, at_⟩ := asS_at r1 a1 e
    refine ⟨p, vs, rfl, hs.symm, ?_⟩
    exact chainA h'.mono r1 l1 (h'.mono ρ μ1 _ _ _ _ (fun _ _ z => z) (fun _ _ _ z => EW.gr g1 z) z) fun ys μ2 ι2 H2 us q2 g2 r2 l2 a2 => q2 ι2 H2 _ (g1.trans g2) r2 ((at_.gr g2).app a2)⟩
/-- x op y, both of the class at C -/
def gBinO (C : Addr) (F : FD) : G2 := fun x y μ Q => ∃ fd fd', asI μ x = some (C, fd) ∧ asI μ y = some (C, fd') ∧ F [x, y] μ Q (fun _ _ _ => False)
theorem opd_bin {op : Operator} {m : Str} (iC : IsC X.K C) (sf : PySem.W.selfFirst X.K C = true) (c : MetX X k C m F []) (hG : X.A.guards = some []) (hr : Room j X.A) (hk : k ≤ j) (hm : dunder op.info.2 = m := by rfl) : OpD X (binaryOp op) (gBinO C F) := by
  subst hm
  obtain ⟨f, fd0, ps, dvs, ds, Fg, hM, hb, hv, hd⟩ := c.ex
  refine ⟨fun x y μ Q Q' h ⟨fd, t, e1, e2, q⟩ => ⟨fd, t, e1, e2, c.mono _ _ _ _ _ _ h (fun _ _ _ z => z) q⟩,
    fun x y H Q => ∃ a dx fv, x = .ref a ∧ H a = some (.ins C dx fv) ∧ TyX X.K H y (.ref C) ∧ spD X.K F ([x, y] ++ dvs) H Q (fun _ _ _ => False), ?_, ?_⟩
  · intro pins s σ H x y v u Q I rx ry h
    obtain ⟨a, dx, fv, rfl, ha, ty, q⟩ := h
    cases (show v = Value.ref a from rx)
    obtain ⟨mA, O, _, _, _, _⟩ := ins_get I.hok ha
    obtain ⟨od, J, _⟩ := O.look
    obtain ⟨m, hF⟩ := I.fr
    obtain ⟨P, kx, hP, _⟩ := kit_of I ry ty
    refine PySem.W.binop_K hF I.ok.mod.kin J (kx.ty _ _ I.kIn hP) sf hM.at_ hM.fn ?_
    refine wpAny_mono (g_run (us := [.ref a, u]) (vs := [.ref a, y]) hG Fg (hr.mono hk) hb hv (passNo (k := k) fun _ _ _ z => z) I (.cons rfl (.cons ry .nil)) q) (fun w s' z => ?_) fun _ _ z => z
    obtain ⟨z', H', I', rz, qz⟩ := z
    exact SlX.cmpback rz ⟨z', H', I', rz, qz⟩
  · rintro ι H μ x y dx dy Q r ax ay ⟨fd, fd', e1, e2, q⟩
    obtain ⟨a, dxx, fv, rfl, ha, _⟩ := asI_at r ax e1
    exact ⟨a, dxx, fv, rfl, ha, tyd_of r ay (.ins _ _ _ e2 iC), ι, μ, _, r, (Ats.cons ax (Ats.cons ay Ats.nil)).app (hd ι H), c.mono [dx, dy] μ _ _ (fun _ _ _ => False) _ (fun _ _ z => z) (fun _ _ _ z => z.elim) q⟩
/-- ~x, x of the class at C -/
def fInv (C : Addr) (F : FD) (f : FE) : FE := fun ρ μ Q E => f ρ μ (fun x m => ∃ fd, asI m x = some (C, fd) ∧ F [x] m Q (fun _ _ _ => False)) E
theorem de_inv (c : MetX X k C "__invert__" F []) (hG : X.A.guards = some []) (hr : Room j X.A) (hk : k ≤ j) (h : DE X W e f) : DE X W (.UnaryOp .Invert e pos) (fInv C F f) := by
  obtain ⟨g, fd0, ps, dvs, ds, Fg, hM, hb, hv, hd⟩ := c.ex
  refine ⟨fun ρ μ Q Q' E E' h1 he q => h.mono ρ μ _ _ E E' (fun d m ⟨fd, e1, z⟩ => ⟨fd, e1, c.mono _ _ _ _ _ _ h1 (fun _ _ _ z => z) z⟩) he q,
    PE.imp (pe_un (r := fun x H Q => ∃ a dx fv, x = .ref a ∧ H a = some (.ins C dx fv) ∧ spD X.K F ([x] ++ dvs) H Q (fun _ _ _ => False)) ?_ h.run) fun σ H Q ⟨ι, ρ, μ, rp, l, q⟩ => chain1 h.mono rp l q fun d μ1 ι1 H1 v q1 g1 r1 l1 a1 => ?_⟩
  · intro pins s σ H x v Q I rx h
    obtain ⟨a, dx, fv, rfl, ha, q⟩ := h
    cases (show v = Value.ref a from rx)
    obtain ⟨mA, O, _, _, _, _⟩ := ins_get I.hok ha
    obtain ⟨od, J, _⟩ := O.look
    obtain ⟨m, hF⟩ := I.fr
    exact PySem.W.ksp_inv hF I.ok.mod.kin J hM.at_ hM.fn (g_run (us := [.ref a]) (vs := [.ref a]) hG Fg (hr.mono hk) hb hv (passNo (k := k) fun _ _ _ z => z) I (.cons rfl .nil) q)
  · obtain ⟨fd, e1, z⟩ := q1
    obtain ⟨a, dxx, fv, rfl, ha, _⟩ := asI_at r1 a1 e1
    exact ⟨a, dxx, fv, rfl, ha, ι1, μ1, _, r1, (Ats.cons a1 Ats.nil).app (hd ι1 H1), c.mono [d] μ1 _ _ (fun _ _ _ => False) _ (fun _ _ z => QV.gr g1 z) (fun _ _ _ z => z.elim) z⟩
end
end Dl

namespace Dl
open PySem PySem.Spec L2
open PyProof.Rows hiding St Binds
/-! ### the text of an instance by its own __str__ -/
section
variable {X : Cx} {W : WX} {a b c e o i : Expr} {es : List Expr} {f fa fb fo fi fv : FE} {fl : FA} {pos p pos' : Pos} {x : Str} {C : Addr} {F : FD} {dds : List D} {j k : Nat} {K : PySem.W.Frag}
end
end Dl

namespace Dl
open PySem PySem.Spec L2
open PyProof.Rows hiding St Binds
section
variable {X : Cx} {W : WX} {a b c e o i : Expr} {es : List Expr} {f fa fb fo fi fv : FE} {fl : FA} {pos p pos' apos cpos : Pos} {x : Str} {C : Addr} {F : FD} {dds : List D} {j k : Nat} {K : PySem.W.Frag}
end
end Dl

namespace Dl
open PySem PySem.Spec L2
open PyProof.Rows hiding St Binds
/-! ### conditions as trees, as words, as texts -/
def encl (op : Str) : List Str := if op = ("not" : Str) then [("and" : Str), ("or" : Str)] else if op = ("and" : Str) then [("or" : Str)] else []
def wrapS (op l t : Str) : Str := if l ∈ encl op then (("(" : Str) ++ t) ++ (")" : Str) else t
inductive Tr where
  | is (s : Str) | al | nv | no (t : Tr) | an (a b : Tr) | or (a b : Tr)
namespace Tr
def last : Tr → Str
  | .is s => s | .al => ("always" : Str) | .nv => ("never" : Str) | .no _ => ("not" : Str) | .an _ _ => ("and" : Str) | .or _ _ => ("or" : Str)
def kind : Tr → Str
  | .is _ => ("is" : Str) | t => t.last
def text : Tr → Str
  | .is s => s | .al => ("always" : Str) | .nv => ("never" : Str)
  | .no t => ("not " : Str) ++ wrapS ("not" : Str) t.last t.text
  | .an a b => wrapS ("and" : Str) a.last a.text ++ (" and " : Str) ++ wrapS ("and" : Str) b.last b.text
  | .or a b => a.text ++ (" or " : Str) ++ b.text
def words : Tr → List Str
  | .is s => [s] | .al => [("always" : Str)] | .nv => [("never" : Str)]
  | .no t => t.words ++ [("not" : Str)] | .an a b => a.words ++ b.words ++ [("and" : Str)] | .or a b => a.words ++ b.words ++ [("or" : Str)]
def d : Tr → D
  | .is s => .tup [.str ("is" : Str), .str s] | .al => .tup [.str ("always" : Str)] | .nv => .tup [.str ("never" : Str)]
  | .no t => .tup [.str ("not" : Str), t.d] | .an a b => .tup [.str ("and" : Str), a.d, b.d] | .or a b => .tup [.str ("or" : Str), a.d, b.d]
def dep : Tr → Nat
  | .is _ => 0 | .al => 0 | .nv => 0 | .no t => t.dep + 1 | .an a b => max a.dep b.dep + 1 | .or a b => max a.dep b.dep + 1
def size : Tr → Nat
  | .is _ => 1 | .al => 1 | .nv => 1 | .no t => t.size + 1 | .an a b => a.size + b.size + 1 | .or a b => a.size + b.size + 1
def ok : Tr → Prop
  | .is s => NameOk s | .al => True | .nv => True | .no t => t.ok | .an a b => a.ok ∧ b.ok | .or a b => a.ok ∧ b.ok
end Tr
theorem not_and_or {s : Str} (h : NameOk s) : s ≠ ("not" : Str) ∧ s ≠ ("and" : Str) ∧ s ≠ ("or" : Str) := by
  refine ⟨fun e => h.res ?_, fun e => h.res ?_, fun e => h.res ?_⟩ <;> rw [e] <;> decide +kernel
theorem NameOk.len {s : Str} (h : NameOk s) : s.length ≤ 8 := by
  have := h.le
  rwa [Array.length_toList] at this
theorem wrap_len (op l t : Str) : (wrapS op l t).length ≤ t.length + 2 := by
  unfold wrapS
  split
  · rw [Str.length_append, Str.length_append]
    show 1 + t.length + 1 ≤ _
    omega
  · omega
theorem Tr.text_len : ∀ {t : Tr}, t.ok → t.text.length ≤ 12 * t.size
  | .is s, h => by have := NameOk.len (show NameOk s from h); show s.length ≤ 12 * 1; omega
  | .al, _ => by decide
  | .nv, _ => by decide
  | .no t, h => by
    have := Tr.text_len (t := t) h
    have w := wrap_len ("not" : Str) t.last t.text
    show (("not " : Str) ++ wrapS _ _ _).length ≤ 12 * (t.size + 1)
    rw [Str.length_append]
    have e : ("not " : Str).length = 4 := by decide
    omega
  | .an a b, h => by
    have h1 := Tr.text_len (t := a) h.1
    have h2 := Tr.text_len (t := b) h.2
    have w1 := wrap_len ("and" : Str) a.last a.text
    have w2 := wrap_len ("and" : Str) b.last b.text
    show (wrapS _ _ _ ++ (" and " : Str) ++ wrapS _ _ _).length ≤ 12 * (a.size + b.size + 1)
    rw [Str.length_append, Str.length_append]
    have e : (" and " : Str).length = 5 := by decide
    omega
  | .or a b, h => by
    have h1 := Tr.text_len (t := a) h.1
    have h2 := Tr.text_len (t := b) h.2
    show (a.text ++ (" or " : Str) ++ b.text).length ≤ 12 * (a.size + b.size + 1)
    rw [Str.length_append, Str.length_append]
    have e : (" or " : Str).length = 4 := by decide
    omega
theorem Tr.size_dep : ∀ t : Tr, t.size + 1 ≤ 2 ^ (t.dep + 1)
  | .is _ => by show 1 + 1 ≤ 2 ^ (0 + 1); decide
  | .al => by decide
  | .nv => by decide
  | .no t => by
    have := Tr.size_dep t
    show t.size + 1 + 1 ≤ 2 ^ (t.dep + 1 + 1)
    rw [Nat.pow_succ]; omega
  | .an a b => by
    have h1 := Tr.size_dep a
    have h2 := Tr.size_dep b
    have p1 : 2 ^ (a.dep + 1) ≤ 2 ^ (max a.dep b.dep + 1) := Nat.pow_le_pow_right (by decide) (by omega)
    have p2 : 2 ^ (b.dep + 1) ≤ 2 ^ (max a.dep b.dep + 1) := Nat.pow_le_pow_right (by decide) (by omega)
    show a.size + b.size + 1 + 1 ≤ 2 ^ (max a.dep b.dep + 1 + 1)
    rw [Nat.pow_succ]; omega
  | .or a b => by
    have h1 := Tr.size_dep a
    have h2 := Tr.size_dep b
    have p1 : 2 ^ (a.dep + 1) ≤ 2 ^ (max a.dep b.dep + 1) := Nat.pow_le_pow_right (by decide) (by omega)
    have p2 : 2 ^ (b.dep + 1) ≤ 2 ^ (max a.dep b.dep + 1) := Nat.pow_le_pow_right (by decide) (by omega)
    show a.size + b.size + 1 + 1 ≤ 2 ^ (max a.dep b.dep + 1 + 1)
    rw [Nat.pow_succ]; omega
theorem Tr.words_len : ∀ t : Tr, t.words.length = t.size
  | .is _ => rfl
  | .al => rfl
  | .nv => rfl
  | .no t => by show (t.words ++ [_]).length = _; rw [List.length_append, Tr.words_len t]; rfl
  | .an a b => by show (a.words ++ b.words ++ [_]).length = _; rw [List.length_append, List.length_append, Tr.words_len a, Tr.words_len b]; rfl
  | .or a b => by show (a.words ++ b.words ++ [_]).length = _; rw [List.length_append, List.length_append, Tr.words_len a, Tr.words_len b]; rfl
theorem Tr.small {t : Tr} (h : t.ok) (d : t.dep ≤ 8) : t.text.length ≤ 10000 ∧ t.words.length ≤ 600 := by
  have s := Tr.size_dep t
  have p : 2 ^ (t.dep + 1) ≤ 2 ^ 9 := Nat.pow_le_pow_right (by decide) (by omega)
  have l := Tr.text_len h
  rw [Tr.words_len]
  omega
/-! the stack machine -/
end Dl

namespace Dl
open PySem PySem.Spec L2
open PyProof.Rows hiding St Binds
section
variable {X : Cx} {W : WX} {a b c e o i : Expr} {es : List Expr} {f g fa fb fo fi fv : FE} {fl : FA} {pos p pos' : Pos} {x : Str} {C : Addr} {F : FD} {dds : List D} {j k : Nat} {K : PySem.W.Frag}
end
/-! ### margins -/
def spc : Nat → Str
  | 0 => Str.empty
  | k + 1 => spc k ++ ("  " : Str)
end Dl

namespace Dl
open PySem PySem.Spec L2
open PyProof.Rows hiding St Binds
/-! ### programs as blocks, as lines, as texts -/
abbrev wdF (ws : List Str) : List (Str × D) := [(("_words" : Str), D.tup (ws.map .str))]
abbrev cD (C : Addr) (ws : List Str) : D := .ins C (wdF ws)
inductive Bl where
  | nil | doo (s : Str) (r : Bl) | wh (t : Tr) (b r : Bl) | iff (t : Tr) (b o r : Bl)
inductive Stm where
  | doo (s : Str) | wh (t : Tr) (b : Bl) | iff (t : Tr) (b o : Bl)
inductive Rs where
  | non | act (s : Str) | cnd (t : Tr)
structure Ln where
  k : Nat
  w : Str
  r : Rs
def Rs.d (C : Addr) : Rs → D
  | .non => .non | .act s => .str s | .cnd t => cD C t.words
def Ln.d (C : Addr) (l : Ln) : D := .tup [.int (l.k : Nat), .str l.w, l.r.d C]
def Rs.text : Rs → Str
  | .non => Str.empty | .act s => s | .cnd t => t.text
def wl (l : Ln) : Str := match l.r with
  | .non => spc l.k ++ l.w
  | r => spc l.k ++ l.w ++ (" " : Str) ++ r.text
namespace Bl
def ds : Bl → List D
  | .nil => [] | .doo s r => .tup [.str ("do" : Str), .str s] :: r.ds
  | .wh t b r => .tup [.str ("while" : Str), t.d, .lst b.ds] :: r.ds
  | .iff t b o r => .tup [.str ("if" : Str), t.d, .lst b.ds, .lst o.ds] :: r.ds
def dep : Bl → Nat
  | .nil => 0 | .doo _ r => r.dep | .wh _ b r => max (b.dep + 1) r.dep | .iff _ b o r => max (max b.dep o.dep + 1) r.dep
def size : Bl → Nat
  | .nil => 0 | .doo _ r => r.size + 1 | .wh _ b r => b.size + r.size + 1 | .iff _ b o r => b.size + o.size + r.size + 1
def ok : Bl → Prop
  | .nil => True | .doo s r => NameOk s ∧ r.ok | .wh t b r => (t.ok ∧ t.dep ≤ 2 ∧ b.ok) ∧ r.ok | .iff t b o r => (t.ok ∧ t.dep ≤ 2 ∧ b.ok ∧ o.ok) ∧ r.ok
end Bl
namespace Stm
def d : Stm → D
  | .doo s => .tup [.str ("do" : Str), .str s] | .wh t b => .tup [.str ("while" : Str), t.d, .lst b.ds] | .iff t b o => .tup [.str ("if" : Str), t.d, .lst b.ds, .lst o.ds]
def dep : Stm → Nat
  | .doo _ => 0 | .wh _ b => b.dep + 1 | .iff _ b o => max b.dep o.dep + 1
def size : Stm → Nat
  | .doo _ => 1 | .wh _ b => b.size + 1 | .iff _ b o => b.size + o.size + 1
def ok : Stm → Prop
  | .doo s => NameOk s | .wh t b => t.ok ∧ t.dep ≤ 2 ∧ b.ok | .iff t b o => t.ok ∧ t.dep ≤ 2 ∧ b.ok ∧ o.ok
def cons : Stm → Bl → Bl
  | .doo s, r => .doo s r | .wh t b, r => .wh t b r | .iff t b o, r => .iff t b o r
end Stm
end Dl

namespace Dl
open PySem PySem.Spec L2
open PyProof.Rows hiding St Binds
section
variable {X : Cx} {W : WX} {o : Expr} {fo : FE} {pos p2 : Pos}
end
end Dl

namespace Dl
open PySem PySem.Spec L2
open PyProof.Rows hiding St Binds
section
variable {prog : Program} {w : World} {A : Around} {E : Value → Shared → Prop} {s : Shared} {K : PySem.W.Frag} {x C L f g dx : Addr} {h₀ : Heap} {m : Str → Option Value} {od : Option Obj}
end
section
variable {X : Cx} {C g : Addr} {F : FD} {j k : Nat} {fo ro : Option Value}
end
end Dl

namespace Dl
open PySem PySem.Spec L2
open PyProof.Rows hiding St Binds
section
variable {prog : Program} {w : World} {A : Around} {E : Value → Shared → Prop} {s : Shared} {K : PySem.W.Frag} {x C L f dx : Addr} {h₀ : Heap} {m : Str → Option Value} {od : Option Obj}
end
end Dl
namespace Dl
open PySem PySem.Spec L2
open PyProof.Rows hiding St Binds
section
variable {X : Cx} {W : WX} {C : Addr} {F : FD} {j k : Nat} {op : Operator} {n : Str} {e e' : Expr} {fa fb : FE} {pos : Pos}
end
end Dl

namespace Dl
open PySem PySem.Spec L2
open PyProof.Rows hiding St Binds
end Dl

/-! sorted(set(texts)) -/
namespace Dl
open PySem PySem.Spec L2
open PyProof.Rows hiding St Binds
def txE (e : Int × Value) : Str := strOf e.2
structure TxD (P : Program) (w : World) (D : Froz.SD) (ks : List Str) : Prop where
  ok : Froz.TxOk P w D ks
  nd : ks.Nodup
  pm : (D.1.toList.map txE).Perm ks
  tx : ∀ e ∈ D.1.toList, ∃ k u, e.2 = Value.str k u
  ri : Ris D.2.2.place.toList
  le : w.params.followText "set-order" = true ∨ D.2.2.led = true
def TxAt (P : Program) (w : World) (h : Heap) (a : Addr) (ks : List Str) : Prop := ∃ D : Froz.SD, h.get? a = some (Froz.sObj "set" D) ∧ TxD P w D ks
section
variable {P : Program} {w : World} {A : Around} {E : Value → Shared → Prop} {s : Shared} {a : Addr} {ks : List Str} {k : Str} {u : Tok} {D : Froz.SD}
theorem TxAt.keep {h h' : Heap} (t : TxAt P w h a ks) (f : ∀ o, h.get? a = some o → h'.get? a = some o) : TxAt P w h' a ks := let ⟨D, e, r⟩ := t; ⟨D, f _ e, r⟩
theorem tail_pm {ep : Nat} {es : Array (Int × Value)} {t : SetTable} {b : Bool} : (Froz.tailTx ep es t b).1.toList.Perm es.toList := by
  unfold Froz.tailTx; split
  · exact relayAll_perm _ _ _
  · exact .refl _
theorem tail_ri {ep : Nat} {es : Array (Int × Value)} {t : SetTable} {b : Bool} (r : Ris t.place.toList) : Ris (Froz.tailTx ep es t b).2.2.place.toList ∧ (Froz.tailTx ep es t b).2.2.led = t.led := by
  unfold Froz.tailTx; split
  · exact ⟨relayAll_ris _ _ _, relayAll_led _ _ _⟩
  · exact ⟨r, rfl⟩
theorem off_ri {t : SetTable} (r : Ris t.place.toList) : Ris (if t.plain = true then { t with plain := false } else t).place.toList ∧ (if t.plain = true then { t with plain := false } else t).led = t.led := by
  split <;> exact ⟨r, rfl⟩
theorem TxD.add (t : TxD P w D ks) (hk : k ∉ ks) (u : Tok) : TxD P w (Froz.addTx (hashStr w k) (.str k u) D) (k :: ks) := by
  have p0 := layNew_perm D.2.2 D.1 (hashStr w k) (.str k u)
  have r0 := layNew_ris D.2.2 D.1 (hashStr w k) (.str k u) t.ri
  have l0 := layNew_led D.2.2 D.1 (hashStr w k) (.str k u)
  have p1 := (tail_pm (ep := D.2.1) (es := (layNew D.2.2 D.1 (hashStr w k) (.str k u)).1) (t := (if (layNew D.2.2 D.1 (hashStr w k) (.str k u)).2.1.plain = true then { (layNew D.2.2 D.1 (hashStr w k) (.str k u)).2.1 with plain := false } else (layNew D.2.2 D.1 (hashStr w k) (.str k u)).2.1)) (b := (layNew D.2.2 D.1 (hashStr w k) (.str k u)).2.2.1)).trans p0
  rw [Array.toList_push] at p1
  have p2 := p1.trans (List.perm_append_singleton _ _)
  obtain ⟨ra, la⟩ := tail_ri (ep := D.2.1) (es := (layNew D.2.2 D.1 (hashStr w k) (.str k u)).1) (b := (layNew D.2.2 D.1 (hashStr w k) (.str k u)).2.2.1) (off_ri r0).1
  refine ⟨Froz.add_ok u t.ok, List.nodup_cons.mpr ⟨hk, t.nd⟩, ?_, fun e he => ?_, ra, t.le.imp id fun z => ?_⟩
  · exact (p2.map txE).trans (List.Perm.cons k t.pm)
  · rcases List.mem_cons.mp (p2.mem_iff.mp he) with z | z
    · exact ⟨k, u, by rw [z]⟩
    · exact t.tx e z
  · exact la.trans ((off_ri r0).2.trans (l0.trans z))
theorem TxD.size (t : TxD P w D ks) : D.1.size = ks.length := t.ok.sz
/-- a text that is in already -/
theorem tx_dup {Q : Bool → Shared → Prop} (ho : s.heap.get? a = some (Froz.sObj "set" D)) (t : TxD P w D ks) (hk : k ∈ ks) (hb : ks.length < scanBound) (h : Q false s) :
    wpAny (model P w) A (setAddHashed a (.str k u) (hashStr w k)) Q E s := by
  obtain ⟨es, ep, tb⟩ := D
  have hz : es.size = ks.length := t.ok.sz
  have hx : (PySem.strKind P w).is k (.str k u) = true := Froz.is_str k u
  have hd : (Froz.sObj "set" (es, ep, tb)).data = .set es ep tb := rfl
  cases hr : List.findIdx? (fun e => (PySem.strKind P w).is k e.2) es.toList with
  | none =>
    obtain ⟨e, he, q⟩ := (t.ok.mem k).mp hk
    have c := List.findIdx?_eq_none_iff.mp hr e he
    rw [q] at c; cases c
  | some j =>
    unfold setAddHashed setAddHashedIn
    refine wpAny_holding (wpAny_bind (wpAny_setState_of ho hd t.ok.fit ?_))
    dsimp only
    rw [byScan_of (show (Value.str k u).scannable = true from rfl) (show es.size < scanBound by rw [hz]; exact hb) t.ok.el]
    simp only [↓reduceIte]
    unfold setAddByScan
    refine wpAny_bind (wpAny_bind (wpAny_rule (wpAny_bind (wpAny_setScan_of hx ho hd t.ok.fit t.ok.el ?_))))
    rw [hr]
    exact wpAny_pure (wpAny_pure h)
end
section
variable {P : Program} {w : World} {A : Around} {R : Result → Shared → Prop} {I : Addr} {fp wr : List Addr} {G : Array GenState → Array GenState → Prop} {n : Nat} {Pv : Nat → Value → Prop} {St : Nat → Shared → Prop}
theorem take_mem {xs : List Str} {i : Nat} {x y : Str} (h : xs[i]? = some x) : y ∈ xs.take (i + 1) ↔ y ∈ xs.take i ∨ y = x := by
  rw [List.take_add_one, h]
  simp [List.mem_append]
/-- set.update over a list of texts -/
theorem tx_loop (W : WalksS P w A.in1 I fp wr G n Pv St) (S : Addr) (hSf : S ∉ fp) (xs : List Str) (hn : xs.length = n) (hfew : n < 1000) (hval : ∀ i v, Pv i v → ∃ x u, xs[i]? = some x ∧ v = .str x u) :
    ∀ (k i : Nat) (s : Shared), n - i = k → i ≤ n → St i s → (∃ ks, TxAt P w s.heap S ks ∧ ks.length ≤ i ∧ ∀ y, y ∈ ks ↔ y ∈ xs.take i) →
      (∀ s' ks, Moved (S :: wr) G s s' → TxAt P w s'.heap S ks → ks.length ≤ n → (∀ y, y ∈ ks ↔ y ∈ xs) → R (.ok (.ret .none)) s') → codeAny (model P w) A (.builtin "set.update.loop" ⟨[.ref S, .ref I], []⟩) R s := by
  have out : S ∉ wr := fun h => hSf (W.sub S h)
  have wider : ∀ b ∈ wr, b ∈ S :: wr := fun b hb => .tail _ hb
  intro k
  induction k with
  | zero =>
    rintro i s e le st ⟨ks, t, l, m⟩ q
    cases (show i = n by omega)
    refine codeAny_builtin PyProof.Rows.F.entry_set_update_loop ?_
    rw [Around.under_plainId PyProof.Rows.F.plain_set_update_loop _]
    show wpAny _ A.in1 (pyNext (.ref I) >>= fun _ => _) _ _ s
    refine wpAny_bind (W.done s _ _ st fun s2 mv => ?_)
    exact wpAny_pure (q s2 ks (mv.mono wider) (t.keep fun o z => mv.heap S o out z) l fun y => by rw [m y, ← hn, List.take_length])
  | succ k ih =>
    rintro i s e le st ⟨ks, t, l, m⟩ q
    have lt : i < n := by omega
    refine codeAny_builtin PyProof.Rows.F.entry_set_update_loop ?_
    rw [Around.under_plainId PyProof.Rows.F.plain_set_update_loop _]
    show wpAny _ A.in1 (pyNext (.ref I) >>= fun _ => _) _ _ s
    refine wpAny_bind (W.item i s _ _ lt st fun v s2 hv st2 mv => ?_)
    obtain ⟨x, u, hx, rfl⟩ := hval i v hv
    obtain ⟨D, hD, t2⟩ := t.keep (h' := s2.heap) fun o z => mv.heap S o out z
    have sb : ks.length < scanBound := by unfold scanBound; omega
    show wpAny _ A.in1 (holding [Value.str x u] (setAdd S (.str x u)) >>= fun _ => _) _ _ s2
    refine wpAny_bind (wpAny_holding ?_)
    unfold setAdd
    refine wpAny_holding (wpAny_bind ((PySem.strKind P w).pyHash (k := x) (Froz.is_str x u) ?_))
    have stay : ∀ (h' : Heap) (ks' : List Str), TxAt P w h' S ks' → ks'.length ≤ i + 1 → (∀ y, y ∈ ks' ↔ y ∈ xs.take (i + 1)) → (∀ c, c ≠ S → h'.get? c = s2.heap.get? c) →
        codeAny (model P w) A (.builtin "set.update.loop" ⟨[.ref S, .ref I], []⟩) R { s2 with heap := h', toks := s2.toks + 1 } := fun h' ks' t' l' m' oth => by
      refine ih (i + 1) _ (by omega) lt (W.frame _ s2 _ _ st2 (Nat.le_succ _) fun b hb o z => ?_) ⟨ks', t', l', m'⟩ fun s3 ks3 mv3 t3 l3 m3 => ?_
      · rw [oth b fun z2 => hSf (z2 ▸ hb)]; exact z
      · refine q s3 ks3 (Moved.trans W.gtrans ((mv.mono wider).then_heap (Nat.le_succ _) fun b o hb z => ?_) mv3) t3 l3 m3
        rw [oth b fun z2 => hb (z2 ▸ .head _)]; exact z
    by_cases hk : x ∈ ks
    · refine tx_dup (s := { s2 with toks := s2.toks + 1 }) hD t2 hk sb ?_
      exact wpAny_pure ⟨plainId_quiet PyProof.Rows.F.plain_set_update_loop _, stay s2.heap ks ⟨D, hD, t2⟩ (by omega) (fun y => by
        rw [take_mem hx, ← m y]
        exact ⟨.inl, fun z => z.elim id fun z => z ▸ hk⟩) fun _ _ => rfl⟩
    · refine Froz.add_x (s := { s2 with toks := s2.toks + 1 }) hD t2.ok hk (by unfold scanBound; omega) ?_
      refine wpAny_pure ⟨plainId_quiet PyProof.Rows.F.plain_set_update_loop _, stay _ (x :: ks) ⟨_, Froz.get_upd _ hD rfl, t2.add hk u⟩ (by simp; omega) (fun y => ?_) fun c hc => ?_⟩
      · rw [take_mem hx, ← m y, List.mem_cons]
        exact Or.comm
      · exact Heap.get?_update_other _ _ (Ne.symm hc)
end
end Dl

namespace Dl
open PySem PySem.Spec L2
open PyProof.Rows hiding St Binds
section
variable {P : Program} {w : World} {A : Around} {E : Value → Shared → Prop} {s : Shared}
abbrev setNew (w : World) : Obj := { cls := .type "set", dict := none, data := .set #[] 0 (.fresh 0 0 (!w.params.followText "set-order")) }
theorem txAt_new {h : Heap} {a : Addr} (ho : h.get? a = some (setNew w)) : TxAt P w h a [] :=
  ⟨(#[], 0, .fresh 0 0 (!w.params.followText "set-order")), ho, Froz.TxOk.nil rfl, List.nodup_nil, .refl _, fun e he => (List.not_mem_nil he).elim, List.Pairwise.nil, by
    show _ ∨ (!w.params.followText "set-order") = true
    cases w.params.followText "set-order" <;> simp⟩
/-- set(xs), xs a list of texts -/
theorem tx_call {l : Addr} {items : Array Value} {xs : List Str} {Q : Value → Shared → Prop} (hh : A.handled = none) (hl : s.heap.IsList l items) (hi : StrsAre items.toList xs) (few : xs.length < 1000)
    (k : ∀ (h' : Heap) (tk : Nat) (ks : List Str), TxAt P w h' s.heap.objs.size ks → ks.length ≤ xs.length → (∀ y, y ∈ ks ↔ y ∈ xs) → (∀ b o, s.heap.get? b = some o → h'.get? b = some o) → Q (.ref s.heap.objs.size) { s with heap := h', toks := tk }) :
    wpAny (model P w) A (call (.type "set") [.ref l]) Q E s := by
  have m1 := PySem.F.called_set.mro
  obtain ⟨c, tl, m1⟩ := m1
  have m2 := PySem.F.called_set.made; have m3 := PySem.F.called_set.sub; have m4 := PySem.F.called_set.notType; have m5 := PySem.F.called_set.canCreate; have m6 := PySem.F.typeCall_set_1 (.ref l)
  refine wpAny_call (codeAny_of_tree ?_); show wpAny _ _ (callAny (.type "set") _) _ _ _
  refine wpAny_pure ⟨Code.quiet_builtin _ (by decide +kernel), codeAny_builtin PySem.F.entry_type_call ?_⟩; rw [Around.under_plain (weight_type_call_type "set" [.ref l] []) rfl]
  repeat (any_goals (first | assumption | wp_step))
  refine codeAny_mono (L2.code_set_led1 (.ref l) (E := E) (Q₁ := fun v z => v = .ref s.heap.objs.size ∧ z = { s with heap := s.heap.push (setNew w) }) ⟨rfl, rfl⟩) fun r z hr => ?_
  match r, hr with
  | .error e, hr => exact hr
  | .ok .next, hr => exact hr.elim
  | .ok .brk, hr => exact hr.elim
  | .ok .cont, hr => exact hr.elim
  | .ok (.ret v), ⟨e1, e2⟩ =>
  subst e1 e2
  have hS : (s.heap.push (setNew w)).get? s.heap.objs.size = some (setNew w) := Heap.get?_push_size _ rfl
  have hT : Shared.TypeIs { s with heap := s.heap.push (setNew w) } (.ref s.heap.objs.size) "set" := ⟨_, hS, rfl⟩
  have n1 := PySem.F.called_set.init.lookup; have n2 := PySem.F.called_set.init.bind (.ref s.heap.objs.size)
  repeat (any_goals (first | assumption | wp_step))
  refine codeAny_mono (codeAny_call_builtin (R := wants (fun r z => r = .none ∧ ∃ h' tk ks, z = { s with heap := h', toks := tk } ∧ TxAt P w h' s.heap.objs.size ks ∧ ks.length ≤ xs.length ∧ (∀ y, y ∈ ks ↔ y ∈ xs) ∧ ∀ b o, s.heap.get? b = some o → h'.get? b = some o) E) PySem.F.called_set.init.plain PySem.F.entry_set_init (check_set_init_1 hT ?_)) fun r2 z2 hr2 => ?_
  · obtain ⟨⟨oc, od, odata, osl⟩, hol, hcl, nl, hdl⟩ := hl
    simp only at hcl hdl; subst hcl; subst hdl
    have hl1 : (s.heap.push (setNew w)).IsList l items := ⟨_, Heap.get?_push_of_some _ hol, rfl, nl, rfl⟩
    have hol' : (s.heap.push (setNew w)).get? l = some ⟨.type "list", od, .seq items nl, osl⟩ := Heap.get?_push_of_some _ hol
    have b1 := PySem.F.sub_list_set; have b2 := PySem.F.sub_list_frozenset; have b3 : (Value.type "list" == Value.type "dict") = false := by decide
    unfold Builtin.«set.__init__» noKeywords Builtin.Frozenset.updateFrom
    generalize hit : pyIter = it
    wp_walk
    subst hit
    have z1 : (s.heap.push (setNew w)).objs.size = s.heap.objs.size + 1 := Heap.size_push ..
    have hlS : l < s.heap.objs.size := Heap.lt_size hol
    have nI : l ≠ (s.heap.push (setNew w)).objs.size := by rw [z1]; exact Nat.ne_of_lt (Nat.lt_succ_of_lt hlS)
    have nS : s.heap.objs.size ∉ [(s.heap.push (setNew w)).objs.size, l] := by
      rw [z1]; simp only [List.mem_cons, List.not_mem_nil, or_false, not_or]; exact ⟨Nat.ne_of_lt (Nat.lt_succ_self _), Nat.ne_of_gt hlS⟩
    have sz : xs.length = items.size := by rw [← StrsAre.len_eq hi, Array.length_toList]
    have hd3 : A.in1.in1.in1.handled = none := by simp [hh]
    refine wpAny_pyIter_list hl1 (wpAny_bind (wpAny_runValue (tx_loop ((Walks.list hd3 _ l nI items).toS) s.heap.objs.size nS xs sz (by rw [← sz]; exact few) (fun i v hv => ?_) (items.size - 0) 0 _ (by omega) (Nat.zero_le _)
      ⟨⟨_, Heap.get?_push_size _ rfl, rfl, rfl⟩, hl1.push _⟩ ⟨[], txAt_new (Heap.get?_push_of_some _ hS), Nat.le_refl _, fun y => by simp⟩ fun s2 ks mv t l2 m => ?_)))
    · have hv' : items.toList[i]? = some v := by rw [Array.getElem?_toList]; exact hv
      obtain ⟨u, e⟩ := _root_.SS.strs_at hi i v hv'
      have lt : i < xs.length := by rw [sz, ← Array.length_toList]; exact (List.getElem?_eq_some_iff.mp hv').1
      exact ⟨xs[i], u, List.getElem?_eq_getElem lt, by rw [e]; simp [List.getD, lt]⟩
    · obtain ⟨h', g2, d2, tk2, os2⟩ := s2
      have e1 : g2 = s.gens := mv.gens
      have e2 : d2 = s.drawn := mv.drawn
      have e3 : os2 = s.os := mv.os
      subst e1 e2 e3
      show wpAny _ _ _ _ _ _
      refine wpAny_pure (show wpAny _ _ (ret Value.none) _ _ _ from wpAny_pure ⟨rfl, h', tk2, ks, rfl, t, by rw [sz]; exact l2, m, fun b o e => ?_⟩)
      have lb : b < s.heap.objs.size := Heap.lt_size e
      refine mv.heap b o (fun z => ?_) (Heap.get?_push_of_some _ (Heap.get?_push_of_some _ e))
      rw [z1] at z
      simp only [List.mem_cons, List.not_mem_nil, or_false] at z
      exact z.elim (fun z => Nat.ne_of_lt lb z) fun z => Nat.ne_of_lt (Nat.lt_succ_of_lt lb) z
  · match r2, hr2 with
    | .error e, hr2 => exact hr2
    | .ok .next, hr2 => exact hr2.elim
    | .ok .brk, hr2 => exact hr2.elim
    | .ok .cont, hr2 => exact hr2.elim
    | .ok (.ret v), ⟨e, h', tk, ks, ez, t, l2, m, kp⟩ =>
      subst e ez
      repeat (any_goals (first | assumption | wp_step))
      exact k h' tk ks t l2 m kp
/-- sorted(s), s a set of texts -/
theorem tx_sorted {a : Addr} {ks : List Str} {Q : Value → Shared → Prop} (t : TxAt P w s.heap a ks) (hh : A.handled = none) (h64 : ks.length < 64)
    (hQ : ∀ s' p (out : Array Value) (c : Nat) (ys : List Str), (∀ b o, s.heap.get? b = some o → s'.heap.get? b = some o) → s'.gens = s.gens → s'.os = s.os → s.heap.objs.size ≤ p → s'.heap.get? p = some (seqObj "list" out c) →
      StrsAre out.toList ys → ys.Perm ks → sortedS ys = true → Q (.ref p) s') : wpAny (model P w) A (call (.builtin "sorted") [.ref a]) Q E s := by
  obtain ⟨⟨es, ep, tb⟩, ho, t⟩ := t
  have hz : es.size = ks.length := t.ok.sz
  refine Calls.call_function_entry kind_sorted plain_sorted entry_sorted (args_sorted1 _) ?_; unfold Builtin.«sorted»
  refine wpAny_bind (m := checkCount "sorted" 1 1 _) (wpAny_pure (wpAny_bind (L2.collect_set (A := A.in1) hh ⟨_, ho, rfl, rfl⟩ t.ok.fit (show es.size < scanBound by unfold scanBound; omega) t.ri t.le fun s1 vs k1 z g1 o1 pm => ?_)))
  have hv : ∀ v ∈ vs, ∃ x u, v = Value.str x u := fun v hv => by
    obtain ⟨e, he, q⟩ := List.mem_map.mp (pm.mem_iff.mp hv)
    obtain ⟨x, u, q2⟩ := t.tx e he
    exact ⟨x, u, q.symm.trans q2⟩
  have hS := strsAre_map vs hv
  have pk : (vs.map strOf).Perm ks := by
    have q := pm.map strOf
    rw [List.map_map] at q
    exact q.trans t.pm
  have vl : vs.length = ks.length := by rw [← pk.length_eq, List.length_map]
  refine wpAny_bind (wpAny_newList ?_ (by rw [vl, sizeLine_eq]; omega))
  have hL : (s1.heap.push (seqObj "list" vs.toArray 0)).get? s1.heap.objs.size = some (seqObj "list" vs.toArray 0) := Heap.get?_push_size _ rfl
  refine wpAny_bind (wpAny_holding (wpAny_call_entry slot_list_sort ⟨_, hL, rfl⟩ entry_list_sort (list_sort_treeKAny strKind_oneLt hL hS.keysOf (fun v₁ v₂ r e => keyKind_strs (by rw [← e]; exact hS)) (by rw [vl, sizeLine_eq]; omega) fun st q1 q2 => ⟨_, rfl, ?_⟩) (args_list_sort _)))
  obtain ⟨c, hc⟩ := sortedHeap_at (vs := vs) (out := (arrOf st).map (·.2)) hL
  obtain ⟨ys, y1, y2, y3⟩ := sorted_out_str hS q1 q2
  refine wpAny_pure ⟨_, rfl, hQ _ s1.heap.objs.size ((arrOf st).map (·.2)) c ys (fun b o e => ?_) g1 o1 z hc y1 (y2.trans pk) y3⟩
  have lb := Heap.lt_size (k1 b o e)
  show (sortedHeap (s1.heap.push (seqObj "list" vs.toArray 0)) s1.heap.objs.size vs _).get? b = some o
  rw [sortedHeap_old (Nat.ne_of_lt lb) (by rw [size_push']; exact Nat.lt_succ_of_lt lb)]; exact Heap.get?_push_of_some _ (k1 b o e)
end
end Dl

namespace Dl
open PySem PySem.Spec L2
open PyProof.Rows hiding St Binds
def tSS (K : PySem.W.Frag) (ta : TE) : TE := fun σ H Q => ta σ H fun x H1 => ∃ (l : Addr) (xs : List Str), x = .ref l ∧ SqL K H1 l (xs.map V.str) ∧ xs.length < 1000 ∧ (∃ ns : List Str, ns.length < 64 ∧ ∀ y ∈ xs, y ∈ ns) ∧
  ∀ (ys : List Str) (p : Addr), ys.Nodup → (∀ y, y ∈ ys ↔ y ∈ xs) → sortedS ys = true → H1 p = none → Q (.ref p) (upd H1 p (.lst (ys.map V.str)))
section
variable {X : Cx} {a : Expr} {ta : TE} {p p2 q pos : Pos} {W : WX} {f : FE}
theorem sortSet_fin {pins : List (Addr × Obj)} {σ : L2.St} {H : Hp} {s : Shared} {l : Addr} {ks : List Str} {Q : VK} (hc : X.calm = true) (I : Inv X pins σ H s) (t : TxAt X.prog X.w s.heap l ks) (h64 : ks.length < 64)
    (k : ∀ (ys : List Str) (p : Addr), ys.Perm ks → ys.Nodup → sortedS ys = true → H p = none → Q (.ref p) (upd H p (.lst (ys.map V.str)))) : wpAny (model X.prog X.w) X.A (call (.builtin "sorted") [.ref l]) (EP X pins σ Q) X.xe s := by
  refine tx_sorted (P := X.prog) (w := X.w) t (I.ok.hd hc) h64 fun s' p out c ys kp eg eo lp hp hS pm so => ?_
  have hn : H p = none := I.hok.fresh lp
  have ol : (ys.map V.str).length ≤ sizeLine := by rw [List.length_map, pm.length_eq, sizeLine_eq]; omega
  obtain ⟨D, _, td⟩ := t
  have J : Inv X pins σ (upd H p (.lst (ys.map V.str))) { s with heap := s'.heap, gens := s'.gens, drawn := s'.drawn, toks := s'.toks } :=
    I.call (ch := []) (Un.laid kp lp hn) (I.hok.laid kp lp ⟨ol, out.toList, c, vals_of_strs hS, hp⟩) (by rw [eg]; exact I.bare) (fun _ z => nomatch z)
  have e : s' = { s with heap := s'.heap, gens := s'.gens, drawn := s'.drawn, toks := s'.toks } := by cases s'; cases s; cases eo; rfl
  rw [e]
  exact ⟨.ref p, _, J, rfl, k ys p pm (pm.nodup_iff.mpr td.nd) so hn⟩
theorem pe_sortSet (hc : X.calm = true) (hg : Gl X "sorted") (hm : X.mg "sorted" = none) (hg2 : Gl X "set") (hm2 : X.mg "set" = none) (ha : PE X a ta)
    (na : starEach [a] X.env = (false, eval a X.env) :: starEach [] X.env := by rfl) : PE X (.Call (.Name "sorted" p) [.Call (.Name "set" p2) [a] [] q] [] pos) (tSS X.K ta) := by
  refine ⟨fun pins s σ H Q I h => Call_ (ld_blt I hg hm (by rfl) ?_)⟩
  refine PyProof.Rows.callWith_builtin1 (PyProof.Rows.args_cons (Call_ (ld_blt I hg2 hm2 (by rfl) ?_)) rfl) rfl rfl
  refine PyProof.Rows.callWith_type1 (PyProof.Rows.args_cons (thn (ha.run pins s σ H _ I h) fun v s1 ⟨x, H1, I1, r1, q1⟩ => PyProof.Rows.args_nil ?_) na) na rfl
  obtain ⟨l, xs, rfl, hq, h64, ⟨ns, n64, sub⟩, q1⟩ := q1
  cases r1
  obtain ⟨its, rv, pl, hz⟩ := I1.list hq
  refine tx_call (P := X.prog) (w := X.w) (I1.ok.hd hc) pl.isList (by simpa using L2.strsAre_of rv) (by omega) fun h' tk ks t lk m keep => ?_
  have I2 : Inv X pins σ H1 { s1 with heap := h', toks := tk } := I1.kept keep
  refine PyProof.Rows.args_nil ?_
  have few : ks.length ≤ ns.length := by
    obtain ⟨D, _, td⟩ := t
    exact nodup_le td.nd fun y hy => sub y ((m y).mp hy)
  exact sortSet_fin hc I2 t (by omega) fun ys p pm nd so hn => q1 ys p nd (fun y => by rw [pm.mem_iff, m y]) so hn
/-- sorted(set(texts)) -/
def fSS (f : FE) : FE := fun ρ μ Q E => f ρ μ (fun d m => ∃ xs : List Str, asL m d = some (xs.map .str) ∧ xs.length < 1000 ∧ (∃ ns : List Str, ns.length < 64 ∧ ∀ y ∈ xs, y ∈ ns) ∧
  ∀ ys : List Str, ys.Nodup → (∀ y, y ∈ ys ↔ y ∈ xs) → sortedS ys = true → Q (.lst (ys.map .str)) m) E
theorem ats_strs {K : PySem.W.Frag} {ι : Io} {H : Hp} : ∀ {vs : List V} {ys : List Str}, Ats K ι H vs (ys.map D.str) → vs = ys.map V.str
  | vs, [], r => Ats.unnil r
  | vs, y :: ys, r => by
    obtain ⟨v, vs', rfl, a, r'⟩ := Ats.uncons (ds := ys.map D.str) (d := .str y) r
    cases a
    rw [ats_strs r']; rfl
theorem ats_of_strs {K : PySem.W.Frag} {ι : Io} {H : Hp} : ∀ (ys : List Str), Ats K ι H (ys.map V.str) (ys.map D.str)
  | [] => .nil
  | y :: ys => Ats.cons (.str y) (ats_of_strs ys)
theorem de_sortSet (hc : X.calm = true) (hg : Gl X "sorted") (hm : X.mg "sorted" = none) (hg2 : Gl X "set") (hm2 : X.mg "set" = none) (ha : DE X W a f)
    (na : starEach [a] X.env = (false, eval a X.env) :: starEach [] X.env := by rfl) : DE X W (.Call (.Name "sorted" p) [.Call (.Name "set" p2) [a] [] q] [] pos) (fSS f) :=
  ⟨fun ρ μ Q Q' E E' hq he z => ha.mono ρ μ _ _ E E' (fun d m ⟨xs, e, l, l2, z⟩ => ⟨xs, e, l, l2, fun ys h1 h2 h3 => hq _ _ (z ys h1 h2 h3)⟩) he z,
   PE.imp (pe_sortSet hc hg hm hg2 hm2 ha.run na) fun σ H Q ⟨ι, ρ, μ, r, l, z⟩ => chain1 ha.mono r l z fun d μ1 ι1 H1 v ⟨xs, e, lx, l2, z⟩ g1 r1 l1 a1 => by
    obtain ⟨b, vs, rfl, hb, hv⟩ := asL_at r1 a1 e
    cases ats_strs hv
    exact ⟨b, xs, rfl, SqL.of hb, lx, l2, fun ys p h1 h2 h3 hp => z ys h1 h2 h3 ι1 _ _ (g1.trans (Gr.new hp (r1.free hp))) (r1.new hp) (.newL hp (r1.free hp) (ats_of_strs ys))⟩⟩
end
/-! ints bit by bit -/
section
variable {X : Cx}

end
end Dl

/-! DlH: enumerate(zip(a, b)): the zip's pair stays out, so its next turn finds it held or gone. -/
namespace Dl
open PySem
open PySem.Sem (wp)

/-- a zip in any of its moods: v tells which pair is out -/
abbrev ZX (h : Heap) (z TI TO : Addr) (v : Value) (f : Bool) : Prop :=
  h.get? z = some { cls := .type "zip", dict := none, data := .fields #[v, .bool f, .bool false, .ref TI, .ref TO], slots := #[] }
def Mood (v : Value) : Prop := v = .none ∨ ∃ T : Addr, v = rawInt T
abbrev P2 (h : Heap) (T : Addr) (x y : Value) : Prop := h.get? T = some { cls := .type "tuple", data := .seq #[x, y] }
section
variable {prog : Program} {w : World} {A : Around} {E : Value → Shared → Prop} {s : Shared} {z TI TO i1 i2 : Addr} {fa fb : List Addr} {na nb k : Nat} {Pa Pb : Nat → Value → Prop} {Sa Sb : Nat → Heap → Prop} {v : Value} {f : Bool}

/-- the state of a zip of two iterators -/
def ZS (z TI TO i1 i2 : Addr) (Sa Sb : Nat → Heap → Prop) (k : Nat) (h : Heap) : Prop :=
  (∃ v f, ZX h z TI TO v f ∧ Mood v) ∧ P2 h TI (.ref i1) (.ref i2) ∧ (∃ x y, P2 h TO x y) ∧ Sa k h ∧ Sb k h

end

/-! ### one is made -/
end Dl

/-! DlHa: for i, (x, y) in enumerate(zip(xs, ys)), two lists or two tuples. -/
namespace Dl
open PySem PySem.Spec L2
open PyProof.Rows hiding St Binds

theorem ZS.imp {z TI TO i1 i2 : Addr} {Sa Sb Ta Tb : Nat → Heap → Prop} {k : Nat} {h : Heap} (a : ZS z TI TO i1 i2 Sa Sb k h) (f : Sa k h → Ta k h) (g : Sb k h → Tb k h) : ZS z TI TO i1 i2 Ta Tb k h :=
  ⟨a.1, a.2.1, a.2.2.1, f a.2.2.2.1, g a.2.2.2.2⟩
/-- lists, or tuples: how the ghost and the heap tell of them and of their iterators -/
structure SeqK (P : Program) (w : World) (K : PySem.W.Frag) (R : Hp → Addr → List V → Prop) (IsI : Heap → Addr → Addr → Nat → Prop) (IsS : Heap → Addr → Array Value → Prop) : Prop where
  inv : ∀ {X : Cx} {pins : List (Addr × Obj)} {σ : L2.St} {H : Hp} {s : Shared} {a : Addr} {xs : List V}, X.K = K → Inv X pins σ H s → R H a xs → ∃ its : List Value, Vals xs its ∧ IsS s.heap a its.toArray
  inj : ∀ {X : Cx} {pins : List (Addr × Obj)} {σ : L2.St} {H : Hp} {s : Shared} {a : Addr} {xs ys : List V}, X.K = K → Inv X pins σ H s → R H a xs → R H a ys → xs = ys
  draws : ∀ (A : Around) (i a : Addr) (its : Array Value), A.handled = none → a ≠ i → Draws P w A i [i, a] its.size (fun k v => its[k]? = some v) (fun k h => IsI h i a k ∧ IsS h a its)
  stays : ∀ {h h' : Heap} {i a : Addr} {k : Nat}, IsI h i a k → (∀ o, h.get? i = some o → h'.get? i = some o) → IsI h' i a k
  obj : ∀ {h : Heap} {i a : Addr} {k : Nat}, IsI h i a k → ∃ o, h.get? i = some o ∧ ∀ v, o.data ≠ .cell v
theorem seqk_list {P : Program} {w : World} {K : PySem.W.Frag} : SeqK P w K (SqL K) (fun h i a k => h.IsListIter i a k) (fun h a its => h.IsList a its) where
  inv := fun {X} _ _ _ _ _ _ e I q => by
    subst e
    obtain ⟨its, r, p, _⟩ := I.list q
    exact ⟨its, r, p.isList⟩
  inj := fun {X} _ _ _ _ _ _ _ e I q q' => by subst e; exact I.list_inj q q'
  draws := fun A i a its hh ne => Draws.list hh i a ne its
  stays := fun q k => q.at k
  obj := fun ⟨o, e, _, d⟩ => ⟨o, e, fun v z => by rw [d] at z; cases z⟩
theorem seqk_tup {P : Program} {w : World} {K : PySem.W.Frag} : SeqK P w K (SqT K) (fun h i a k => h.IsTupleIter i a k) (fun h a its => h.IsTuple a its) where
  inv := fun {X} _ _ _ _ _ _ e I q => by
    subst e
    obtain ⟨its, r, p, _⟩ := I.tuple q
    exact ⟨its, r, p⟩
  inj := fun {X} _ _ _ _ _ _ _ e I q q' => by subst e; exact I.tuple_inj q q'
  draws := fun A i a its hh ne => Draws.tuple hh i a ne its
  stays := fun q k => q.at k
  obj := fun ⟨o, e, _, d⟩ => ⟨o, e, fun v z => by rw [d] at z; cases z⟩

theorem ZS.keep {z TI TO i1 i2 : Addr} {Sa Sb : Nat → Heap → Prop} {k : Nat} {h h' : Heap} (st : ZS z TI TO i1 i2 Sa Sb k h) (f : ∀ b ∈ [z, TI, TO], ∀ o, h.get? b = some o → h'.get? b = some o) (fa : Sa k h → Sa k h') (fb : Sb k h → Sb k h') : ZS z TI TO i1 i2 Sa Sb k h' := by
  obtain ⟨⟨v, g, hz, mo⟩, hI, ⟨x, y, hO⟩, a, b⟩ := st
  exact ⟨⟨v, g, f z (by simp) _ hz, mo⟩, f TI (by simp) _ hI, ⟨x, y, f TO (by simp) _ hO⟩, fa a, fb b⟩

/-! ### the loop's head -/
theorem neq {a b : Nat} (h : a ≠ b) : ¬ ((a : Addr) = (b : Addr)) := h
/-! ### at values -/
def Keeps (K : PySem.W.Frag) (R : Hp → Addr → List V → Prop) (a : Addr) (ι : Io) (H : Hp) (xs : List D) (st : Sto → Prop) : Prop :=
  ∀ ι' H' μ', Gr ι H ι' H' → Rep K ι' μ' H' → st μ' → ∃ vs, R H' a vs ∧ Ats K ι' H' vs xs
theorem keeps_tup {K : PySem.W.Frag} {a : Addr} {ι : Io} {H : Hp} {xs : List D} {st : Sto → Prop} (h : At K ι H (.ref a) (.tup xs)) : Keeps K (SqT K) a ι H xs st := fun ι' H' μ' g r s => by
  obtain ⟨p, vs, e, h1, h2⟩ := tup_at (h.gr g)
  cases e
  exact ⟨vs, h1, h2⟩
theorem keeps_lst {K : PySem.W.Frag} {a : Addr} {ι : Io} {H : Hp} {d : D} {xs : List D} {st : Sto → Prop} (h : At K ι H (.ref a) d) (f : ∀ m, st m → asL m d = some xs) : Keeps K (SqL K) a ι H xs st := fun ι' H' μ' g r s => by
  obtain ⟨p, vs, e, h1, h2⟩ := asL_at r (h.gr g) (f _ s)
  cases e
  exact ⟨vs, SqL.of h1, h2⟩
section
variable {X : Cx} {W : WX} {a b : Expr} {fl : FA} {p p2 pos pos2 tpos : Pos} {elts : List Expr} {kk : Nat}
end
end Dl

/-! DlHb: for i, x in enumerate(xs), a list or a tuple. -/
namespace Dl
open PySem PySem.Spec L2
open PyProof.Rows hiding St Binds

set_option maxHeartbeats 8000000 in
theorem en_new_any {v : Value} {ob : Obj} {HH : Heap → Prop} (B : Begins v ob HH) : Meets (Builtin.«enumerate.__new__» ⟨[.type "enumerate", v], []⟩) (fun _ R sh => HH sh.heap ∧
    R (.ok (.ret (.ref (sh.heap.push ob).objs.size))) { sh with heap := (sh.heap.push ob).push { cls := .type "enumerate", data := .fields #[.none, .bool false, .ref sh.heap.objs.size, rawInt 0, .none, .none] } }) :=
  .of_wp fun pr wd Ar R sh hh => by
    obtain ⟨hp, gs, dr, tt, oo⟩ := sh
    obtain ⟨hz, hR⟩ := hh
    have su := sub_enumerate
    have it1 : ∀ {A' : Around} {E' : Value → Shared → Prop} {Q' : Value → Shared → Prop}, Q' (.ref hp.objs.size) ⟨hp.push ob, gs, dr, tt, oo⟩ → wpAny (model pr wd) A' (pyIter v) Q' E' ⟨hp, gs, dr, tt, oo⟩ :=
      fun qq => B.iter pr wd _ _ ⟨hp, gs, dr, tt, oo⟩ _ hz qq
    wp_walk using it1
    refine wpAny_stack_any fun _ => wpAny_pure ?_
    split
    · rename_i cc _ _ _ _ _
      cases (cc == Value.type "enumerate") <;> (wp_walk using it1; exact ⟨_, rfl, hR⟩)
    · wp_walk using it1
      exact ⟨_, rfl, hR⟩
theorem call_en_any {prog : Program} {w : World} {A : Around} {E : Value → Shared → Prop} {s : Shared} {v : Value} {ob : Obj} {HH : Heap → Prop} {Q : Value → Shared → Prop} (B : Begins v ob HH) (hh : HH s.heap)
    (h : ∀ h', IsEnum h' (s.heap.objs.size + 1) s.heap.objs.size 0 .none → h'.get? s.heap.objs.size = some ob → (∀ b o, s.heap.get? b = some o → h'.get? b = some o) → Q (.ref (s.heap.objs.size + 1)) { s with heap := h' }) :
    wpAny (model prog w) A (call (.type "enumerate") [v]) Q E s := by
  refine callType_new F.called_enumerate (by decide) (F.typeCall_enumerate_1 _) (F.newCall_enumerate_1 _) (fun o => F.args_object_init_2 o _) F.entry_enumerate_new (en_new_any B) ⟨hh, ?_⟩
  have sz : (s.heap.push ob).objs.size = s.heap.objs.size + 1 := Heap.size_push ..
  show _ ∧ _
  rw [sz]
  have e0 : IsEnum ((s.heap.push ob).push { cls := .type "enumerate", data := .fields #[.none, .bool false, .ref s.heap.objs.size, rawInt 0, .none, .none] }) (s.heap.objs.size + 1) s.heap.objs.size 0 .none := by
    have q := Heap.get?_push_size (s.heap.push ob) (o := { cls := .type "enumerate", data := .fields #[.none, .bool false, .ref s.heap.objs.size, rawInt 0, .none, .none] }) rfl
    rw [sz] at q
    exact q
  exact ⟨⟨_, e0, rfl⟩, h _ e0 (Heap.get?_push_of_some _ (Heap.get?_push_size _ B.free)) fun b o q => Heap.get?_push_of_some _ (Heap.get?_push_of_some _ q)⟩

/-- what is walked: new pairs of an index and an item -/
def Ien (R : Hp → Addr → List V → Prop) (a : Addr) : It :=
  ⟨fun i H => ∃ xs x, R H a xs ∧ xs[i]? = some x,
   fun i H v H' => ∃ U x, v = .ref U ∧ H U = none ∧ H' = upd H U (.tup [.int (i : Nat), x]) ∧ ∀ xs, R H a xs → xs[i]? = some x,
   fun i H => ∃ xs, R H a xs ∧ xs.length = i⟩
theorem turn_en {P : Program} {w : World} {K : PySem.W.Frag} {R : Hp → Addr → List V → Prop} {J : Heap → Addr → Addr → Nat → Prop} {S : Heap → Addr → Array Value → Prop} (k : SeqK P w K R J S)
    {elts : List Expr} {kk : Nat} {tpos : Pos} {en it a : Addr} (n1 : en ≠ it) (n2 : en ≠ a) (n3 : a ≠ it) :
    Turn P w K (.Tuple elts kk tpos) (Ien R a) [en, it] en (fun i h => (∃ old, IsEnum h en it ((i : Nat) : Int) old) ∧ J h it a i) where
  mem := by simp
  obj := fun i h st c hc => by
    obtain ⟨⟨old, he⟩, q⟩ := st
    simp only [List.mem_cons, List.not_mem_nil, or_false] at hc
    rcases hc with e | e <;> subst e
    · exact ⟨_, he, fun v q => nomatch q⟩
    · exact k.obj q
  keep := fun i h h' st kp => by
    obtain ⟨⟨old, he⟩, q⟩ := st
    exact ⟨⟨old, kp en (by simp) _ he⟩, k.stays q fun o e => kp it (by simp) o e⟩
  item := by
    intro X hP hw hK hc i pins s σ H E I hf st hg
    obtain ⟨⟨old, he⟩, q⟩ := st
    obtain ⟨xs, x, hq, hx⟩ := hg
    obtain ⟨its, rv, p⟩ := k.inv hK I hq
    obtain ⟨u, hu, ru⟩ := rv.get hx
    have hd : X.A.handled = none := I.ok.hd hc
    have ka : i < its.toArray.size := by simpa using (List.getElem?_eq_some_iff.mp hu).1
    have lt : ∀ c ∈ [en, it], c < s.heap.objs.size := fun c hm => by
      simp only [List.mem_cons, List.not_mem_nil, or_false] at hm
      rcases hm with e | e <;> subst e
      · exact Heap.lt_size he
      · obtain ⟨_, e, _⟩ := k.obj q; exact Heap.lt_size e
    refine wpAny_pyNext_enum_itemD (k.draws X.A.in1 it a its.toArray hd n3) he ⟨q, p⟩ ka n1 (by simp [n1, n2]) fun x' h' tk px ho st2 hT hsz hk => ?_
    have ex : x' = u := by simp at px; rw [hu] at px; exact (Option.some.inj px).symm
    subst ex
    refine ⟨_, rfl, wpAny_letOwnedTupleGo_enum (s := { s with heap := h', toks := tk + 1 }) ho fun h'' he' sb => ?_⟩
    replace sb : Heap.SameBut en h' h'' := sb
    have nU : s.heap.objs.size ≠ en := Nat.ne_of_gt (lt en (by simp))
    have sm2 : ∀ c o, c ∉ [en, it] → s.heap.get? c = some o → h''.get? c = some o := fun c o hm q => by
      simp only [List.mem_cons, List.not_mem_nil, or_false, not_or] at hm
      exact sb.extBut _ _ hm.1 (hk c o hm.1 hm.2 q)
    have new : ObjOk X.prog X.w (upd H s.heap.objs.size (.tup [.int (i : Nat), x])) h'' s.heap.objs.size (.tup [.int (i : Nat), x]) :=
      ⟨by show 2 ≤ sizeLine; decide, [.int i tk, x'], .cons ⟨_, rfl⟩ (.cons ru .nil), ⟨_, sb.extBut _ _ nU hT, rfl, _, rfl⟩⟩
    refine ⟨.ref s.heap.objs.size, _, I.turnedNew (h' := h'') (t' := tk + 1) sm2 hf (Nat.le_refl _) new, rfl, ⟨_, x, rfl, I.hok.fresh (Nat.le_refl _), rfl, fun l hl => ?_⟩, ⟨⟨x', ?_⟩, k.stays st2.1 fun o e => sb.extBut _ _ (Ne.symm n1) e⟩, fun c hm => ?_⟩
    · rw [k.inj hK I hl hq]; exact hx
    · have e1 : ((i + 1 : Nat) : Int) = (i : Int) + 1 := by omega
      rw [e1]; exact he'
    · rw [upd_ne (Nat.ne_of_lt (lt c hm))]
      exact (hf c hm).1
  done := by
    intro X hP hw hK hc i pins s σ H E I hf st hg
    obtain ⟨⟨old, he⟩, q⟩ := st
    obtain ⟨xs, hq, hl⟩ := hg
    obtain ⟨its, rv, p⟩ := k.inv hK I hq
    have l1 := rv.length
    have hd : X.A.handled = none := I.ok.hd hc
    have en1 : its.toArray.size = i := by simp; omega
    refine wpAny_pyNext_enum_endD (k.draws X.A.in1 it a its.toArray hd n3) he (by rw [en1]; exact ⟨q, p⟩) fun h' eb => ⟨rfl, I.turnedL (t' := s.toks) (ch := [en, it]) (fun c o hm q => eb c o (fun w => hm (by simp [w])) q) hf⟩
  self := fun A i s Q E st h => let ⟨⟨_, he⟩, _⟩ := st; wpAny_pyIter_enum he h

def iEN (K : PySem.W.Frag) (te : TE) : TI := fun σ H R => te σ H fun v H1 => ∃ a xs, v = .ref a ∧ ((SqL K H1 a xs ∧ R (Ien (SqL K) a) H1) ∨ (SqT K H1 a xs ∧ R (Ien (SqT K) a) H1))
theorem pi_en {X : Cx} {e : Expr} {te : TE} {p pos tpos : Pos} {elts : List Expr} {kk : Nat} (hg : Gl X "enumerate") (hm : X.mg "enumerate" = none) (ha : PE X e te)
    (hs : starEach [e] X.env = [(false, eval e X.env)] := by rfl) :
    PI X (.Tuple elts kk tpos) (.Call (.Name "enumerate" p) [e] [] pos) (iEN X.K te) := by
  refine ⟨fun pins s σ H R I h => ?_⟩
  refine Call_ (ld_blt I hg hm boot_enumerate (PyProof.Rows.callWith_type1 (PyProof.Rows.spliced_more (thn (ha.run pins s σ H _ I h) fun u s1 ⟨v, H1, I1, r1, a, xs, ev, q1⟩ => ?_) hs) hs rfl))
  subst ev
  obtain rfl : u = Value.ref a := r1
  refine PyProof.Rows.spliced_none ?_
  have old : ∀ c ∈ [s1.heap.objs.size + 1, s1.heap.objs.size], FpOk X pins H1 c := fun c hm => by
    have le : s1.heap.objs.size ≤ c := by
      simp only [List.mem_cons, List.not_mem_nil, or_false] at hm
      rcases hm with e | e <;> (subst e; first | exact Nat.le_refl _ | exact Nat.le_add_right _ _)
    exact I1.fpOk le (I1.hok.fresh le)
  rcases q1 with ⟨hx, q⟩ | ⟨hx, q⟩
  · obtain ⟨its, _, p1, _⟩ := I1.list hx
    have la : a < s1.heap.objs.size := p1.lt
    refine call_en_any (begins_list a its.toArray) p1.isList fun h' he ho kp => wpAny_pyIter_enum he ?_
    exact ⟨_, _, _, _, H1, rfl, I1.kept (t' := s1.toks) kp, turn_en seqk_list (neq (by omega)) (neq (Nat.ne_of_gt (Nat.lt_succ_of_lt la))) (neq (Nat.ne_of_lt la)), ⟨⟨_, he⟩, ⟨_, ho, rfl, rfl⟩⟩, old, q⟩
  · obtain ⟨its, _, p1, _⟩ := I1.tuple hx
    have la : a < s1.heap.objs.size := by obtain ⟨o, e, _⟩ := id p1; exact Heap.lt_size e
    refine call_en_any (begins_tuple a its.toArray) p1 fun h' he ho kp => wpAny_pyIter_enum he ?_
    exact ⟨_, _, _, _, H1, rfl, I1.kept (t' := s1.toks) kp, turn_en seqk_tup (neq (by omega)) (neq (Nat.ne_of_gt (Nat.lt_succ_of_lt la))) (neq (Nat.ne_of_lt la)), ⟨⟨_, he⟩, ⟨_, ho, rfl, rfl⟩⟩, old, q⟩

/-! ### at values -/
def enL (xs : List D) : List D := (List.range xs.length).map fun i => D.tup [.int (i : Nat), xs.getD i .non]
theorem enL_len {xs : List D} : (enL xs).length = xs.length := by simp [enL]
theorem enL_get {xs : List D} {i : Nat} {d : D} (h : (enL xs)[i]? = some d) : ∃ x, xs[i]? = some x ∧ d = .tup [.int (i : Nat), x] := by
  have hi : i < xs.length := by rw [← enL_len]; exact (List.getElem?_eq_some_iff.mp h).1
  have h1 : xs[i]? = some xs[i] := List.getElem?_eq_getElem hi
  refine ⟨_, h1, ?_⟩
  simp only [enL, List.getElem?_map, List.getElem?_range hi, Option.map_some, List.getD_eq_getElem?_getD, h1, Option.getD_some] at h
  exact (Option.some.inj h).symm
theorem walks_en {K : PySem.W.Frag} {R : Hp → Addr → List V → Prop} {a : Addr} {ι : Io} {H : Hp} {xs : List D} {st : Sto → Prop} (k1 : Keeps K R a ι H xs st) : Walks K (Ien R a) ι H (enL xs) st := by
  refine ⟨fun ι' H' μ' i d g r s hx => ?_, fun ι' H' μ' i g r s hx => ?_⟩
  · obtain ⟨x, h1, rfl⟩ := enL_get hx
    obtain ⟨vs, q1, a1⟩ := k1 ι' H' μ' g r s
    obtain ⟨v, e1, av⟩ := a1.get h1
    refine ⟨⟨vs, v, q1, e1⟩, fun u H2 hy => ?_⟩
    obtain ⟨U, v', rfl, hU, rfl, f1⟩ := hy
    have ev : v' = v := by have := f1 vs q1; rw [e1] at this; exact (Option.some.inj this).symm
    subst ev
    exact ⟨Gr.new hU (r.free hU), r.new hU, .newT hU (r.free hU) (Ats.cons (.int _) (Ats.cons av Ats.nil))⟩
  · obtain ⟨vs, q1, a1⟩ := k1 ι' H' μ' g r s
    rw [enL_len] at hx
    exact ⟨vs, q1, by rw [a1.1]; exact hx⟩
/-- a tuple, or a list -/
def iEn (f : FE) : FI := fun ρ μ Q E => f ρ μ (fun d m => ∃ xs, (d = .tup xs ∧ Q (enL xs) (fun _ => True) m) ∨ (asL m d = some xs ∧ Q (enL xs) (fun m' => asL m' d = some xs) m)) E
section
variable {X : Cx} {W : WX} {e a b : Expr} {f : FE} {p p2 pos pos2 tpos : Pos} {elts : List Expr} {kk : Nat}
theorem di_en (hg : Gl X "enumerate") (hm : X.mg "enumerate" = none) (ha : DE X W e f) (hs : starEach [e] X.env = [(false, eval e X.env)] := by rfl) :
    DI X W (.Tuple elts kk tpos) (.Call (.Name "enumerate" p) [e] [] pos) (iEn f) :=
  ⟨fun ρ μ Q Q' E E' h he q => ha.mono ρ μ _ _ E E' (fun d m ⟨xs, z⟩ => ⟨xs, z.elim (fun ⟨e1, z⟩ => .inl ⟨e1, h _ _ _ z⟩) fun ⟨e1, z⟩ => .inr ⟨e1, h _ _ _ z⟩⟩) he q,
   PI.imp (pi_en hg hm ha.run hs) fun σ H R ⟨ι, ρ, μ, r, l, q⟩ => chain1 ha.mono r l q fun d μ1 ι1 H1 v q1 g1 r1 l1 a1 => by
    obtain ⟨xs, z⟩ := q1
    rcases z with ⟨rfl, z⟩ | ⟨e1, z⟩
    · obtain ⟨p1, us, rfl, h1, _⟩ := tup_at a1
      exact ⟨p1, us, rfl, .inr ⟨h1, z ι1 H1 _ g1 r1 (walks_en (keeps_tup a1))⟩⟩
    · obtain ⟨p1, us, rfl, h1, _⟩ := asL_at r1 a1 e1
      exact ⟨p1, us, rfl, .inl ⟨SqL.of h1, z ι1 H1 _ g1 r1 (walks_en (keeps_lst a1 fun m q => q))⟩⟩⟩
end
end Dl

/-! DlHc: defs of a class, constants of the module, isinstance with two types, == of dicts. -/
namespace Dl
open PySem PySem.Spec L2
open PyProof.Rows hiding St Binds

section
variable {P : Program} {w : World} {K : PySem.W.Frag} {mg : Str → Option Value} {base : Heap} {x cn qual : Str} {st : Stmt} {C f : Addr} {fd : FuncData} {N ps : List Str} {k : Nat} {F : FD} {fs : FS}
/-- a class by its __init__ -/
theorem mak_fun (Fu : FunA K x qual st f fd) (S : FnScope N ps (defScope st)) (hm : mg cn = some (.ref C)) (M : Mk K C f) (hb : L2.Binds K fd ps []) (mono : MonF F) (len : ∀ ds μ Q E, F ds μ Q E → ds.length = ps.length)
    (body : ∀ (cdv : Value) (A : Around) (outer : List Env) (s : Shared) (H : Hp) (E : XK), (A.deeper (envOfC qual (defScope st) s.heap.objs.size f cdv)).guards = some [] → Room k (A.deeper (envOfC qual (defScope st) s.heap.objs.size f cdv)) →
      DB (cxOf (L2.CX P w) P w K mg base N qual (defScope st) f cdv A outer s H E) (fun c d _ H' => E c d H') (defBody st) fs)
    (sem : ∀ ds μ Q E, F ds μ Q E → fs (endK μ.length Q E) (startD N.length ds) μ) : Mak P w K mg base (k + 1) cn C F [] :=
  ⟨mono, f, fd, ps, [], [], fn_body Fu S len body sem, hm, M, hb, .nil, fun _ _ => Ats.nil⟩
/-- a method -/
theorem met_fun (Fu : FunA K x qual st f fd) (S : FnScope N ps (defScope st)) (c : Cls K C) (M : Meth K C x f) (hb : L2.Binds K fd ps []) (mono : MonF F) (len : ∀ ds μ Q E, F ds μ Q E → ds.length = ps.length)
    (body : ∀ (cdv : Value) (A : Around) (outer : List Env) (s : Shared) (H : Hp) (E : XK), (A.deeper (envOfC qual (defScope st) s.heap.objs.size f cdv)).guards = some [] → Room k (A.deeper (envOfC qual (defScope st) s.heap.objs.size f cdv)) →
      DB (cxOf (L2.CX P w) P w K mg base N qual (defScope st) f cdv A outer s H E) (fun c d _ H' => E c d H') (defBody st) fs)
    (sem : ∀ ds μ Q E, F ds μ Q E → fs (endK μ.length Q E) (startD N.length ds) μ) : Met P w K mg base (k + 1) C x F [] :=
  ⟨mono, c, f, fd, ps, [], [], fn_body Fu S len body sem, M, hb, .nil, fun _ _ => Ats.nil⟩
/-- a def with one default None, by its object, and its binding when all is given -/
theorem fun_mk1 {oc : Value} {od an : Option Addr} {osl : Array (Option Value)} {dV kV doc pm cdv ct : Value} (l : K.lookup f = some ⟨oc, od, .func (PySem.W.fnOf x qual (defArgs st) (defBody st) (defScope st) dV kV doc pm an cdv ct), osl⟩) (c : PySem.W.codeIn K cdv qual = true) :
    FunA K x qual st f (PySem.W.fnOf x qual (defArgs st) (defBody st) (defScope st) dV kV doc pm an cdv ct) := ⟨_, _, _, _, _, _, _, _, _, _, rfl, l, c⟩
end

section
variable {X : Cx} {W : WX} {a b e : Expr} {es : List Expr} {f fa fb : FE} {fl : FA} {pos p tpos : Pos} {x : Str}
theorem de_mi {i : Int} {t : Tok} (hg : Gl X x) (hm : X.mg x = some (.int i t)) (hd : (x == ("__debug__" : Str)) = false := by decide) : DE X W (.Name x pos) (fC (.int i)) := de_k (pe_glob (v := .int i) hg hm ⟨_, rfl⟩ hd) fun _ _ => .int i
/-- a tuple of texts that stands in the module -/
theorem strs_ats {K : PySem.W.Frag} {ι : Io} {H : Hp} : ∀ ss : List Str, Ats K ι H (ss.map V.str) (ss.map D.str)
  | [] => Ats.nil
  | s :: ss => Ats.cons (.str s) (strs_ats ss)
theorem de_mt {T : Addr} {ss : List Str} (hg : Gl X x) (hm : X.mg x = some (.ref T)) (lT : ∀ H0 : Hp, SqT X.K H0 T (ss.map V.str)) (hd : (x == ("__debug__" : Str)) = false := by decide) : DE X W (.Name x pos) (fC (.tup (ss.map .str))) :=
  de_k (pe_glob (v := .ref T) hg hm rfl hd) fun ι H => .ktup lT (by simp) (strs_ats (K := X.K) (ι := ι) (H := H) ss).2
/-! ### isinstance(x, (A, B)), built-in types -/
end
end Dl

/-! DlHd: comprehensions whose step needs bounds; comprehensions that make a dict. -/
namespace Dl
open PySem PySem.Spec L2
open PyProof.Rows hiding St Binds
theorem bdS_lst {m : Sto} {acc : List D} (bm : bdS m.length m = true) (h : bdL m.length acc = true) : bdS (m ++ [CT.lst acc]).length (m ++ [CT.lst acc]) = true := by
  rw [bdS_app, Bool.and_eq_true]
  have le : m.length ≤ (m ++ [CT.lst acc]).length := by simp
  exact ⟨bdS_mono le bm, by
    show ([CT.lst acc].all (CT.bd _)) = true
    rw [List.all_cons, List.all_nil, Bool.and_true]
    exact bdL_mono le h⟩
section
variable {g : FG} {ft : FT} {fe fk fv : FE} {vs : List Nat} {ρ : Rho} {Q : QD}
theorem lc_pureB {xs : List D} {st : Sto → Prop} {m : Sto} (p : D → Option D) (hst : ∀ c, st (m ++ [.lst c]))
    (turn : ∀ x, x ∈ xs → ∀ (acc : List D), bdS (m ++ [CT.lst acc]).length (m ++ [CT.lst acc]) = true → ∀ (NX : D → Sto → Prop) (N0 : Sto → Prop), (∀ y, p x = some y → NX y (m ++ [.lst acc])) → (p x = none → N0 (m ++ [.lst acc])) →
      g x (wipeD ρ vs) (m ++ [.lst acc]) (fun ρ2 μ2 => ft ρ2 μ2 (fun b m3 => if b = true then fe ρ2 m3 NX NE else N0 m3) NE))
    (hl : xs.length ≤ sizeLine) (bd : bdL m.length (xs.filterMap p) = true) (bm : bdS m.length m = true) (q : Q (.lst (xs.filterMap p)) m) :
    ∃ I : Nat → Sto → Prop, I 0 (m ++ [.lst []]) ∧ (∀ i μ', I i μ' → st μ') ∧
      (∀ i x μ', xs[i]? = some x → I i μ' → g x (wipeD ρ vs) μ' (fun ρ2 μ2 => ft ρ2 μ2 (fun b m3 =>
        if b = true then fe ρ2 m3 (fun y m4 => ∃ acc, m4[m.length]? = some (.lst acc) ∧ acc.length < sizeLine ∧ I (i + 1) (m4.set m.length (.lst (acc ++ [y])))) NE else I (i + 1) m3) NE)) ∧
      ∀ μ', I xs.length μ' → ∃ d2 μ2, Fz m.length (.cell m.length) μ' d2 μ2 ∧ Q d2 μ2 := by
  have fl : ∀ l : List D, (l.filterMap p).length ≤ l.length := fun l => List.length_filterMap_le p l
  refine ⟨fun i μ' => μ' = m ++ [.lst ((xs.take i).filterMap p)], rfl, fun i μ' e => by rw [e]; exact hst _, ?_, ?_⟩
  · rintro i x μ' hx rfl
    have ht : xs.take (i + 1) = xs.take i ++ [x] := by rw [List.take_add_one, hx]; rfl
    have bt : bdL m.length ((xs.take i).filterMap p) = true := bdL_all.mpr fun d hd => by
      obtain ⟨y, hy, e⟩ := List.mem_filterMap.mp hd
      exact bdL_all.mp bd d (List.mem_filterMap.mpr ⟨y, List.mem_of_mem_take hy, e⟩)
    refine turn x (List.mem_of_getElem? hx) _ (bdS_lst bm bt) _ _ (fun y hy => ⟨(xs.take i).filterMap p, by simp, ?_, ?_⟩) (fun hn => ?_)
    · have h1 := fl (xs.take i)
      have h2 : (xs.take i).length ≤ i := by rw [List.length_take]; omega
      have h3 := (List.getElem?_eq_some_iff.mp hx).1
      omega
    · dsimp only
      rw [List.set_append_right _ _ (Nat.le_refl _), Nat.sub_self, ht, List.filterMap_append]
      simp [hy]
    · dsimp only
      rw [ht, List.filterMap_append]
      simp [hn]
  · rintro μ' rfl
    rw [List.take_length]
    exact ⟨_, _, .lst (Nat.le_refl _) bd bm .refl, q⟩
end
/-! ### k in d, as a test -/
section
variable {X : Cx} {W : WX} {a o : Expr} {fa fo : FE} {pos : Pos}
theorem dt_dnotin (hu : X.A.units + 1 < cLine) (hi : DE X W a fa) (ho : DE X W o fo) (hm : behindInMarks .NotIn o = false := by rfl) : DT X W (.Compare a [.NotIn] [o] pos) (fB (fOp (dinD true) fa fo)) :=
  ⟨mB (mOp dinD_mono hi.mono ho.mono), PT.imp (pt_cmp (pc_dnotin hu hi.run ho.run) hm) fun σ H Q q => by
    have q' := rdB (mOp dinD_mono hi.mono ho.mono) q
    exact rdOp (r := fun y x H2 Q => ∃ a o, x = .ref a ∧ DGet H2 a y o ∧ Q (.bl (!o.isSome)) H2) dinD_mono hi.mono ho.mono (fun ι H μ y x dy dx Q r b a ⟨kd, k, e1, e2, q⟩ => by
      obtain ⟨p, kv, rfl, _, _, g, oa⟩ := dget_of r a b e1 e2
      refine ⟨p, _, rfl, g, ?_⟩
      rw [oa.some_iff]
      exact q ι H _ (Gr.refl _ _) r (.bl _)) q'⟩
end
end Dl

/-! DlHf: walks over a dict that is a cell: it is locked meanwhile. -/
namespace Dl
open PySem PySem.Spec L2
open PyProof.Rows hiding St Binds
section
variable {K : PySem.W.Frag} {ι : Io} {H : Hp} {n : Nat} {a : Addr} {ob : Obj} {kv : List (Key × V)} {kd : List (Key × D)}
end
section
variable {X : Cx} {W : WX} {tg iter kx vx : Expr} {sb : List Stmt} {ifs : List Expr} {scope : Scope} {own : List (Str × Nat)} {its : List (Key × D) → List D} {tgf : FG} {fb : FS} {ft : FT} {fk fv : FE} {pos p : Pos} {x : Str} {i : Nat}
end
end Dl

/-! DlHg: a number less a truth, lists of numbers in their order. -/
namespace Dl
open PySem PySem.Spec L2
open PyProof.Rows hiding St Binds
section
variable {X : Cx}
end
end Dl

/-! DlHh: two dicts whose values are integers, compared. -/
namespace Dl
open PySem PySem.Spec L2
open PyProof.Rows hiding St Binds
section
variable {X : Cx}
def intsV (l : List (Key × Int)) : List (Key × V) := l.map fun q => (q.1, .int q.2)
def lookI (l : List (Key × Int)) (k : Key) : Option Int := (l.find? fun q => decide (q.1 = k)).map (·.2)
/-- as many, and each one found there -/
def eqKI (la lb : List (Key × Int)) : Bool := la.length == lb.length && la.all fun q => decide (lookI lb q.1 = some q.2)
theorem valV_ints (k : Key) : ∀ l : List (Key × Int), valV (intsV l) k = (lookI l k).map V.int
  | [] => rfl
  | q :: l => by
    have ih := valV_ints k l
    unfold valV lookI intsV at *
    rw [List.map_cons, List.find?_cons, List.find?_cons]
    by_cases h : q.1 = k
    · simp [h]
    · simpa [h] using ih
theorem hits_of {A : Around} {s : Shared} {lb : List (Key × Int)} {vb : List (Key × Value)} (rb : L2.KV (intsV lb) vb) : ∀ {la : List (Key × Int)} {va : List (Key × Value)}, L2.KV (intsV la) va → PySem.W.KeqHits A s vb va (la.all fun q => decide (lookI lb q.1 = some q.2))
  | [], va, r => by
    unfold L2.KV at r
    cases r
    exact .nil
  | q :: la, va, r => by
    unfold L2.KV at r
    cases r with
    | @cons a b as bs h t =>
      obtain ⟨k, w⟩ := b
      obtain ⟨h1, t1, h2⟩ := h
      subst h2
      have h1' : q.1 = k := h1
      subst h1'
      have rest := hits_of (A := A) (s := s) rb (la := la) (va := bs) t
      have o := rb.val q.1
      rw [valV_ints] at o
      cases e : lookI lb q.1 with
      | none =>
        rw [e] at o
        have e2 : valueAt vb q.1 = none := by
          cases e3 : valueAt vb q.1 with
          | none => rfl
          | some y => rw [e3] at o; exact o.elim
        simp only [List.all_cons, e]
        exact .miss e2
      | some j =>
        rw [e] at o
        cases e3 : valueAt vb q.1 with
        | none => rw [e3] at o; exact o.elim
        | some y =>
          rw [e3] at o
          obtain ⟨t2, rfl⟩ := o
          have e4 : decide (some j = some q.2) = decide (q.2 = j) := decide_eq_decide.mpr ⟨fun h => (Option.some.inj h).symm, fun h => by rw [h]⟩
          simp only [List.all_cons, e]
          rw [e4]
          exact .hit e3 (SeqAt.EqAt.int_int _ _ _ _) rest
theorem op_eqD (hu : X.A.units + 1 < cLine) : OpR X (compareOp .Eq) (fun x y H Q => ∃ a b la lb, x = .ref a ∧ y = .ref b ∧ Rd H a (.dK (intsV la)) ∧ Rd H b (.dK (intsV lb)) ∧ Q (.bl (eqKI la lb)) H) := by
  intro pins s σ H x y v u Q I rx ry h
  obtain ⟨a, b, la, lb, rfl, rfl, ha, hb, q⟩ := h
  cases rx
  cases ry
  obtain ⟨_, na, va, ra, da⟩ := dk_rd I.hok ha
  obtain ⟨_, nb, vb, rb, db⟩ := dk_rd I.hok hb
  have la' : va.length = la.length := by rw [← ra.length]; simp [intsV]
  have lb' : vb.length = lb.length := by rw [← rb.length]; simp [intsV]
  refine PySem.W.keq_eq (r := la.all fun q => decide (lookI lb q.1 = some q.2)) na nb da db (by omega) (fun _ => hits_of rb ra) ?_
  rw [la', lb']
  exact ⟨.bl (eqKI la lb), H, I, rfl, q⟩
end
end Dl

/-! DlHi: what `{**d, k: v}` does below: one dict put into another. -/
namespace Dl
open PySem PySem.Spec L2
end Dl

/-! DlHj: `{**m, k: v}` is reckoned. -/
/-! DlHj: `{**m, k: v}` is reckoned. -/
namespace Dl
open PySem PySem.Spec L2
section
variable {X : Cx} {W : WX} {m k v : Expr} {pos : Pos} {tm tk tv : TE}
end
end Dl

/-! DlHk: `{**m, k: v}`, at values. -/
namespace Dl
open PySem PySem.Spec L2
open PyProof.Rows hiding St Binds
section
variable {X : Cx} {W : WX} {m k v : Expr} {pos : Pos} {fm fk fv : FE}
theorem idx_inj {α : Type} {l : List α} (nd : l.Nodup) {i j : Nat} {a : α} (h1 : l[i]? = some a) (h2 : l[j]? = some a) : i = j := by
  obtain ⟨l1, e1⟩ := List.getElem?_eq_some_iff.mp h1
  obtain ⟨l2, e2⟩ := List.getElem?_eq_some_iff.mp h2
  exact (List.getElem_inj nd).mp (e1.trans e2.symm)
theorem nil_pts {K : PySem.W.Frag} {ι : Io} {H : Hp} {kv : List (Key × V)} (p : Pts K ι H kv []) : kv = [] := by
  have := p.1
  simpa using this
end
end Dl


namespace Dl
open PySem PySem.Spec L2
open PyProof.Rows hiding St Binds
def top (i : Nat) : Stmt := PySem.Challenge.pw_noneorsome_k16_states_listed.main.body.getD i (.Pass ⟨0, 0, 0, 0⟩)
def inCls (s : Stmt) (j : Nat) : Stmt := match s with
  | .ClassDef _ _ _ body _ _ _ _ _ _ _ => body.getD j (.Pass ⟨0, 0, 0, 0⟩)
  | _ => .Pass ⟨0, 0, 0, 0⟩
section
variable {P : Program} {w : World} {K : PySem.W.Frag} {mg : Str → Option Value} {base : Heap} {C : Addr}
abbrev sDraw : Stmt := top 57
abbrev nDraw : List Str := ["_law_stream", "_law_many", "_law_digit", "_law_mixed_here"]
theorem scDraw : FnScope nDraw ["_law_stream", "_law_many"] (defScope sDraw) := ⟨rfl, rfl, rfl, by decide +kernel, rfl, by decide +kernel, by decide +kernel⟩
/-- a draw below m -/
inductive FDraw (ds : List D) (μ : Sto) (Q : QD) (E : XD) : Prop
  | mk (S : Dr) (m : Int) (rest : Sto) (a1 : ds = [.cell 1, .int m]) (a2 : 0 < m) (a3 : m < 2 ^ 128) (a4 : S.ok) (a5 : S.t < 1000000) (a6 : μ = S.sto rest) (a7 : ∀ (r : Int) (S' : Dr), 0 ≤ r → r < m → S'.ok → S'.t = S.t + 1 → Q (.int r) (S'.sto rest)) : FDraw ds μ Q E
theorem FDraw.mono  : MonF (FDraw) := fun ds μ Q Q' E E' h he q => match q with | .mk S m rest a1 a2 a3 a4 a5 a6 a7 => .mk S m rest a1 a2 a3 a4 a5 a6 (by intros; apply h; apply a7 <;> assumption)
theorem FDraw.len  : ∀ ds μ Q E, FDraw ds μ Q E → ds.length = 2 := fun ds μ Q E q => by obtain ⟨_, _, _, e, _, _, _, _, _, _⟩ := q; rw [e]; rfl
theorem cal_draw {f : Addr} {fd : FuncData} {qual : Str} (T : NoB mg) (Fu : Fun K "_law_draw" qual sDraw f fd) (hm : mg "_law_draw" = some (.ref f)) (hk : PySem.W.keepIn K (.ref f) = true) (hb : L2.Binds K fd ["_law_stream", "_law_many"] []) : Cal P w K mg base 1 "_law_draw" FDraw [] := by
  have nd := scDraw.nd
  refine cal_fun Fu scDraw hm hk hb ?_ ?_ (fun cdv A outer s H E hG hr =>
    have hu : (cxOf (L2.CX P w) P w K mg base nDraw qual (defScope sDraw) f cdv A outer s H E).A.units + 64 < cLine := by have := hr.un; show (A.deeper _).units + 64 < _; omega
    have hv : (cxOf (L2.CX P w) P w K mg base nDraw qual (defScope sDraw) f cdv A outer s H E).A.units + 1 < cLine := by omega
    have tk := takes_of (X := cxOf (L2.CX P w) P w K mg base nDraw qual (defScope sDraw) f cdv A outer s H E) (E := E) rfl rfl rfl rfl
    have pw := passes_of (X := cxOf (L2.CX P w) P w K mg base nDraw qual (defScope sDraw) f cdv A outer s H E) rfl
    (ds_cons (ds_asg (de_op opd_addI (de_ixL (de_var 0 rfl) de_int) de_int) (dg_ixL (W := NW) (de_var 0 rfl) de_int))
      (ds_cons (ds_if (DW.pt (dw_and (dt_cmp opd_eqI (de_ixL (de_var 0 rfl) de_int) de_int) (dw_and1 (dt_cmp (opd_neP' hu) (de_ixL (de_var 0 rfl) de_int) (de_lstD da_nil))))) (ds_cons (ds_asg (de_bmL PySem.F.plainAttrs_list PySem.F.slot_list_pop PySem.F.type_list_pop mtd_popAt (de_ixL (de_var 0 rfl) de_int) (da_cons de_int da_nil)) (dg_ixL (W := NW) (de_var 0 rfl) de_int))
      (ds_one (ds_if (dt_cmp opd_lt (de_ixL (de_var 0 rfl) de_int) (de_op opd_pow de_int de_int)) (ds_cons (ds_asg (de_op opd_mod (de_callTy cad_int (by rfl) T.int (by decide +kernel) (da_cons (de_op opd_addI (de_op opd_addI (de_op opd_mulI (de_ixL (de_var 0 rfl) de_int) de_int) (de_ixL (de_var 0 rfl) de_int)) de_int) da_nil)) de_int) (dg_ixL (W := NW) (de_var 0 rfl) de_int))
      (ds_one (ds_asg de_int (dg_ixL (W := NW) (de_var 0 rfl) de_int)))) ds_nil))) ds_nil)
      (ds_cons (ds_if (dt_cmp opd_gt (de_ixL (de_var 0 rfl) de_int) de_int) (ds_cons (ds_set (i := 2) nd rfl (by first | exact .inl rfl | exact .inr rfl) (de_op opd_mod (de_callTy cad_int (by rfl) T.int (by decide +kernel) (da_cons (de_ixL (de_var 0 rfl) de_int) da_nil)) (de_var 1 rfl)))
      (ds_cons (ds_asg (de_op opd_fdiv (de_ixL (de_var 0 rfl) de_int) (de_var 1 rfl)) (dg_ixL (W := NW) (de_var 0 rfl) de_int))
      (ds_one (ds_ret (de_var 2 rfl))))) ds_nil)
      (ds_cons (ds_set (i := 3) nd rfl (by first | exact .inl rfl | exact .inr rfl) (de_op opd_mod (de_op opd_pow (de_op opd_addI (de_op opd_addI (de_ixL (de_var 0 rfl) de_int) (de_op opd_mulI de_int (de_ixL (de_var 0 rfl) de_int))) de_int) de_int) de_int))
      (ds_one (ds_ret (de_op opd_mod (de_op opd_mod (de_op opd_pow (de_op opd_addI (de_op opd_addI (de_op opd_mulI (de_var 3 rfl) de_int) (de_op opd_mulI (de_op opd_mulI de_int (de_ixL (de_var 0 rfl) de_int)) (de_ixL (de_var 0 rfl) de_int))) de_int) de_int) de_int) (de_var 1 rfl))))))))) ?_
  · exact FDraw.mono
  · exact FDraw.len
  · rintro ds μ Q E ⟨⟨ns, a, t, c⟩, m, rest, rfl, m0, m1, ⟨a0, t0, c0, c1⟩, tl, rfl, z⟩
    have pw18 : CPow 10 18 := ⟨by decide, by decide, by decide⟩
    have mm : ∀ i j : Int, i.natAbs < 2 ^ 64 → j.natAbs < 2 ^ 64 → CMulW i j := fun i j h1 h2 => wide_mul h1 h2 (by decide) (by decide) (by decide)
    simp only at a0 t0 c0 c1 tl
    -- stream[2] = stream[2] + 1
    refine ⟨_, rfl, _, _, _, rfl, rfl, rfl, _, _, rfl, rfl, _, rfl, _, _, _, _, rfl, rfl, rfl, rfl, ?_⟩
    -- behind the first choice
    dsimp only
    refine seq_cut (fun ρ' μ' => ρ' = startD nDraw.length [D.cell 1, D.int m] ∧ ∃ (ns' : List Int) (a' c' : Int), 0 ≤ a' ∧ 0 ≤ c' ∧ c' < 2147483647 ∧ μ' = CT.lst (ns'.map D.int) :: CT.lst [.cell 0, .int a', .int (t + 1), .int c'] :: rest) ?_ fun N hN => ?_
    · rintro _ _ ⟨rfl, ns', a', c', h1, h2, h3, rfl⟩
      refine seq_cut (fun ρ' μ' => ρ' = startD nDraw.length [D.cell 1, D.int m] ∧ μ' = CT.lst (ns'.map D.int) :: CT.lst [.cell 0, .int a', .int (t + 1), .int c'] :: rest) ?_ fun N hN => ?_
      · rintro _ _ ⟨rfl, rfl⟩
        -- the number is mixed
        have b1 : 0 ≤ (c' + 104729 * (t + 1) + 17) := by omega
        have b2 : (c' + 104729 * (t + 1) + 17) < 2 ^ 40 := by omega
        refine ⟨_, rfl, _, _, _, rfl, rfl, rfl, _, rfl, _, _, _, rfl, rfl, rfl, _, _, rfl, rfl, mm _ _ (by decide) (by omega), _, _, rfl, rfl, _, _, rfl, rfl, _, _, rfl, rfl, ⟨by decide, by decide, by omega⟩, _, _, rfl, rfl, by decide, ?_⟩
        generalize hx : (c' + 104729 * (t + 1) + 17) ^ (5 : Int).toNat % 2147483629 = x
        have x0 : 0 ≤ x := by rw [← hx]; exact Int.emod_nonneg _ (by decide)
        have x1 : x < 2147483629 := by rw [← hx]; exact Int.emod_lt_of_pos _ (by decide)
        have q0 : 0 ≤ (t + 1) * (t + 1) := Int.mul_nonneg (by omega) (by omega)
        have q1 : (t + 1) * (t + 1) ≤ 1000000 * 1000000 := Int.mul_le_mul (by omega) (by omega) (by omega) (by decide)
        have q2 : 40503 * (t + 1) * (t + 1) = 40503 * ((t + 1) * (t + 1)) := Int.mul_assoc _ _ _
        refine ⟨_, rfl, _, _, rfl, rfl, mm _ _ (by omega) (by decide), _, rfl, _, _, _, rfl, rfl, rfl, _, _, rfl, rfl, mm _ _ (by decide) (by omega), _, rfl, _, _, _, rfl, rfl, rfl, _, _, rfl, rfl, mm _ _ (by omega) (by omega), _, _, rfl, rfl, _, _, rfl, rfl,
          _, _, rfl, rfl, ⟨by decide, by decide, by omega⟩, _, _, rfl, rfl, by decide, _, rfl, _, _, rfl, rfl, m0, ?_⟩
        exact ⟨_, _, .refl, z _ ⟨ns', a', t + 1, c'⟩ (Int.emod_nonneg _ (by omega)) (Int.emod_lt_of_pos _ m0) ⟨h1, by show 0 ≤ t + 1; omega, h2, h3⟩ rfl⟩
      · refine ⟨_, rfl, _, _, _, rfl, rfl, rfl, _, _, rfl, rfl, _, rfl, ?_⟩
        refine ite_b (fun h => ?_) (fun h => ?_)
        · refine ⟨_, rfl, _, _, _, rfl, rfl, rfl, .inl ⟨_, rfl, _, rfl, _, _, rfl, rfl, m0, ?_⟩⟩
          refine ⟨_, rfl, _, _, _, rfl, rfl, rfl, _, rfl, _, _, rfl, rfl, ⟨m0, ?_⟩, _, rfl, _, _, _, _, rfl, rfl, rfl, rfl, _, rfl, ?_⟩
          · have : m.natAbs < 2 ^ 128 := by omega
            have := (Nat.log2_lt (by omega)).mpr this
            omega
          · exact ⟨_, _, .refl, z _ ⟨ns', a' / m, t + 1, c'⟩ (Int.emod_nonneg _ (by omega)) (Int.emod_lt_of_pos _ m0) ⟨Int.ediv_nonneg h1 (by omega), by show 0 ≤ t + 1; omega, h2, h3⟩ rfl⟩
        · exact hN _ _ ⟨rfl, rfl⟩
    · refine ⟨_, rfl, _, _, _, rfl, rfl, rfl, _, _, rfl, rfl, _, rfl, ?_⟩
      refine ite_b (fun h => ?_) (fun h => ?_)
      · refine ⟨_, rfl, _, _, _, rfl, rfl, rfl, by decide, .list (ns.map .int), .list [], ?_, rfl, shaped_ints ns, rfl, _, rfl, ?_⟩
        · show (pyAll (ns.map D.int)).map PyData.list = _
          rw [pyAll_ints]; rfl
        refine ite_c (fun h2 => ?_) (fun h2 => ?_)
        · cases ns with
          | nil => simp [PyData.eqv, PyData.eqvAll] at h2
          | cons n ns =>
            have hs0 : seqIndex? 0 ((n :: ns).map D.int).length = some 0 := by simp [seqIndex?]; try omega
            refine ⟨_, rfl, _, _, _, rfl, rfl, rfl, ⟨_, rfl⟩, _, (n :: ns).map D.int, _, 0, .int n, rfl, rfl, rfl, by decide, by decide, hs0, rfl, _, rfl, _, _, _, _, rfl, rfl, rfl, rfl, ?_⟩
            refine ⟨_, rfl, _, _, _, rfl, rfl, rfl, _, _, rfl, rfl, pw18, _, rfl, ?_⟩
            refine ite_b (fun h3 => ?_) (fun h3 => ?_)
            · refine ⟨_, rfl, _, _, _, rfl, rfl, rfl, _, _, rfl, rfl, mm _ _ (by omega) (by decide), _, rfl, _, _, _, rfl, rfl, rfl, _, _, rfl, rfl, _, _, rfl, rfl, .inl ⟨_, rfl, _, _, rfl, rfl, by decide, _, rfl, _, _, _, _, rfl, rfl, rfl, rfl, ?_⟩⟩
              refine ⟨_, rfl, _, _, _, _, rfl, rfl, rfl, rfl, ?_⟩
              exact hN _ _ ⟨rfl, ns, 0, _, Int.le_refl _, Int.emod_nonneg _ (by decide), Int.emod_lt_of_pos _ (by decide), rfl⟩
            · have e18 : (10 : Int) ^ (18 : Int).toNat = 1000000000000000000 := by decide
              exact hN _ _ ⟨rfl, ns, n, c, by omega, c0, c1, rfl⟩
        · exact hN _ _ ⟨rfl, ns, a, c, a0, c0, c1, rfl⟩
      · exact hN _ _ ⟨rfl, ns, a, c, a0, c0, c1, rfl⟩

abbrev sPick : Stmt := top 58
abbrev nPick : List Str := ["_law_stream", "_law_some"]
theorem scPick : FnScope nPick ["_law_stream", "_law_some"] (defScope sPick) := ⟨rfl, rfl, rfl, by decide +kernel, rfl, by decide +kernel, by decide +kernel⟩
/-- one of some things -/
inductive FPick (ds : List D) (μ : Sto) (Q : QD) (E : XD) : Prop
  | mk (S : Dr) (xs : List D) (rest : Sto) (a1 : ds = [.cell 1, .lst xs]) (a2 : xs ≠ []) (a3 : xs.length ≤ 1000) (a4 : S.ok) (a5 : S.t < 1000000) (a6 : μ = S.sto rest) (a7 : ∀ (x : D) (S' : Dr), x ∈ xs → S'.ok → S'.t = S.t + 1 → Q x (S'.sto rest)) : FPick ds μ Q E
theorem FPick.mono  : MonF (FPick) := fun ds μ Q Q' E E' h he q => match q with | .mk S xs rest a1 a2 a3 a4 a5 a6 a7 => .mk S xs rest a1 a2 a3 a4 a5 a6 (by intros; apply h; apply a7 <;> assumption)
theorem FPick.len  : ∀ ds μ Q E, FPick ds μ Q E → ds.length = 2 := fun ds μ Q E q => by obtain ⟨_, _, _, e, _, _, _, _, _, _⟩ := q; rw [e]; rfl
theorem cal_pick (cD : Cal P w K mg base 1 "_law_draw" FDraw []) {f : Addr} {fd : FuncData} {qual : Str} (T : NoB mg) (Fu : Fun K "_law_pick" qual sPick f fd) (hm : mg "_law_pick" = some (.ref f)) (hk : PySem.W.keepIn K (.ref f) = true) (hb : L2.Binds K fd ["_law_stream", "_law_some"] []) : Cal P w K mg base 2 "_law_pick" FPick [] := by
  have nd := scPick.nd
  refine cal_fun Fu scPick hm hk hb ?_ ?_ (fun cdv A outer s H E hG hr =>
    have hu : (cxOf (L2.CX P w) P w K mg base nPick qual (defScope sPick) f cdv A outer s H E).A.units + 64 < cLine := by have := hr.un; show (A.deeper _).units + 64 < _; omega
    have hv : (cxOf (L2.CX P w) P w K mg base nPick qual (defScope sPick) f cdv A outer s H E).A.units + 1 < cLine := by omega
    have tk := takes_of (X := cxOf (L2.CX P w) P w K mg base nPick qual (defScope sPick) f cdv A outer s H E) (E := E) rfl rfl rfl rfl
    have pw := passes_of (X := cxOf (L2.CX P w) P w K mg base nPick qual (defScope sPick) f cdv A outer s H E) rfl
    (ds_one (ds_ret (de_ixL (de_var 1 rfl) (de_call cD hG hr (by decide) (by rfl) tk (da_cons (de_var 0 rfl) (da_cons (de_callB cad_len (by rfl) T.len (by decide +kernel) (da_cons (de_var 1 rfl) da_nil)) da_nil))))))) ?_
  · exact FPick.mono
  · exact FPick.len
  · rintro ds μ Q E ⟨S, xs, rest, rfl, hne, hl, ok, tl, rfl, z⟩
    have pos : 0 < xs.length := List.length_pos_iff.mpr hne
    refine ⟨_, rfl, _, rfl, _, rfl, .inr ⟨_, xs, rfl, rfl, S, _, rest, rfl, by omega, by omega, ok, tl, rfl, fun r S' r0 r1 ok' t' => ?_⟩⟩
    have hr : r.toNat < xs.length := by omega
    refine ⟨xs, _, xs[r.toNat], rfl, rfl, by rw [atI_nn _ r0]; exact List.getElem?_eq_getElem hr, _, _, .refl, z _ S' (List.getElem_mem hr) ok' t'⟩

abbrev sSame : Stmt := top 60
abbrev nSame : List Str := ["_law_found", "_law_due"]
theorem scSame : FnScope nSame ["_law_found", "_law_due"] (defScope sSame) := ⟨rfl, rfl, rfl, by decide +kernel, rfl, by decide +kernel, by decide +kernel⟩
inductive FSame (ds : List D) (μ : Sto) (Q : QD) (E : XD) : Prop
  | mk (x) (y) (p) (a1 : ds = [x, y]) (a2 : pyT μ x = some p) (a3 : pyT μ y = some p) (a4 : okR p) (a5 : Q (.bl true) μ) : FSame ds μ Q E
theorem FSame.mono  : MonF (FSame) := fun ds μ Q Q' E E' h he q => match q with | .mk x y p a1 a2 a3 a4 a5 => .mk x y p a1 a2 a3 a4 (h _ _ a5)
theorem FSame.len  : ∀ ds μ Q E, FSame ds μ Q E → ds.length = 2 := fun ds μ Q E q => by obtain ⟨_, _, _, e, _, _, _, _⟩ := q; rw [e]; rfl
theorem cal_same {f : Addr} {fd : FuncData} {qual : Str} (T : NoB mg) (Fu : Fun K "_law_same" qual sSame f fd) (hm : mg "_law_same" = some (.ref f)) (hk : PySem.W.keepIn K (.ref f) = true) (hb : L2.Binds K fd ["_law_found", "_law_due"] []) : Cal P w K mg base 1 "_law_same" FSame [] := by
  have nd := scSame.nd
  refine cal_fun Fu scSame hm hk hb ?_ ?_ (fun cdv A outer s H E hG hr =>
    have hu : (cxOf (L2.CX P w) P w K mg base nSame qual (defScope sSame) f cdv A outer s H E).A.units + 64 < cLine := by have := hr.un; show (A.deeper _).units + 64 < _; omega
    have hv : (cxOf (L2.CX P w) P w K mg base nSame qual (defScope sSame) f cdv A outer s H E).A.units + 1 < cLine := by omega
    have tk := takes_of (X := cxOf (L2.CX P w) P w K mg base nSame qual (defScope sSame) f cdv A outer s H E) (E := E) rfl rfl rfl rfl
    have pw := passes_of (X := cxOf (L2.CX P w) P w K mg base nSame qual (defScope sSame) f cdv A outer s H E) rfl
    (ds_one (ds_ret (de_cmp opd_eqS (de_callB (cad_reprT hG hu) (by rfl) T.repr (by decide +kernel) (da_cons (de_var 0 rfl) da_nil)) (de_callB (cad_reprT hG hu) (by rfl) T.repr (by decide +kernel) (da_cons (de_var 1 rfl) da_nil)))))) ?_
  · exact FSame.mono
  · exact FSame.len
  · rintro ds μ Q E ⟨x, y, p, rfl, e2, e3, e4, z⟩
    refine ⟨_, rfl, _, p, rfl, e2, e4, _, rfl, _, p, rfl, e3, e4, _, _, rfl, rfl, _, _, .refl, ?_⟩
    rw [decide_eq_true rfl]; exact z

abbrev sName : Stmt := top 61
abbrev nName : List Str := ["_law_stream", "_law_taken", "_law_size", "_law_name_here", "_law_k", "_law_one", "_law_letter"]
theorem scName : FnScope nName ["_law_stream", "_law_taken"] (defScope sName) := ⟨rfl, rfl, rfl, by decide +kernel, rfl, by decide +kernel, by decide +kernel⟩
inductive FName (ds : List D) (μ : Sto) (Q : QD) (E : XD) : Prop
  | mk (S : Dr) (tk : List Str) (rest : Sto) (a1 : ds = [.cell 1, .lst (tk.map .str)]) (a2 : tk.length ≤ 15) (a3 : S.ok) (a4 : S.t + 10 < 1000000) (a5 : okRest rest) (a6 : μ = S.sto rest) (a7 : ∀ (s : Str) (S' : Dr), NameOk s → s ∉ tk → S'.ok → S.t ≤ S'.t → S'.t ≤ S.t + 9 → Q (.str s) (S'.sto rest)) : FName ds μ Q E
theorem FName.mono  : MonF (FName) := fun ds μ Q Q' E E' h he q => match q with | .mk S tk rest a1 a2 a3 a4 a5 a6 a7 => .mk S tk rest a1 a2 a3 a4 a5 a6 (by intros; apply h; apply a7 <;> assumption)
theorem FName.len  : ∀ ds μ Q E, FName ds μ Q E → ds.length = 2 := fun ds μ Q E q => by obtain ⟨_, _, _, e, _, _, _, _, _, _⟩ := q; rw [e]; rfl
theorem cal_name (cD : Cal P w K mg base 1 "_law_draw" FDraw []) {f : Addr} {fd : FuncData} {qual : Str} (T : NoB mg) (Fu : Fun K "_law_name" qual sName f fd) (hm : mg "_law_name" = some (.ref f)) (hk : PySem.W.keepIn K (.ref f) = true) (hb : L2.Binds K fd ["_law_stream", "_law_taken"] []) : Cal P w K mg base 2 "_law_name" FName [] := by
  have nd := scName.nd
  refine cal_fun Fu scName hm hk hb ?_ ?_ (fun cdv A outer s H E hG hr =>
    have hu : (cxOf (L2.CX P w) P w K mg base nName qual (defScope sName) f cdv A outer s H E).A.units + 64 < cLine := by have := hr.un; show (A.deeper _).units + 64 < _; omega
    have hv : (cxOf (L2.CX P w) P w K mg base nName qual (defScope sName) f cdv A outer s H E).A.units + 1 < cLine := by omega
    have tk := takes_of (X := cxOf (L2.CX P w) P w K mg base nName qual (defScope sName) f cdv A outer s H E) (E := E) rfl rfl rfl rfl
    have pw := passes_of (X := cxOf (L2.CX P w) P w K mg base nName qual (defScope sName) f cdv A outer s H E) rfl
    (ds_cons (ds_set (i := 2) nd rfl (by first | exact .inl rfl | exact .inr rfl) (de_ixL (de_lstD (da_cons de_int (da_cons de_int (da_cons de_int (da_cons de_int (da_cons de_int (da_cons de_int da_nil))))))) (de_call cD hG hr (by decide) (by rfl) tk (da_cons (de_var 0 rfl) (da_cons de_int da_nil)))))
      (ds_cons (ds_set (i := 3) nd rfl (by first | exact .inl rfl | exact .inr rfl) (de_join de_str (de_lc (own := [("_law_k", 4)]) rfl nd (di_rng1 (by rfl) T.range (da_cons (de_var 2 rfl) da_nil)) (blkOk_by (N := nName) (sc := defScope sName) (by decide +kernel)) (fun _ _ _ _ _ => (dgw_name (i := 4) nd rfl (Or.inl rfl) (by decide))) (fun _ _ _ _ _ => dts_nil) (fun _ _ _ _ _ => (de_ixT de_str (de_call cD hG hr (by decide) (by rfl) takesNW (da_cons (de_var 0 rfl) (da_cons de_int da_nil))))))))
      (ds_cons (ds_if (DW.pt (dw_or (dt_cmp opd_in (de_var 3 rfl) (de_var 1 rfl)) (dw_or1 (dt_cmp opd_in (de_var 3 rfl) (de_lstD (da_cons de_str (da_cons de_str (da_cons de_str (da_cons de_str (da_cons de_str da_nil)))))))))) (ds_one (ds_ret (de_ixL (de_lc (own := [("_law_one", 5)]) rfl nd (di_seq (de_lc (own := [("_law_letter", 6)]) rfl nd (di_str de_str) (blkOk_by (N := nName) (sc := defScope sName) (by decide +kernel)) (fun _ _ _ _ _ => (dgw_name (i := 6) nd rfl (Or.inl rfl) (by decide))) (fun _ _ _ _ _ => dts_nil) (fun _ _ _ _ _ => (de_op strAdd_ok de_str (de_var 6 rfl))))) (blkOk_by (N := nName) (sc := defScope sName) (by decide +kernel)) (fun _ _ _ _ _ => (dgw_name (i := 5) nd rfl (Or.inl rfl) (by decide))) (fun _ _ _ _ _ => (dts_one (dt_cmp opd_notin (de_var 5 rfl) (de_var 1 rfl)))) (fun _ _ _ _ _ => (de_var 5 rfl))) de_int))) ds_nil)
      (ds_one (ds_ret (de_var 3 rfl))))))) ?_
  · exact FName.mono
  · exact FName.len
  · rintro ds μ Q E ⟨S, tk, rest, rfl, hl, ok, tl, okr, rfl, z⟩
    have sz := sizeLine_eq
    refine ⟨by decide, _, rfl, S, 6, rest, rfl, by decide, by decide, ok, by omega, rfl, fun r S1 r0 r1 ok1 t1 => ?_⟩
    have hk : ∃ k : Nat, atI [D.int 1, .int 1, .int 2, .int 3, .int 5, .int 8] r = some (.int k) ∧ 1 ≤ k ∧ k ≤ 8 := by
      rw [atI_nn _ r0]
      have : r.toNat = 0 ∨ r.toNat = 1 ∨ r.toNat = 2 ∨ r.toNat = 3 ∨ r.toNat = 4 ∨ r.toNat = 5 := by omega
      rcases this with h | h | h | h | h | h <;> rw [h]
      · exact ⟨1, rfl, by decide, by decide⟩
      · exact ⟨1, rfl, by decide, by decide⟩
      · exact ⟨2, rfl, by decide, by decide⟩
      · exact ⟨3, rfl, by decide, by decide⟩
      · exact ⟨5, rfl, by decide, by decide⟩
      · exact ⟨8, rfl, by decide, by decide⟩
    obtain ⟨k, hk, k1, k8⟩ := hk
    refine ⟨_, _, _, rfl, rfl, hk, ?_⟩
    -- the letters
    refine ⟨_, rfl, _, rfl, _, rfl, by omega, by omega, lc_draw 1 (fun i acc => ∃ cs : List Nat, acc = cs.map (fun c => D.str ⟨#[c]⟩) ∧ cs.length = i ∧ ∀ c ∈ cs, c ∈ abc) ok1 okr (fun _ _ => trivial) ⟨[], rfl, rfl, fun c h => absurd h (by simp)⟩ ?_ (fun i acc ⟨cs, e, h, _⟩ => by rw [e, List.length_map, h]; exact Nat.le_refl _) (by simp; omega) (fun acc ⟨cs, e, _⟩ => by rw [e]; exact bdL_all.mpr fun d hd => by obtain ⟨c, _, rfl⟩ := List.mem_map.mp hd; rfl) ?_⟩
    · rintro i x acc S' hx hi ok' t1' t2' ⟨cs, rfl, h1, h2⟩ NX N0 hN hN0
      simp at hi
      refine ⟨_, rfl, S', 26, _, rfl, by decide, by decide, ok', by omega, rfl, fun r2 S2 q0 q1 ok2 u2 => ?_⟩
      have hr : r2.toNat < abc.length := by rw [abc_len]; omega
      refine ⟨_, r2, abc[r2.toNat], rfl, rfl, by decide +kernel, ?_, hN _ S2 ok2 (by omega) (by omega) ⟨cs ++ [abc[r2.toNat]], by simp, by simp [h1], fun c hc => ?_⟩⟩
      · rw [atI_nn _ q0]; exact List.getElem?_eq_getElem hr
      · rcases List.mem_append.mp hc with hc | hc
        · exact h2 c hc
        · rw [List.mem_singleton.mp hc]; exact List.getElem_mem hr
    · rintro acc S' ⟨cs, rfl, h1, hcs⟩ ok' u1 u2
      simp at h1 u2
      have e : (cs.map fun c => D.str ⟨#[c]⟩) = (cs.map fun c => (⟨#[c]⟩ : Str)).map D.str := by rw [List.map_map]; rfl
      refine ⟨cs.map fun c => (⟨#[c]⟩ : Str), congrArg some e, ?_, ?_⟩
      · have := sum_ones cs
        have e0 : (Str.ofString "").length = 0 := by decide
        show _ + _ * (Str.ofString "").length ≤ _
        rw [this, e0]; omega
      have hc := join_chars cs
      generalize Txt.join (Str.ofString "") (cs.map fun c => (⟨#[c]⟩ : Str)) = nm at hc
      have hs : nm.cps.toList.length = k := by rw [hc]; exact h1
      refine ⟨_, rfl, _, rfl, tk.map .str, rfl, rfl, flat_strs tk, _, rfl, ite_c (fun h => ite_c (fun _ => ?_) (fun h => nomatch h)) (fun h => ⟨_, rfl, by decide, Reserved.map .str, rfl, rfl, rfl, _, rfl, ite_c (fun h2 => ?_) (fun h2 => ?_)⟩)⟩
      case refine_3 =>
        have n1 : nm ∉ tk := fun z => by
          have h' : inDD (.str nm) (tk.map .str) = false := h
          rw [inDD_strs] at h'
          exact absurd (decide_eq_true z) (by rw [h']; simp)
        have n2 : nm ∉ Reserved := fun z => by
          have h' : inDD (.str nm) (Reserved.map .str) = false := h2
          rw [inDD_strs] at h'
          exact absurd (decide_eq_true z) (by rw [h']; simp)
        exact ⟨_, rfl, _, _, .refl, z nm S' ⟨by omega, by omega, fun c hm => abc_low c (hcs c (hc ▸ hm)), n2⟩ n1 ok' (by omega) (by omega)⟩
      all_goals
        refine ⟨_, rfl, lc_pure pQ (fun _ => trivial) ?_ (by decide +kernel) (bdL_strs qs) okr.sto ⟨qs.map .str, rfl, lc_pure (pN tk) (fun _ => rfl) ?_ (by rw [List.length_map, qs_len]; omega) (by rw [pN_map]; exact bdL_strs _) okr.sto ?_⟩⟩
        · intro x hx acc NX N0 hN hN0
          obtain ⟨c, _, rfl⟩ := List.mem_map.mp hx
          exact ⟨_, rfl, _, _, rfl, rfl, (by show 1 + 1 ≤ sizeLine; omega), hN _ rfl⟩
        · intro x hx acc NX N0 hN hN0
          obtain ⟨s, _, rfl⟩ := List.mem_map.mp hx
          refine ⟨_, rfl, _, rfl, tk.map .str, rfl, rfl, flat_strs tk, _, rfl, ite_c (fun h3 => ?_) (fun h3 => ?_)⟩
          · have h3' : (!inDD (.str s) (tk.map .str)) = true := h3
            rw [inDD_strs] at h3'
            exact ⟨_, rfl, hN _ (by simp at h3'; simp [pN, h3'])⟩
          · have h3' : (!inDD (.str s) (tk.map .str)) = false := h3
            rw [inDD_strs] at h3'
            exact hN0 (by simp at h3'; simp [pN, h3'])
        · obtain ⟨s, l, e4, hs1, hs2⟩ := qs_some hl
          exact ⟨_, 0, .str s, rfl, rfl, by rw [pN_map, e4]; exact atI_0 _, _, _, .refl, z s S' (qs_ok s hs1) hs2 ok' (by omega) (by omega)⟩

abbrev sNames : Stmt := top 62
abbrev nNames : List Str := ["_law_stream", "_law_many", "_law_taken", "_law_found", "_law_k"]
theorem scNames : FnScope nNames ["_law_stream", "_law_many", "_law_taken"] (defScope sNames) := ⟨rfl, rfl, rfl, by decide +kernel, rfl, by decide +kernel, by decide +kernel⟩
inductive FNames (ds : List D) (μ : Sto) (Q : QD) (E : XD) : Prop
  | mk (S : Dr) (k : Nat) (tk : List Str) (rest : Sto) (a1 : ds = [.cell 1, .int k, .lst (tk.map .str)]) (a2 : k + tk.length ≤ 15) (a3 : S.ok) (a4 : S.t + 10 * k + 10 < 1000000) (a5 : okRest rest) (a6 : μ = S.sto rest) (a7 : ∀ (ss : List Str) (S' : Dr), ss.length = k → (∀ s ∈ ss, NameOk s) → ss.Nodup → (∀ s ∈ ss, s ∉ tk) → S'.ok → S.t ≤ S'.t → S'.t ≤ S.t + 9 * k → Q (.lst (ss.map .str)) (S'.sto rest)) : FNames ds μ Q E
theorem FNames.mono  : MonF (FNames) := fun ds μ Q Q' E E' h he q => match q with | .mk S k tk rest a1 a2 a3 a4 a5 a6 a7 => .mk S k tk rest a1 a2 a3 a4 a5 a6 (by intros; apply h; apply a7 <;> assumption)
theorem FNames.len  : ∀ ds μ Q E, FNames ds μ Q E → ds.length = 3 := fun ds μ Q E q => by obtain ⟨_, _, _, _, e, _, _, _, _, _, _⟩ := q; rw [e]; rfl
theorem cal_names (cN : Cal P w K mg base 2 "_law_name" FName []) {f : Addr} {fd : FuncData} {qual : Str} (T : NoB mg) (Fu : Fun K "_law_names" qual sNames f fd) (hm : mg "_law_names" = some (.ref f)) (hk : PySem.W.keepIn K (.ref f) = true) (hb : L2.Binds K fd ["_law_stream", "_law_many", "_law_taken"] []) : Cal P w K mg base 3 "_law_names" FNames [] := by
  have nd := scNames.nd
  refine cal_fun Fu scNames hm hk hb ?_ ?_ (fun cdv A outer s H E hG hr =>
    have hu : (cxOf (L2.CX P w) P w K mg base nNames qual (defScope sNames) f cdv A outer s H E).A.units + 64 < cLine := by have := hr.un; show (A.deeper _).units + 64 < _; omega
    have hv : (cxOf (L2.CX P w) P w K mg base nNames qual (defScope sNames) f cdv A outer s H E).A.units + 1 < cLine := by omega
    have tk := takes_of (X := cxOf (L2.CX P w) P w K mg base nNames qual (defScope sNames) f cdv A outer s H E) (E := E) rfl rfl rfl rfl
    have pw := passes_of (X := cxOf (L2.CX P w) P w K mg base nNames qual (defScope sNames) f cdv A outer s H E) rfl
    (ds_cons (ds_set (i := 3) nd rfl (by first | exact .inl rfl | exact .inr rfl) (de_lstC da_nil))
      (ds_cons (ds_for pw rfl (di_rng1 (by rfl) T.range (da_cons (de_var 1 rfl) da_nil)) (dg_name (i := 4) nd rfl (by first | exact .inl rfl | exact .inr rfl)) (ds_one (ds_expr (de_bmL PySem.F.plainAttrs_list PySem.F.slot_list_append PySem.F.type_list_append mtd_append (de_var 3 rfl) (da_cons (de_call cN hG hr (by decide) (by rfl) tk (da_cons (de_var 0 rfl) (da_cons (de_op opd_catD (de_var 2 rfl) (de_var 3 rfl)) da_nil))) da_nil)))))
      (ds_one (ds_ret (de_var 3 rfl)))))) ?_
  · exact FNames.mono
  · exact FNames.len
  · rintro ds μ Q E ⟨S, k, tk, rest, rfl, hl, ok, tl, okr, rfl, z⟩
    have sz := sizeLine_eq
    refine ⟨by decide, _, rfl, _, rfl, by omega, by omega, fun i ρ' μ' => ∃ (v : Option D) (S' : Dr) (ss : List Str), ρ' = [some (.cell 1), some (.int k), some (.lst (tk.map .str)), some (.cell (rest.length + 2)), v] ∧ ss.length = i ∧ (∀ s ∈ ss, NameOk s) ∧ ss.Nodup ∧ (∀ s ∈ ss, s ∉ tk) ∧ S'.ok ∧ S.t ≤ S'.t ∧ S'.t ≤ S.t + 9 * i ∧ μ' = S'.sto (rest ++ [.lst (ss.map .str)]), ?_, fun _ _ _ _ => trivial, ?_, ?_⟩
    · exact ⟨none, S, [], rfl, rfl, fun s h => absurd h (by simp), List.nodup_nil, fun s h => absurd h (by simp), ok, Int.le_refl _, by simp, rfl⟩
    · rintro i x ρ' μ' hx ⟨v, S', ss, rfl, l1, a1, a2, a3, ok', t1, t2, rfl⟩
      have hi : i < k := by
        have := (List.getElem?_eq_some_iff.mp hx).1
        simpa using this
      refine ⟨_, rfl, ⟨ss.map .str, asL_of (get_a rfl)⟩, _, rfl, _, rfl, _, rfl, tk.map .str, ss.map .str, rfl, asL_of (get_a rfl), by simp; omega, S', tk ++ ss, _, by simp, by simp; omega, ok', by omega, okr.add (c := .lst (ss.map .str)) (bdL_strs ss), rfl, fun s S2 hs hn ok2 u1 u2 => ?_⟩
      refine ⟨_, ss.map .str, .str s, rfl, rfl, get_a rfl, by simp; omega, ?_⟩
      have e := set_a (S := S2) (rest := rest) (a := .lst (ss.map .str)) (c := .lst (ss.map .str ++ [.str s])) (n := rest.length + 2) rfl
      refine ⟨_, S2, ss ++ [s], rfl, by simp [l1], ?_, ?_, ?_, ok2, by omega, by omega, by rw [e, List.map_append]; rfl⟩
      · intro y hy
        rcases List.mem_append.mp hy with hy | hy
        · exact a1 y hy
        · rw [List.mem_singleton.mp hy]; exact hs
      · rw [List.nodup_append]
        refine ⟨a2, by simp, fun y hy y' hy' e' => ?_⟩
        rw [List.mem_singleton.mp hy'] at e'
        exact hn (List.mem_append_right _ (e' ▸ hy))
      · intro y hy
        rcases List.mem_append.mp hy with hy | hy
        · exact a3 y hy
        · rw [List.mem_singleton.mp hy]; exact fun h => hn (List.mem_append_left _ h)
    · rintro ρ' μ' ⟨v, S', ss, rfl, l1, a1, a2, a3, ok', t1, t2, rfl⟩
      simp at l1 t2
      exact ⟨_, rfl, _, _, .lst (μ := S'.sto rest) (by rw [sto_len, sto_len]; exact Nat.le_refl _) (bdL_strs ss) okr.sto .refl, z ss S' l1 a1 a2 a3 ok' t1 t2⟩

/-! ### names -/
abbrev sLet : Stmt := top 27
abbrev nLet : List Str := ["sign"]
theorem scLet : FnScope nLet ["sign"] (defScope sLet) := ⟨rfl, rfl, rfl, by decide +kernel, rfl, by decide +kernel, by decide +kernel⟩
def lowS (c : Nat) : Bool := decide (97 ≤ c ∧ c ≤ 122)
inductive FLet (ds : List D) (μ : Sto) (Q : QD) (E : XD) : Prop
  | mk (c : Nat) (a1 : ds = [.str ⟨#[c]⟩]) (a2 : Q (.bl (lowS c)) μ) : FLet ds μ Q E
theorem FLet.mono  : MonF (FLet) := fun ds μ Q Q' E E' h he q => match q with | .mk c a1 a2 => .mk c a1 (h _ _ a2)
theorem FLet.len  : ∀ ds μ Q E, FLet ds μ Q E → ds.length = 1 := fun ds μ Q E q => by obtain ⟨_, e, _⟩ := q; rw [e]; rfl
theorem cal_let {f : Addr} {fd : FuncData} {qual : Str} (T : NoB mg) (Fu : Fun K "is_letter" qual sLet f fd) (hm : mg "is_letter" = some (.ref f)) (hk : PySem.W.keepIn K (.ref f) = true) (hb : L2.Binds K fd ["sign"] []) : Cal P w K mg base 1 "is_letter" FLet [] := by
  have nd := scLet.nd
  refine cal_fun Fu scLet hm hk hb ?_ ?_ (fun cdv A outer s H E hG hr =>
    have hu : (cxOf (L2.CX P w) P w K mg base nLet qual (defScope sLet) f cdv A outer s H E).A.units + 64 < cLine := by have := hr.un; show (A.deeper _).units + 64 < _; omega
    have hv : (cxOf (L2.CX P w) P w K mg base nLet qual (defScope sLet) f cdv A outer s H E).A.units + 1 < cLine := by omega
    have tk := takes_of (X := cxOf (L2.CX P w) P w K mg base nLet qual (defScope sLet) f cdv A outer s H E) (E := E) rfl rfl rfl rfl
    have pw := passes_of (X := cxOf (L2.CX P w) P w K mg base nLet qual (defScope sLet) f cdv A outer s H E) rfl
    (ds_one (ds_ret (de_chain opd_le opd_le de_str (de_var 0 rfl) de_str)))) ?_
  · exact FLet.mono
  · exact FLet.len
  · rintro ds μ Q E ⟨c, rfl, z⟩
    have lt1 : ∀ a b : Nat, ([a] < [b]) ↔ a < b := fun a b => by simp [List.cons_lt_cons_iff]
    have ea : (Str.ofString "a").cps.toList = [97] := by decide +kernel
    have ez : (Str.ofString "z").cps.toList = [122] := by decide +kernel
    have h1 : (!decide ((⟨#[c]⟩ : Str).cps.toList < (Str.ofString "a").cps.toList)) = decide (97 ≤ c) := by
      rw [ea]; show (!decide ([c] < [97])) = _; have e : decide ([c] < [97]) = decide (c < 97) := decide_eq_decide.mpr (lt1 c 97); rw [e]; by_cases h : c < 97 <;> simp [h] <;> omega
    have h2 : (!decide ((Str.ofString "z").cps.toList < (⟨#[c]⟩ : Str).cps.toList)) = decide (c ≤ 122) := by
      rw [ez]; show (!decide ([122] < [c])) = _; have e : decide ([122] < [c]) = decide (122 < c) := decide_eq_decide.mpr (lt1 122 c); rw [e]; by_cases h : 122 < c <;> simp [h] <;> omega
    refine ⟨_, rfl, _, rfl, ?_⟩
    rw [h1]
    by_cases hc : 97 ≤ c
    · rw [if_pos (by simpa using hc)]
      refine ⟨_, _, .refl, ?_⟩
      rw [h2]
      have e : lowS c = decide (c ≤ 122) := by simp [lowS, hc]
      rw [← e]; exact z
    · rw [if_neg (by simpa using hc)]
      have e : lowS c = false := by simp [lowS, hc]
      rw [e] at z
      exact ⟨_, _, .refl, z⟩



abbrev sIsN : Stmt := top 28
abbrev nIsN : List Str := ["value", "sign"]
theorem scIsN : FnScope nIsN ["value"] (defScope sIsN) := ⟨rfl, rfl, rfl, by decide +kernel, rfl, by decide +kernel, by decide +kernel⟩
def nameB (s : Str) : Bool := !(decide (s ∈ Reserved)) && (decide (1 ≤ s.cps.toList.length) && decide (s.cps.toList.length ≤ 8) && s.cps.toList.all lowS)
/-- a text of any kind, or an integer -/
def isNameD : D → Bool
  | .str s => nameB s
  | _ => false
def pLet : D → Option D
  | .str x => some (.bl (x.cps.toList.all lowS))
  | _ => none
theorem pLet_map (l : List Nat) : (l.map fun c => D.str ⟨#[c]⟩).filterMap pLet = (l.map lowS).map D.bl := by
  induction l with
  | nil => rfl
  | cons c l ih => simp [pLet, ih]
inductive FIsN (ds : List D) (μ : Sto) (Q : QD) (E : XD) : Prop
  | mk (d) (a1 : ds = [d]) (a2 : ((∃ s, d = .str s ∧ s.cps.toList.length ≤ sizeLine) ∨ ∃ i, d = .int i)) (a3 : bdS μ.length μ = true) (a4 : Q (.bl (isNameD d)) μ) : FIsN ds μ Q E
theorem FIsN.mono  : MonF (FIsN) := fun ds μ Q Q' E E' h he q => match q with | .mk d a1 a2 a3 a4 => .mk d a1 a2 a3 (h _ _ a4)
theorem FIsN.len  : ∀ ds μ Q E, FIsN ds μ Q E → ds.length = 1 := fun ds μ Q E q => by obtain ⟨_, e, _, _, _⟩ := q; rw [e]; rfl
theorem cal_isn (cLet : Cal P w K mg base 1 "is_letter" FLet []) {TR_RESERVED : Addr} {tc_LONGEST : Tok} (hm_RESERVED : mg "RESERVED" = some (.ref TR_RESERVED)) (l_RESERVED : ∀ H0 : Hp, SqT K H0 TR_RESERVED (Reserved.map V.str)) (hm_LONGEST : mg "LONGEST" = some (.int 8 tc_LONGEST)) {f : Addr} {fd : FuncData} {qual : Str} (T : NoB mg) (Fu : Fun K "is_name" qual sIsN f fd) (hm : mg "is_name" = some (.ref f)) (hk : PySem.W.keepIn K (.ref f) = true) (hb : L2.Binds K fd ["value"] []) : Cal P w K mg base 2 "is_name" FIsN [] := by
  have nd := scIsN.nd
  refine cal_fun Fu scIsN hm hk hb ?_ ?_ (fun cdv A outer s H E hG hr =>
    have hu : (cxOf (L2.CX P w) P w K mg base nIsN qual (defScope sIsN) f cdv A outer s H E).A.units + 64 < cLine := by have := hr.un; show (A.deeper _).units + 64 < _; omega
    have hv : (cxOf (L2.CX P w) P w K mg base nIsN qual (defScope sIsN) f cdv A outer s H E).A.units + 1 < cLine := by omega
    have tk := takes_of (X := cxOf (L2.CX P w) P w K mg base nIsN qual (defScope sIsN) f cdv A outer s H E) (E := E) rfl rfl rfl rfl
    have pw := passes_of (X := cxOf (L2.CX P w) P w K mg base nIsN qual (defScope sIsN) f cdv A outer s H E) rfl
    (ds_cons (ds_if (DW.pt (dw_or (dt_not (dt_val (de_callB cad_isi (by rfl) T.isinstance (by decide +kernel) (da_cons (de_var 0 rfl) (da_cons (de_ty (n := "str") (by rfl) T.str (by decide +kernel)) da_nil))))) (dw_or1 (dt_cmp opd_in (de_var 0 rfl) (de_mt (by rfl) hm_RESERVED l_RESERVED))))) (ds_one (ds_ret de_bl)) ds_nil)
      (ds_one (ds_ret (de_and (de_chain opd_le opd_le de_int (de_callB cad_len (by rfl) T.len (by decide +kernel) (da_cons (de_var 0 rfl) da_nil)) (de_mi (by rfl) hm_LONGEST)) (de_one (de_callB (cad_all rfl) (by rfl) T.all (by decide +kernel) (da_cons (de_lc (own := [("sign", 1)]) rfl nd (di_str (de_var 0 rfl)) (blkOk_by (N := nIsN) (sc := defScope sIsN) (by decide +kernel)) (fun _ _ _ _ _ => (dgw_name (i := 1) nd rfl (Or.inl rfl) (by decide))) (fun _ _ _ _ _ => dts_nil) (fun _ _ _ _ _ => (de_call cLet hG hr (by decide) (by rfl) takesNW (da_cons (de_var 1 rfl) da_nil)))) da_nil)))))))) ?_
  · exact FIsN.mono
  · exact FIsN.len
  · rintro ds μ Q E ⟨d, rfl, hd, hb', z⟩
    rcases hd with ⟨s, rfl, hs⟩ | ⟨i, rfl⟩
    · refine seq_cut (fun ρ' μ' => ρ' = startD nIsN.length [D.str s] ∧ μ' = μ ∧ s ∉ Reserved) ?_ fun N hN => ?_
      · rintro _ _ ⟨rfl, rfl, hr⟩
        have len : s.length = s.cps.toList.length := by simp [Str.length]
        refine ⟨_, rfl, .inl ⟨s, rfl, by rw [len]; exact hs, _, rfl, ite_b (fun h1 => ?_) (fun h1 => ?_)⟩⟩
        · refine ⟨_, rfl, ite_b (fun h2 => ?_) (fun h2 => ?_)⟩
          · refine ⟨_, rfl, s, rfl, lc_pure pLet (fun _ => trivial) (fun x hx acc NX N0 n1 n2 => ?_) (by rw [List.length_map]; exact hs) ?_ hb' ?_⟩
            · obtain ⟨c, hc, rfl⟩ := List.mem_map.mp hx
              exact ⟨_, rfl, c, rfl, n1 _ (by simp [pLet])⟩
            · rw [pLet_map]
              exact bdL_all.mpr fun d hd => by obtain ⟨b, _, rfl⟩ := List.mem_map.mp hd; rfl
            · rw [pLet_map]
              refine ⟨_, s.cps.toList.map lowS, rfl, rfl, _, _, .refl, ?_⟩
              have e : isNameD (.str s) = (s.cps.toList.map lowS).all id := by
                have a1 : 1 ≤ s.cps.toList.length := by rw [← len]; omega
                have a2 : s.cps.toList.length ≤ 8 := by rw [← len]; omega
                simp only [isNameD, nameB, hr, a1, a2, decide_false, decide_true, Bool.not_false, Bool.true_and, List.all_map]
                rfl
              rw [← e]; exact z
          · have e : isNameD (.str s) = false := by
              have a2 : ¬ s.cps.toList.length ≤ 8 := by rw [← len]; omega
              simp only [isNameD, nameB, a2, decide_false, Bool.false_and, Bool.and_false]
            rw [e] at z
            exact ⟨_, _, .refl, z⟩
        · have e : isNameD (.str s) = false := by
            have a2 : ¬ 1 ≤ s.cps.toList.length := by rw [← len]; omega
            simp only [isNameD, nameB, a2, decide_false, Bool.false_and, Bool.and_false]
          rw [e] at z
          exact ⟨_, rfl, _, _, .refl, z⟩
      · refine ⟨_, rfl, _, _, .type "str", .type "str", true, rfl, .inr ⟨_, rfl, rfl⟩, .str s, rfl, _, rfl, ?_⟩
        refine ⟨_, rfl, Reserved.map .str, rfl, rfl, flat_strs _, _, rfl, ite_c (fun h5 => ?_) (fun h5 => ?_)⟩
        · have h5' : inDD (.str s) (Reserved.map .str) = true := h5
          rw [inDD_strs, decide_eq_true_eq] at h5'
          have e : isNameD (.str s) = false := by simp [isNameD, nameB, h5']
          rw [e] at z
          exact ⟨_, _, .refl, z⟩
        · have h5' : inDD (.str s) (Reserved.map .str) = false := h5
          rw [inDD_strs, decide_eq_false_iff_not] at h5'
          exact hN _ _ ⟨rfl, rfl, h5'⟩
    · exact ⟨_, rfl, _, _, .type "int", .type "str", false, rfl, .inr ⟨_, rfl, rfl⟩, .int i, rfl, _, rfl, _, _, .refl, z⟩

/-- only for what is a name -/
inductive FChN (ds : List D) (μ : Sto) (Q : QD) (E : XD) : Prop
  | mk (s : Str) (a1 : ds = [.str s]) (a2 : nameB s = true) (a3 : s.cps.toList.length ≤ sizeLine) (a4 : bdS μ.length μ = true) (a5 : Q .non μ) : FChN ds μ Q E
theorem FChN.mono  : MonF (FChN) := fun ds μ Q Q' E E' h he q => match q with | .mk s a1 a2 a3 a4 a5 => .mk s a1 a2 a3 a4 (h _ _ a5)
theorem FChN.len  : ∀ ds μ Q E, FChN ds μ Q E → ds.length = 1 := fun ds μ Q E q => by obtain ⟨_, e, _, _, _, _⟩ := q; rw [e]; rfl
end
end Dl

namespace Dl
open PySem PySem.Spec L2
open PyProof.Rows hiding St Binds
def Asc (s : Str) : Prop := ∀ c ∈ s.cps.toList, c < 16 ^ 8
theorem Asc.app {a b : Str} (ha : Asc a) (hb : Asc b) : Asc (a ++ b) := fun c hc => by
  have e : (a ++ b).cps.toList = a.cps.toList ++ b.cps.toList := by show (a.cps ++ b.cps).toList = _; rw [Array.toList_append]
  rw [e] at hc
  rcases List.mem_append.mp hc with h | h
  · exact ha c h
  · exact hb c h
theorem asc_of {s : Str} (h : (s.cps.toList.all fun c => decide (c < 16 ^ 8)) = true) : Asc s := fun c hc => of_decide_eq_true (List.all_eq_true.mp h c hc)
theorem asc_name {s : Str} (h : NameOk s) : Asc s := fun c hc => by
  have := (h.low c hc).2
  have : (16 : Nat) ^ 8 = 4294967296 := by decide
  omega
theorem asc_wrap {op l t : Str} (h : Asc t) : Asc (wrapS op l t) := by
  unfold wrapS
  split
  · exact ((asc_of (by decide +kernel)).app h).app (asc_of (by decide +kernel))
  · exact h
theorem Tr.asc : ∀ {t : Tr}, t.ok → Asc t.text
  | .is s, h => asc_name h
  | .al, _ => asc_of (by decide +kernel)
  | .nv, _ => asc_of (by decide +kernel)
  | .no t, h => (asc_of (s := ("not " : Str)) (by decide +kernel)).app (asc_wrap (Tr.asc (t := t) h))
  | .an a b, h => ((asc_wrap (Tr.asc (t := a) h.1)).app (asc_of (by decide +kernel))).app (asc_wrap (Tr.asc (t := b) h.2))
  | .or a b, h => ((Tr.asc (t := a) h.1).app (asc_of (by decide +kernel))).app (Tr.asc (t := b) h.2)
theorem fitW {p : PyData} (h : p.leavesShort 40 = true) (w : p.weight ≤ 300000) : p.shown.length ≤ sizeLine := by
  have := PyData.shown_le 40 (by decide) p h
  have := sizeLine_eq
  omega
theorem leaf_asc {s : Str} (h : Asc s) : PyData.leavesShort 40 (.str s) = true := List.all_eq_true.mpr fun c hc => decide_eq_true (h c hc)
theorem leaves_strs : ∀ {ss : List Str}, (∀ s ∈ ss, Asc s) → PyData.leavesShortAll 40 (ss.map .str) = true
  | [], _ => rfl
  | s :: ss, h => by
    show (PyData.leavesShort 40 (.str s) && PyData.leavesShortAll 40 (ss.map .str)) = true
    rw [leaf_asc (h s List.mem_cons_self), leaves_strs fun x hx => h x (List.mem_cons_of_mem _ hx)]; rfl
theorem weight_strs : ∀ {ss : List Str} {n : Nat}, (∀ s ∈ ss, s.length ≤ n) → PyData.weightAll (ss.map .str) ≤ (n + 1) * ss.length
  | [], n, _ => Nat.le_refl _
  | s :: ss, n, h => by
    have h1 := h s List.mem_cons_self
    have h2 := weight_strs (n := n) fun x hx => h x (List.mem_cons_of_mem _ hx)
    simp only [List.map_cons, PyData.weightAll, PyData.weight, List.length_cons]
    have e : s.length = s.cps.size := rfl
    rw [Nat.mul_succ]
    omega
theorem show_strs : ∀ ss : List Str, PyData.showableAll (ss.map .str) = true ∧ PyData.hasDictAll (ss.map .str) = false ∧ PyData.depthAll (ss.map .str) = 0
  | [] => ⟨rfl, rfl, rfl⟩
  | s :: ss => by
    obtain ⟨h1, h2, h3⟩ := show_strs ss
    exact ⟨by simp [PyData.showableAll, PyData.showable, h1], by simp [PyData.hasDictAll, PyData.hasDict, h2], by simp [PyData.depthAll, PyData.depth, h3]⟩
theorem okR_s {s : Str} (h : Asc s) (l : s.length ≤ 300000) : okR (.str s) := by
  refine ⟨rfl, rfl, fitW (leaf_asc h) ?_, by simp [PyData.depth]⟩
  show s.cps.size ≤ 300000
  have : s.length = s.cps.size := rfl
  omega
theorem py_strs : ∀ ss : List Str, pyAll (ss.map D.str) = some (ss.map PyData.str)
  | [] => rfl
  | s :: ss => by rw [List.map_cons]; unfold pyAll; rw [py_strs ss]; rfl
theorem pyT_l {μ : Sto} {ds : List D} : pyT μ (.lst ds) = (pyAllS μ ds).map .list := rfl
theorem pyAllS_c {μ : Sto} {d : D} {ds : List D} {p : PyData} {ps : List PyData} (h : pyS μ d = some p) (h' : pyAllS μ ds = some ps) : pyAllS μ (d :: ds) = some (p :: ps) := by
  show (match pyS μ d, pyAllS μ ds with | some p, some ps => some (p :: ps) | _, _ => none) = _
  rw [h, h']
theorem okR_of {p : PyData} (h1 : p.showable = true) (h2 : p.hasDict = false) (h3 : p.leavesShort 40 = true) (h4 : p.weight ≤ 300000) (h5 : p.depth ≤ 10) : okR p := ⟨h1, h2, fitW h3 h4, by omega⟩
structure Itm (n : Nat) (p : PyData) : Prop where
  sh : p.showable = true
  nd : p.hasDict = false
  lv : p.leavesShort 40 = true
  w : p.weight ≤ n
  d : p.depth ≤ 5
theorem itm_all {n : Nat} : ∀ {ps : List PyData}, (∀ p ∈ ps, Itm n p) → PyData.showableAll ps = true ∧ PyData.hasDictAll ps = false ∧ PyData.leavesShortAll 40 ps = true ∧ PyData.weightAll ps ≤ (n + 1) * ps.length ∧ PyData.depthAll ps ≤ 6
  | [], _ => ⟨rfl, rfl, rfl, Nat.le_refl _, Nat.zero_le _⟩
  | p :: ps, h => by
    obtain ⟨i1, i2, i3, i4, i5⟩ := itm_all (ps := ps) fun x hx => h x (List.mem_cons_of_mem _ hx)
    obtain ⟨a1, a2, a3, a4, a5⟩ := h p List.mem_cons_self
    refine ⟨by simp [PyData.showableAll, a1, i1], by simp [PyData.hasDictAll, a2, i2], by show (_ && _) = true; rw [a3, i3]; rfl, ?_, ?_⟩
    · simp only [PyData.weightAll, List.length_cons, Nat.mul_succ]
      omega
    · simp only [PyData.depthAll]
      omega
theorem okR_items {n : Nat} {ps : List PyData} (h : ∀ p ∈ ps, Itm n p) (w : (n + 1) * ps.length ≤ 300000) : okR (.list ps) := by
  obtain ⟨i1, i2, i3, i4, i5⟩ := itm_all h
  exact okR_of i1 i2 i3 (Nat.le_trans i4 w) (by simp only [PyData.depth]; omega)
theorem at_strs {ss : List Str} {r : Int} (r0 : 0 ≤ r) (r1 : r < ss.length) : ∃ s ∈ ss, atI (ss.map D.str) r = some (.str s) := by
  have h : r.toNat < ss.length := by omega
  exact ⟨ss[r.toNat], List.getElem_mem h, by rw [atI_nn _ r0, List.getElem?_map, List.getElem?_eq_getElem h]; rfl⟩
end Dl

namespace Dl
open PySem PySem.Spec L2
open PyProof.Rows hiding St Binds
section
variable {P : Program} {w : World} {K : PySem.W.Frag} {mg : Str → Option Value} {base : Heap} 
end
end Dl


namespace Dl
open PySem PySem.Spec L2
open PyProof.Rows hiding St Binds
section
variable {P : Program} {w : World} {K : PySem.W.Frag} {mg : Str → Option Value} {base : Heap} {C_BadName : Addr}
abbrev sE_BadName : Stmt := inCls (top 3) 0
abbrev eOk_BadName : List D → Sto → Prop := okX 1 [.arg 0, .txt " is no name"]
abbrev eFl_BadName : List D → List (Str × D) := flX [("name", 0)]
theorem scE_BadName : SupScope ["self", "name"] ["self", "name"] (defScope sE_BadName) := ⟨rfl, rfl, rfl, by decide +kernel, rfl, by decide +kernel, by decide +kernel, by decide +kernel, by decide +kernel, by decide +kernel⟩
theorem erc_BadName {k : Nat} {C f cda cc : Addr} {kV doc pm ct oc : Value} {an od : Option Addr} {osl : Array (Option Value)} (T : SupK P K mg C cda cc)
    (lk : K.lookup f = some ⟨oc, od, .func (PySem.W.ksFn "__init__" "BadName.__init__" (defArgs sE_BadName) (defBody sE_BadName) (defScope sE_BadName) .none kV doc pm an (.ref cda) ct cc), osl⟩)
    (hcd : PySem.W.codeIn K (.ref cda) "BadName.__init__" = true) (tI : PySem.W.typeIn K (.ref f) = some (.type "function")) (iC : PySem.W.findIn K (.ref C) "__init__" = some (some (.ref f))) (hm : mg "BadName" = some (.ref C))
    (f0 : PySem.W.findIn K (.ref C) "name" = some none) : Erc P w K mg base (k + 1) "BadName" C eOk_BadName eFl_BadName := by
  refine ⟨f, _, ["self", "name"], erc_mk 1 [.arg 0, .txt " is no name"] [("name", 0)] T lk hcd scE_BadName rfl rfl (fun env => rfl) (fun env => rfl) rfl (by simp) (fun p hp => ?_) (by simp) (fun A outer s H E hG hr => ⟨?_, ?_⟩), T.cls, iC, tI, hm, ?_⟩
  · simp only [List.mem_cons, List.not_mem_nil, or_false] at hp
    rcases hp with rfl
    · exact ⟨f0, by decide⟩
  · have hu : (cxS (L2.CX P w) P w K mg base ["self", "name"] "BadName.__init__" (defScope sE_BadName) f (.ref cda) cc A outer s H E).A.units + 64 < cLine := by have := hr.un; show (A.deeper _).units + 64 < _; omega
    exact (.cons (pe_fmtRD hG hu (pe_var (i := 1) rfl (.inl rfl))) (.cons pe_str .nil))
  · exact (pss_cons (ps_ost (pe_var (i := 0) rfl (.inl rfl)) (pe_var (i := 1) rfl (.inl rfl))) pss_nil)
  · exact .all fun us hl => match us, hl with | [_, _], _ => rfl
theorem bn_ok {s : Str} {μ : Sto} (ha : Asc s) (hl : s.length ≤ 100) : eOk_BadName [.str s] μ := by
  have h := PyData.shown_le 40 (by decide) (.str s) (leaf_asc ha)
  have sz := sizeLine_eq
  have e0 : (" is no name" : Str).length = 11 := by decide
  have w : PyData.weight (.str s) ≤ 100 := hl
  have h2 : (Str.empty ++ (PyData.str s).shown).length ≤ sizeLine - 11 := by
    rw [Str.length_append]
    show 0 + _ ≤ _
    omega
  exact ⟨rfl, .str s, .str s, rfl, rfl, okR_s ha (by omega), by omega, by rw [Str.length_append, e0]; omega, trivial⟩
abbrev sChE : Stmt := top 29
abbrev nChE : List Str := ["name"]
theorem scChE : FnScope nChE ["name"] (defScope sChE) := ⟨rfl, rfl, rfl, by decide +kernel, rfl, by decide +kernel, by decide +kernel⟩
/-- a text of any kind -/
inductive FChE (C_BadName : Addr) (ds : List D) (μ : Sto) (Q : QD) (E : XD) : Prop
  | mk (s : Str) (a1 : ds = [.str s]) (a2 : Asc s) (a3 : s.length ≤ 100) (a4 : bdS μ.length μ = true) (a5 : (nameB s = true → Q .non μ)) (a6 : (nameB s = false → E (.ref C_BadName) [("name", .str s)] μ)) : FChE C_BadName ds μ Q E
theorem FChE.mono {C_BadName : Addr} : MonF (FChE C_BadName) := fun ds μ Q Q' E E' h he q => match q with | .mk s a1 a2 a3 a4 a5 a6 => .mk s a1 a2 a3 a4 (by intros; apply h; apply a5 <;> assumption) (by intros; apply he; apply a6 <;> assumption)
theorem FChE.len {C_BadName : Addr} : ∀ ds μ Q E, FChE C_BadName ds μ Q E → ds.length = 1 := fun ds μ Q E q => by obtain ⟨_, e, _, _, _, _, _⟩ := q; rw [e]; rfl
theorem cal_che (cIsN : Cal P w K mg base 2 "is_name" FIsN []) (erc_BadName : Erc P w K mg base 1 "BadName" C_BadName eOk_BadName eFl_BadName) {f : Addr} {fd : FuncData} {qual : Str} (T : NoB mg) (Fu : Fun K "check_name" qual sChE f fd) (hm : mg "check_name" = some (.ref f)) (hk : PySem.W.keepIn K (.ref f) = true) (hb : L2.Binds K fd ["name"] []) : Cal P w K mg base 3 "check_name" (FChE C_BadName) [] := by
  have nd := scChE.nd
  refine cal_fun Fu scChE hm hk hb ?_ ?_ (fun cdv A outer s H E hG hr =>
    have hu : (cxOf (L2.CX P w) P w K mg base nChE qual (defScope sChE) f cdv A outer s H E).A.units + 64 < cLine := by have := hr.un; show (A.deeper _).units + 64 < _; omega
    have hv : (cxOf (L2.CX P w) P w K mg base nChE qual (defScope sChE) f cdv A outer s H E).A.units + 1 < cLine := by omega
    have tk := takes_of (X := cxOf (L2.CX P w) P w K mg base nChE qual (defScope sChE) f cdv A outer s H E) (E := E) rfl rfl rfl rfl
    have pw := passes_of (X := cxOf (L2.CX P w) P w K mg base nChE qual (defScope sChE) f cdv A outer s H E) rfl
    (ds_one (ds_if (dt_not (dt_val (de_call cIsN hG hr (by decide) (by rfl) tk (da_cons (de_var 0 rfl) da_nil)))) (ds_one (ds_raise erc_BadName rfl hG hr (by decide) (by rfl) tk passL (da_cons (de_var 0 rfl) da_nil))) ds_nil))) ?_
  · exact FChE.mono
  · exact FChE.len
  · rintro ds μ Q E ⟨s, rfl, ha, hl, hb', z, z2⟩
    have sz := sizeLine_eq
    refine ⟨_, rfl, .str s, rfl, .inl ⟨s, rfl, by have : s.length = s.cps.toList.length := by simp [Str.length]
                                                  omega⟩, hb', _, rfl, ?_⟩
    show (if (!nameB s) = true then _ else _)
    cases hn : nameB s with
    | true => exact ⟨_, _, .refl, z hn⟩
    | false => exact ⟨_, rfl, by show 1 ≤ 1000; omega, bn_ok ha hl, _, [], (List.append_nil _).symm, Nat.le_refl _, rfl, hb', z2 hn⟩

end
end Dl

namespace Dl
open PySem PySem.Spec L2
open PyProof.Rows hiding St Binds
section
variable {X : Cx} {W : WX} {kx vx tg iter : Expr} {ifs : List Expr} {scope : Scope} {own : List (Str × Nat)} {pos : Pos} {fi : FI} {tgf : FG} {ft : FT} {fk fv : FE} {vs : List Nat}
end
section
variable {g : FG} {ft : FT} {fk fv : FE} {ρ : Rho} {vs : List Nat} {Q : QD}
end
end Dl

namespace Dl
open PySem PySem.Spec L2
open PyProof.Rows hiding St Binds
/-! conditions worked out over numbers that stand for words -/
abbrev alw : Str := "always"
abbrev nev : Str := "never"
def stepN (f : Str → Nat) (w : Str) (st : List Nat) : Option (List Nat) :=
  if w = ("not" : Str) then (match st with | x :: st => some ((f alw ^^^ x) :: st) | [] => none)
  else if w = ("and" : Str) then (match st with | r :: l :: st => some ((r &&& l) :: st) | _ => none)
  else if w = ("or" : Str) then (match st with | r :: l :: st => some ((r ||| l) :: st) | _ => none)
  else some (f w :: st)
def runN (f : Str → Nat) : List Str → List Nat → Option (List Nat)
  | [], st => some st
  | w :: ws, st => (stepN f w st).bind (runN f ws)
theorem runN_app (f : Str → Nat) : ∀ (ws vs : List Str) (st : List Nat), runN f (ws ++ vs) st = (runN f ws st).bind (runN f vs)
  | [], vs, st => rfl
  | w :: ws, vs, st => by
    show (stepN f w st).bind (runN f (ws ++ vs)) = ((stepN f w st).bind (runN f ws)).bind (runN f vs)
    cases stepN f w st with
    | none => rfl
    | some s => exact runN_app f ws vs s
def Tr.val (f : Str → Nat) : Tr → Nat
  | .is s => f s | .al => f alw | .nv => f nev | .no t => f alw ^^^ t.val f | .an a b => b.val f &&& a.val f | .or a b => b.val f ||| a.val f
theorem Tr.runN {f : Str → Nat} : ∀ {t : Tr}, t.ok → ∀ st, Dl.runN f t.words st = some (t.val f :: st)
  | .is s, h, st => by
    obtain ⟨a, b, c⟩ := not_and_or (show NameOk s from h)
    show (stepN f s st).bind (Dl.runN f []) = _
    unfold stepN
    rw [if_neg a, if_neg b, if_neg c]; rfl
  | .al, h, st => by
    show (stepN f alw st).bind (Dl.runN f []) = _
    unfold stepN
    rw [if_neg (by decide +kernel), if_neg (by decide +kernel), if_neg (by decide +kernel)]; rfl
  | .nv, h, st => by
    show (stepN f nev st).bind (Dl.runN f []) = _
    unfold stepN
    rw [if_neg (by decide +kernel), if_neg (by decide +kernel), if_neg (by decide +kernel)]; rfl
  | .no t, h, st => by
    show Dl.runN f (t.words ++ [_]) st = _
    rw [runN_app, Tr.runN (t := t) h]
    show (stepN f ("not" : Str) (t.val f :: st)).bind (Dl.runN f []) = _
    unfold stepN
    rw [if_pos rfl]; rfl
  | .an a b, h, st => by
    show Dl.runN f (a.words ++ b.words ++ [_]) st = _
    rw [runN_app, runN_app, Tr.runN h.1]
    show ((Dl.runN f b.words (a.val f :: st)).bind _) = _
    rw [Tr.runN h.2]
    show (stepN f ("and" : Str) (b.val f :: a.val f :: st)).bind (Dl.runN f []) = _
    unfold stepN
    rw [if_neg (by decide +kernel), if_pos rfl]; rfl
  | .or a b, h, st => by
    show Dl.runN f (a.words ++ b.words ++ [_]) st = _
    rw [runN_app, runN_app, Tr.runN h.1]
    show ((Dl.runN f b.words (a.val f :: st)).bind _) = _
    rw [Tr.runN h.2]
    show (stepN f ("or" : Str) (b.val f :: a.val f :: st)).bind (Dl.runN f []) = _
    unfold stepN
    rw [if_neg (by decide +kernel), if_neg (by decide +kernel), if_pos rfl]; rfl
/-- what a dict says of words -/
structure Wor (kd : List (Key × D)) (f : Str → Nat) (ws : List Str) : Prop where
  al : valD kd (.inr alw) = some (.int (f alw : Nat))
  at_ : ∀ w ∈ ws, w ≠ ("not" : Str) → w ≠ ("and" : Str) → w ≠ ("or" : Str) → valD kd (.inr w) = some (.int (f w : Nat))
/-- the names of a tree, from the left -/
def Tr.nms : Tr → List Str
  | .is s => [s] | .al => [] | .nv => [] | .no t => t.nms | .an a b => a.nms ++ b.nms | .or a b => a.nms ++ b.nms
theorem Tr.nms_eq : ∀ {t : Tr}, t.ok → t.words.filter (fun w => decide (w ∉ Reserved)) = t.nms
  | .is s, h => by
    show [s].filter _ = [s]
    simp [(show NameOk s from h).res]
  | .al, _ => by decide +kernel
  | .nv, _ => by decide +kernel
  | .no t, h => by
    show (t.words ++ [_]).filter _ = _
    rw [List.filter_append, Tr.nms_eq (t := t) h, show [("not" : Str)].filter (fun w => decide (w ∉ Reserved)) = [] by decide +kernel, List.append_nil]; rfl
  | .an a b, h => by
    show (a.words ++ b.words ++ [_]).filter _ = _
    rw [List.filter_append, List.filter_append, Tr.nms_eq h.1, Tr.nms_eq h.2, show [("and" : Str)].filter (fun w => decide (w ∉ Reserved)) = [] by decide +kernel, List.append_nil]; rfl
  | .or a b, h => by
    show (a.words ++ b.words ++ [_]).filter _ = _
    rw [List.filter_append, List.filter_append, Tr.nms_eq h.1, Tr.nms_eq h.2, show [("or" : Str)].filter (fun w => decide (w ∉ Reserved)) = [] by decide +kernel, List.append_nil]; rfl
/-! texts in order -/
end Dl

namespace Dl
open PySem PySem.Spec L2
open PyProof.Rows hiding St Binds
/-! what stands in a dict behind a write -/
theorem bdK_of {n : Nat} : ∀ {kd : List (Key × D)}, (∀ p ∈ kd, p.2.bd n = true) → bdK n kd = true
  | [], _ => rfl
  | (k, d) :: kd, h => by
    unfold bdK
    rw [Bool.and_eq_true]
    exact ⟨h (k, d) List.mem_cons_self, bdK_of fun p hp => h p (List.mem_cons_of_mem _ hp)⟩
/-! whether a condition holds -/
def Tr.hold (S : Str → Bool) : Tr → Bool
  | .is s => S s | .al => true | .nv => false | .no t => !t.hold S | .an a b => a.hold S && b.hold S | .or a b => a.hold S || b.hold S
theorem pyT_cell {μ : Sto} {n : Nat} {ds : List D} {ps : List PyData} (h : μ[n]? = some (.lst ds)) (hp : pyAll ds = some ps) : pyT μ (.cell n) = some (.list ps) := by
  simp only [pyT, pyS, h, hp, Option.map_some]
theorem perm_erase {α : Type} : ∀ (l : List α) (i : Nat) (h : i < l.length), (l[i] :: l.eraseIdx i).Perm l
  | x :: l, 0, h => by simp
  | x :: l, i + 1, h => by
    have h' : i < l.length := by simpa using h
    show (l[i] :: x :: l.eraseIdx i).Perm (x :: l)
    exact (List.Perm.swap x l[i] _).trans (List.Perm.cons x (perm_erase l i h'))
end Dl

namespace Dl
open PySem PySem.Spec L2
open PyProof.Rows hiding St Binds
section
variable {X : Cx} {W : WX} {o : Expr} {pos : Pos} {fo : FE} {C : Addr} {F : FD} {j k : Nat}
end
section
variable {X : Cx} {W : WX} {a : Expr} {ta : TE} {p p2 q pos : Pos} {f : FE}
end
/-! lists of texts among data -/
def gStr : D → Str
  | .str s => s
  | _ => Str.empty
theorem map_gStr (l : List Str) : (l.map D.str).map gStr = l := by
  rw [List.map_map]
  exact List.map_id l
theorem strs_back {ys : List D} {l : List Str} (h : ∀ y ∈ ys, y ∈ l.map D.str) : ys = (ys.map gStr).map D.str := by
  rw [List.map_map]
  refine (List.map_id ys).symm.trans (List.map_congr_left fun y hy => ?_)
  obtain ⟨s, _, rfl⟩ := List.mem_map.mp (h y hy)
  rfl
theorem perm_strs {ys : List D} {l : List Str} (h : ys.Perm (l.map D.str)) : ∃ ss : List Str, ys = ss.map D.str ∧ ss.Perm l :=
  ⟨ys.map gStr, strs_back fun y hy => h.mem_iff.mp hy, by have := h.map gStr; rwa [map_gStr] at this⟩
end Dl

/-! try with several clauses that name the error -/
namespace Dl
open PySem PySem.Spec L2
open PyProof.Rows hiding St Binds
structure Cl1 where
  x : Str
  n : Str
  np : Pos
  p : Pos
  c : Value
  i : Nat
  b0 : Stmt
  bs : List Stmt
  ts : Addr → Value → Option Addr → TS
def Cl1.h (q : Cl1) : ExceptHandler := .ExceptHandler (some (.Name q.x q.np)) (some q.n) (q.b0 :: q.bs) q.p
structure Cl1.ok (X : Cx) (q : Cl1) : Prop where
  ix : X.N[q.i]? = some q.n
  lo : X.env.kindOf q.n = some .local
  nm : Names X q.x q.c
  su : ∀ (a : Addr) (oe : Obj) (cls : Value) (d : Option Addr) (pn : List (Addr × Obj)), Zc cls d oe → (∃ vs, oe.data = .fields vs) → PSs (X.suite a ((a, oe) :: pn)) (q.b0 :: q.bs) (q.ts a cls d)
section
variable {X : Cx} {Wout : WX} {body : List Stmt} {pos : Pos} {tb : WX → TS} {pins : List (Addr × Obj)} {De : Ends} {B : Heap} {sI s' : Shared} {h3 : Heap} {σ' : L2.St} {H' : Hp} {cls : Value} {d : Option Addr} {a : Addr}
end
end Dl

namespace Dl
open PySem PySem.Spec L2
open PyProof.Rows hiding St Binds
/-- except C as e (slot i): return (word, e.f, ..), or slot j = (word, e.f, ..) -/
structure Cd where
  x : Str
  n : Str
  np : Pos
  p : Pos
  C : Addr
  i : Nat
  word : Str
  fs : List Str
  to : Option Nat
  b0 : Stmt
  bs : List Stmt
def cdT (q : Cd) (a : Addr) (cls : Value) (d : Option Addr) : TE := tTup (tCons (tC (.str q.word)) (tXfs a cls d q.C q.i q.fs))
def Cd.cl (q : Cd) : Cl1 := ⟨q.x, q.n, q.np, q.p, .ref q.C, q.i, q.b0, q.bs, fun a cls d => match q.to with
  | none => tSeq (tRet (cdT q a cls d)) tNext
  | some j => tSeq (tAsg (cdT q a cls d) (gName j)) tNext⟩
section
variable {X : Cx} {Wout : WX} {body : List Stmt} {pos : Pos} {fb : FS}
end
end Dl

/-! lists of lists in the store -/
namespace Dl
open PySem PySem.Spec L2
open PyProof.Rows hiding St Binds
theorem ap_get {μ : Sto} {a : CT} : (μ ++ [a])[μ.length]? = some a := by simp
theorem ap_set {μ : Sto} {a b : CT} : (μ ++ [a]).set μ.length b = μ ++ [b] := by rw [List.set_append_right _ _ (Nat.le_refl _), Nat.sub_self]; rfl
/-- new cells behind -/
theorem okRest.more {rest ν : Sto} (h : okRest rest) (b : bdS (rest.length + ν.length + 2) ν = true) : okRest (rest ++ ν) := by
  unfold okRest at h ⊢
  rw [bdS_app, List.length_append, b, Bool.and_true]
  exact bdS_mono (by omega) h
section
variable {g : FG} {ft : FT} {fe : FE} {ρ : Rho} {vs : List Nat} {Q : QD} {NE : Value → List (Str × D) → Rho → Sto → Prop}
end
end Dl

/-! repr of lists and tuples whose items hold cells themselves -/
namespace Dl
open PySem PySem.Spec L2
open PyProof.Rows hiding St Binds
section
variable {K : PySem.W.Frag} {ι : Io} {H : Hp} {μ : Sto}
end
theorem itm_list {n m : Nat} {ps : List PyData} (h : ∀ p ∈ ps, Itm n p ∧ p.depth ≤ 2) (w : (n + 1) * ps.length ≤ m) : Itm m (.list ps) := by
  have d : ∀ {ps : List PyData}, (∀ p ∈ ps, p.depth ≤ 2) → PyData.depthAll ps ≤ 3 := fun {ps} => by
    induction ps with
    | nil => intro _; simp [PyData.depthAll]
    | cons p ps ih =>
      intro h
      have h1 := h p (List.mem_cons_self ..)
      have h2 := ih fun q hq => h q (List.mem_cons_of_mem _ hq)
      simp only [PyData.depthAll]
      omega
  obtain ⟨i1, i2, i3, i4, i5⟩ := itm_all fun p hp => (h p hp).1
  have := d fun p hp => (h p hp).2
  exact ⟨i1, i2, i3, Nat.le_trans i4 w, by simp only [PyData.depth]; omega⟩
end Dl

/-! == and != of data with texts of any signs -/
namespace Dl
open PySem PySem.Spec L2
open PyProof.Rows hiding St Binds
section
variable {X : Cx}
def eqPl : G2 := fun x y μ Q => ∃ p q, pyS μ x = some p ∧ pyS μ y = some q ∧ p.plain = true ∧ q.plain = true ∧ p.depth ≤ 60 ∧ Q (.bl (PyData.eqv p q)) μ
theorem opd_eqPl (hu : X.A.units + 64 < cLine) : OpD X (compareOp .Eq) eqPl :=
  ⟨fun x y μ Q Q' h ⟨p, q, e1, e2, c1, c2, d1, z⟩ => ⟨p, q, e1, e2, c1, c2, d1, h _ _ z⟩,
    fun x y H Q => ∃ p q, Dp X.K H x p ∧ Dp X.K H y q ∧ p.plain = true ∧ q.plain = true ∧ p.depth ≤ 60 ∧ Q (.bl (PyData.eqv p q)) H,
    fun pins s σ H x y v u Q I rx ry ⟨p, q, hp, hq, c1, c2, d1, z⟩ => by
      obtain ⟨as, r1⟩ := Dp.reads I p x v hp rx
      obtain ⟨bs, r2⟩ := Dp.reads I q y u hq ry
      exact SeqAt.eq_plain r1 r2 c1 c2 (by omega) ⟨.bl _, H, I, rfl, z⟩,
    fun ι H μ x y dx dy Q r a b ⟨p, q, e1, e2, c1, c2, d1, z⟩ => ⟨p, q, dpS_of r a e1, dpS_of r b e2, c1, c2, d1, z ι H _ (Gr.refl _ _) r (.bl _)⟩⟩
end
end Dl

/-! sorted(texts, key=str) -/
namespace Dl
open PySem PySem.Spec L2
open PyProof.Rows hiding St Binds
def isT (v : Value) (x : Str) : Prop := ∃ t, v = Value.str x t
theorem each_strs : ∀ {ss : List Str} {us : List Value}, Vals (ss.map V.str) us → W.EachIs isT us ss
  | [], _, .nil => .nil
  | _ :: _, _, .cons r rs => .cons r (each_strs rs)
theorem vals_each : ∀ {ss : List Str} {us : List Value}, W.EachIs isT us ss → Vals (ss.map V.str) us
  | [], _, .nil => .nil
  | _ :: _, _, .cons r rs => .cons r (vals_each rs)
def ordS (ss : List Str) : List Str := ss.mergeSort (W.dataLe false PyData.str)
theorem ordS_perm (ss : List Str) : (ordS ss).Perm ss := List.mergeSort_perm _ _
def rSKey (K : PySem.W.Frag) : List V → List V → Hp → VK → Prop := fun vs zs H Q => ∃ (a : Addr) (ss : List Str), vs = [.ref a] ∧ zs = [.ty "str"] ∧ SqL K H a (ss.map V.str) ∧
  ∀ (p : Addr), H p = none → Q (.ref p) (upd H p (.lst ((ordS ss).map V.str)))
section
variable {X : Cx}
theorem cr_sortedKS (hu : X.A.units + 64 < cLine) : CallRK X (.builtin "sorted") [Str.ofString "key"] (rSKey X.K) := by
  intro pins s σ H vs zs us ws Q I r rz h
  obtain ⟨a, ss, rfl, rfl, hs, q⟩ := h
  cases r with
  | cons r1 r2 =>
  cases r2
  cases rz with
  | cons z1 z2 =>
  cases z2
  cases (show _ = Value.ref a from r1)
  cases (show _ = Value.type "str" from z1)
  obtain ⟨its, rv, hl, hz⟩ := I.list hs
  have hlen : its.length = ss.length := by rw [← rv.length, List.length_map]
  have lz : ss.length ≤ sizeLine := by rw [List.length_map] at hz; exact hz
  refine W.sorted_key_data (f := .type "str") (b := false) PyData.str hl.isList (each_strs rv) (fun d h1 d' h2 => ?_) (.inr fun d hd => ?_) lz (fun x _ => by show X.A.units + 2 + 0 < _; omega) (ksk_s1 _ _) (fun x => ksk_l1 _ _) (fun x => rfl) (fun v x hv _ h tk kp => ?_) fun out c h' tk kp fr hg ol eo => ?_
  · obtain ⟨x, _, rfl⟩ := List.mem_map.mp h1
    obtain ⟨y, _, rfl⟩ := List.mem_map.mp h2
    rfl
  · obtain ⟨x, _, rfl⟩ := List.mem_map.mp hd
    exact ⟨fun e => (nomatch e), fun xs e => nomatch e⟩
  · obtain ⟨t, rfl⟩ := hv
    exact PySem.P.str_of_str ⟨h, tk, rfl, fun _ _ e => e, .str _ _⟩
  · have hn : H (s.heap.objs.size + 1) = none := I.hok.fresh (Nat.le_succ _)
    have hz' : ((ordS ss).map V.str).length ≤ sizeLine := by rw [List.length_map, (ordS_perm ss).length_eq]; exact lz
    exact ⟨.ref _, upd H (s.heap.objs.size + 1) (.lst ((ordS ss).map V.str)), I.laid (t' := tk) kp (Nat.le_succ _) ⟨hz', _, c, vals_each eo, hg⟩, rfl, q _ hn⟩
/-- sorted(texts, key=str) -/
def fSK (f : FE) : FE := fun ρ μ Q E => f ρ μ (fun d m => ∃ xs : List Str, asL m d = some (xs.map .str) ∧ Q (.lst ((ordS xs).map .str)) m) E
theorem de_sortK {a : Expr} {p p2 kp pos : Pos} {W : WX} {f : FE} (hu : X.A.units + 64 < cLine) (hg : Gl X "sorted") (hm : X.mg "sorted" = none) (hg2 : Gl X "str") (hm2 : X.mg "str" = none) (ha : DE X W a f)
    (na : starEach [a] X.env = (false, eval a X.env) :: starEach [] X.env := by rfl) (he : backTo pos (starEach [a] X.env) = (false, eval a X.env) :: backTo pos (starEach [] X.env) := by rfl) (hpl : (backTo pos (starEach [a] X.env)).any (·.1) = false := by rfl)
    (hall : (backToKw pos (keywordEach [⟨some "key", .Name "str" p2, kp⟩] X.env)).all (·.1.isSome) = true := by rfl) (hnone : (backToKw pos (keywordEach [⟨some "key", .Name "str" p2, kp⟩] X.env)).any (·.1.isNone) = false := by rfl)
    (hks : (backToKw pos (keywordEach [⟨some "key", .Name "str" p2, kp⟩] X.env)).filterMap (·.1) = [Str.ofString "key"] := by rfl) : DE X W (.Call (.Name "sorted" p) [a] [⟨some "key", .Name "str" p2, kp⟩] pos) (fSK f) :=
  ⟨fun ρ μ Q Q' E E' hq he z => ha.mono ρ μ _ _ E E' (fun d m ⟨xs, e, z⟩ => ⟨xs, e, hq _ _ z⟩) he z,
   PE.imp (pe_callBK (cr_sortedKS hu) hg hm (by rfl) (pa_cons ha.run pa_nil na) (pk_cons (pe_bltn (v := .ty "str") hg2 hm2 (by rfl) rfl) pk_nil) (he := he) (hpl := hpl) (hall := hall) (hnone := hnone) (hks := hks)) fun σ H Q ⟨ι, ρ, μ, r, l, z⟩ => by
    refine chain1 ha.mono r l z fun d μ1 ι1 H1 v ⟨xs, e, z⟩ g1 r1 l1 a1 => ?_
    obtain ⟨b, vs, rfl, hb, hv⟩ := asL_at r1 a1 e
    cases ats_strs hv
    exact ⟨b, xs, rfl, rfl, SqL.of hb, fun p hp => z ι1 _ _ (g1.trans (Gr.new hp (r1.free hp))) (r1.new hp) (.newL hp (r1.free hp) (ats_of_strs (ordS xs)))⟩⟩
end
end Dl

/-! a walk over a dict that is a cell, with errors that leave it -/
namespace Dl
open PySem PySem.Spec L2
open PyProof.Rows hiding St Binds
theorem ga_app {μ ν : Sto} {n : Nat} {c : CT} (h : μ[n]? = some c) : (μ ++ ν)[n]? = some c := by
  rw [List.getElem?_append_left (List.getElem?_eq_some_iff.mp h).1]; exact h
section
variable {X : Cx} {W : WX} {tg iter : Expr} {sb : List Stmt} {its : List (Key × D) → List D} {tgf : FG} {fb : FS} {pos : Pos} {i : Nat}
end
end Dl

namespace Dl
open PySem PySem.Spec L2
open PyProof.Rows hiding St Binds
section
variable {P : Program} {w : World} {K : PySem.W.Frag} {mg : Str → Option Value} {base : Heap} {k : Nat} {f C : Addr} {fd : FuncData} {ps N : List Str} {x cn qual : Str} {st : Stmt} {F : FD} {fs : FS} {dvs : List V} {dsv : List Value} {dds : List D}
/-- a class whose __init__ is called with defaults -/
theorem mak_funD (Fu : FunA K x qual st f fd) (S : FnScope N ps (defScope st)) (hm : mg cn = some (.ref C)) (M : Mk K C f) (hb : L2.Binds K fd ps dsv) (hv : Vals dvs dsv) (ha : ∀ ι H, Ats K ι H dvs dds) (mono : MonF F) (len : ∀ ds μ Q E, F ds μ Q E → ds.length = ps.length)
    (body : ∀ (cdv : Value) (A : Around) (outer : List Env) (s : Shared) (H : Hp) (E : XK), (A.deeper (envOfC qual (defScope st) s.heap.objs.size f cdv)).guards = some [] → Room k (A.deeper (envOfC qual (defScope st) s.heap.objs.size f cdv)) →
      DB (cxOf (L2.CX P w) P w K mg base N qual (defScope st) f cdv A outer s H E) (fun c d _ H' => E c d H') (defBody st) fs)
    (sem : ∀ ds μ Q E, F ds μ Q E → fs (endK μ.length Q E) (startD N.length ds) μ) : Mak P w K mg base (k + 1) cn C F dds :=
  ⟨mono, f, fd, ps, dvs, dsv, fn_body Fu S len body sem, hm, M, hb, hv, ha⟩
theorem binds_d {oc : Value} {od an : Option Addr} {osl : Array (Option Value)} {T : Addr} {kV doc pm cdv ct : Value} {oT : Option Addr} {nT : Nat} {slT : Array (Option Value)} {its : Array Value} (n j : Nat)
    (l : K.lookup f = some ⟨oc, od, .func (PySem.W.fnOf x qual (defArgs st) (defBody st) (defScope st) (.ref T) kV doc pm an cdv ct), osl⟩) (c : PySem.W.codeIn K cdv qual = true) (kp : PySem.W.keepIn K (.ref f) = true)
    (lT : K.lookup T = some ⟨.type "tuple", oT, .seq its nT, slT⟩) (hv : Vals dvs its.toList) (hd : dvs ≠ []) (hn : n + (dvs.length - j) = ps.length := by rfl)
    (h : ∀ (T : Addr) (kV doc pm : Value) (an : Option Addr) (cdv ct : Value) (us is : List Value), us.length = n → is.length = dvs.length →
      ∃ k, bindArgs (PySem.W.fnOf x qual (defArgs st) (defBody st) (defScope st) (.ref T) kV doc pm an cdv ct) ⟨us, []⟩ = seqItems? (.ref T) >>= k ∧ k (some is.toArray) = pure (ps.zip (us ++ is.drop j))) :
    ∃ ds, Vals (dvs.drop j) ds ∧ L2.Binds K (PySem.W.fnOf x qual (defArgs st) (defBody st) (defScope st) (.ref T) kV doc pm an cdv ct) ps ds := by
  have F : FunD K x qual (defArgs st) (defBody st) (defScope st) dvs [] f (PySem.W.fnOf x qual (defArgs st) (defBody st) (defScope st) (.ref T) kV doc pm an cdv ct) :=
    ⟨⟨_, _, _, _, _, _, _, _, _, _, rfl, l, c, .inr ⟨hd, T, _, its.toList, nT, rfl, by simpa using lT, rfl, hv⟩, .inl rfl⟩, kp⟩
  exact F.binds1 (ps := ps) n j hd hn h
end
/-- ds[:i] -/
theorem cut_to (ds : List D) {i : Nat} (h : i ≤ ds.length) : cutD ds none (some (i : Nat)) = ds.take i := by
  have h1 : HT.sIx ds.length ds.length (some (i : Int)) = i := by
    unfold HT.sIx
    simp only
    split <;> omega
  have h0 : HT.sIx ds.length 0 none = 0 := rfl
  unfold cutD
  rw [h0, h1, List.drop_zero, Nat.sub_zero]
end Dl

namespace Dl
open PySem PySem.Spec L2
open PyProof.Rows hiding St Binds
/-! len of own objects and of dicts, list of a dict's keys -/
section
variable {X : Cx} {W : WX} {C : Addr} {F : FD} {j k : Nat}
def gLenO (C : Addr) (F : FD) : GC := fun xs μ Q => ∃ d fd, xs = [d] ∧ asI μ d = some (C, fd) ∧ F [d] μ (fun y m => ∃ n : Nat, y = .int n ∧ n < 2 ^ 62 ∧ Q (.int n) m) (fun _ _ _ => False)
theorem cad_lenO (c : MetX X k C "__len__" F []) (hG : X.A.guards = some []) (hr : Room j X.A) (hk : k + 1 ≤ j) : CaD X (.builtin "len") (gLenO C F) := by
  obtain ⟨f, fd0, ps, dvs, ds, Fg, hM, hb, hv, hd⟩ := c.ex
  refine ⟨fun xs μ Q Q' h ⟨d, fd, e1, e2, q⟩ => ⟨d, fd, e1, e2, c.mono _ _ _ _ _ _ (fun y m ⟨n, e, l, z⟩ => ⟨n, e, l, h _ _ z⟩) (fun _ _ _ z => z) q⟩,
    fun xs H Q => ∃ a dx fv, xs = [.ref a] ∧ H a = some (.ins C dx fv) ∧ spD X.K F ([.ref a] ++ dvs) H (fun v H => ∃ n : Nat, v = .int n ∧ n < 2 ^ 62 ∧ Q (.int n) H) (fun _ _ _ => False), ?_, ?_⟩
  · intro pins s σ H xs us Q I rv h
    obtain ⟨a, dx, fv, rfl, ha, q⟩ := h
    obtain ⟨u, rfl, ru⟩ := rv.one
    cases (show u = Value.ref a from ru)
    obtain ⟨mA, O, _, _, _, _⟩ := ins_get I.hok ha
    obtain ⟨od, J, _⟩ := O.look
    obtain ⟨m, hF⟩ := I.fr
    refine PySem.W.len_K hF I.ok.mod.kin J hM.at_ hM.fn ?_
    refine wpAny_mono (g_runA (us := [.ref a]) (vs := [.ref a]) hG Fg ((hr.mono hk).in1) I.env0.in1 hb hv (fun _ _ _ z => z) I (.cons rfl .nil) q) (fun w s' z => ?_) fun _ _ z => z
    obtain ⟨_, H', I', r, n, rfl, l, q⟩ := z
    obtain ⟨tk, rfl⟩ := r
    exact ⟨⟨by omega, by omega⟩, .int n, H', I'.tok _, ⟨_, rfl⟩, q⟩
  · rintro ι H μ vs ds Q r at_ ⟨d, fd, rfl, e2, q⟩
    obtain ⟨v, rfl, a1⟩ := at_.one
    obtain ⟨a, dxx, fv, rfl, ha, _⟩ := asI_at r a1 e2
    refine ⟨a, dxx, fv, rfl, ha, ι, μ, _, r, (Ats.cons a1 Ats.nil).app (hd ι H), c.mono [d] μ _ _ (fun _ _ _ => False) _ (fun y m z => ?_) (fun _ _ _ z => z.elim) q⟩
    obtain ⟨n, rfl, l, z⟩ := z
    intro ι' H' v' g' r' a'
    cases a'
    exact ⟨n, rfl, l, z ι' H' _ g' r' (.int _)⟩
/-- list(d), d a dict -/
def gListK : GC := fun xs μ Q => ∃ d kd, xs = [d] ∧ asD μ d = some kd ∧ gNewL (kd.map fun q => kOf q.1) μ Q
theorem keys_at {K : PySem.W.Frag} {ι : Io} {H : Hp} : ∀ {kv : List (Key × V)} {kd : List (Key × D)}, kv.map (·.1) = kd.map (·.1) → Ats K ι H (kv.map fun q => kV q.1) (kd.map fun q => kOf q.1)
  | [], [], _ => .nil
  | (a, b) :: kv, (c, d) :: kd, h => by
    simp only [List.map_cons, List.cons.injEq] at h
    obtain ⟨h1, h2⟩ := h
    subst h1
    exact Ats.cons kOf_at (keys_at h2)
theorem cad_listK (hc : X.calm = true) : CaD X (.type "list") gListK :=
  ⟨fun xs μ Q Q' h ⟨d, kd, e1, e2, q⟩ => ⟨d, kd, e1, e2, gNewL_mono h q⟩, _, call_listD hc, fun ι H μ vs ds Q r a ⟨d, kd, e1, e2, q⟩ => by
    subst e1
    obtain ⟨v, rfl, a1⟩ := a.one
    obtain ⟨p, kv, rfl, h1, h2⟩ := asD_at r a1 e2
    exact ⟨p, kv, rfl, h1, fun l hl => newL_ok r (keys_at h2.1) q l hl⟩⟩
def gListKD : GC := fun xs μ Q => ∃ d kd, xs = [d] ∧ asD μ d = some kd ∧ gD (kd.map fun q => kOf q.1) μ Q
theorem cad_listKD (hc : X.calm = true) : CaD X (.type "list") gListKD := (cad_listK hc).weak (fun xs μ Q Q' h ⟨d, ds, e, e2, q⟩ => ⟨d, ds, e, e2, gD_mono h q⟩) fun xs μ Q ⟨d, ds, e, e2, q⟩ => ⟨d, ds, e, e2, gD_new q⟩
end
end Dl

namespace Dl
open PySem PySem.Spec L2
open PyProof.Rows hiding St Binds
section
variable {P : Program} {w : World} {K : PySem.W.Frag} {mg : Str → Option Value} {base : Heap} {C_BadName C_BadChange C_Outcome : Addr}
abbrev sE_BadChange : Stmt := inCls (top 6) 0
abbrev eOk_BadChange : List D → Sto → Prop := okX 2 [.arg 1, .txt " is no change of ", .arg 0]
abbrev eFl_BadChange : List D → List (Str × D) := flX [("name", 0), ("change", 1)]
theorem scE_BadChange : SupScope ["self", "name", "change"] ["self", "name", "change"] (defScope sE_BadChange) := ⟨rfl, rfl, rfl, by decide +kernel, rfl, by decide +kernel, by decide +kernel, by decide +kernel, by decide +kernel, by decide +kernel⟩
theorem erc_BadChange {k : Nat} {C f cda cc : Addr} {kV doc pm ct oc : Value} {an od : Option Addr} {osl : Array (Option Value)} (T : SupK P K mg C cda cc)
    (lk : K.lookup f = some ⟨oc, od, .func (PySem.W.ksFn "__init__" "BadChange.__init__" (defArgs sE_BadChange) (defBody sE_BadChange) (defScope sE_BadChange) .none kV doc pm an (.ref cda) ct cc), osl⟩)
    (hcd : PySem.W.codeIn K (.ref cda) "BadChange.__init__" = true) (tI : PySem.W.typeIn K (.ref f) = some (.type "function")) (iC : PySem.W.findIn K (.ref C) "__init__" = some (some (.ref f))) (hm : mg "BadChange" = some (.ref C))
    (f0 : PySem.W.findIn K (.ref C) "name" = some none) (f1 : PySem.W.findIn K (.ref C) "change" = some none) : Erc P w K mg base (k + 1) "BadChange" C eOk_BadChange eFl_BadChange := by
  refine ⟨f, _, ["self", "name", "change"], erc_mk 2 [.arg 1, .txt " is no change of ", .arg 0] [("name", 0), ("change", 1)] T lk hcd scE_BadChange rfl rfl (fun env => rfl) (fun env => rfl) rfl (by simp) (fun p hp => ?_) (by simp) (fun A outer s H E hG hr => ⟨?_, ?_⟩), T.cls, iC, tI, hm, ?_⟩
  · simp only [List.mem_cons, List.not_mem_nil, or_false] at hp
    rcases hp with rfl | rfl
    · exact ⟨f0, by decide⟩
    · exact ⟨f1, by decide⟩
  · have hu : (cxS (L2.CX P w) P w K mg base ["self", "name", "change"] "BadChange.__init__" (defScope sE_BadChange) f (.ref cda) cc A outer s H E).A.units + 64 < cLine := by have := hr.un; show (A.deeper _).units + 64 < _; omega
    exact (.cons (pe_fmtRD hG hu (pe_var (i := 2) rfl (.inl rfl))) (.cons pe_str (.cons (pe_fmtRD hG hu (pe_var (i := 1) rfl (.inl rfl))) .nil)))
  · exact (pss_cons (ps_ost (pe_var (i := 0) rfl (.inl rfl)) (pe_var (i := 1) rfl (.inl rfl))) (pss_cons (ps_ost (pe_var (i := 0) rfl (.inl rfl)) (pe_var (i := 2) rfl (.inl rfl))) pss_nil))
  · exact .all fun us hl => match us, hl with | [_, _, _], _ => rfl
abbrev Chs : List Str := ["add", "take", "empty"]
/-- what a change may be handed in as -/
def isCh : D → Prop
  | .bl _ => True
  | .str s => Asc s ∧ s.length ≤ 100
  | .non => True
  | _ => False
def chB : D → Bool
  | .bl _ => true
  | .str s => decide (s ∈ Chs)
  | _ => false
theorem isCh_bd {d : D} {n : Nat} (h : isCh d) : d.bd n = true := by cases d <;> first | rfl | exact h.elim
theorem iff_ {c : Bool} {a b : Prop} (hc : c = false) (h : b) : if c = true then a else b := by rw [hc]; exact h
theorem ift_ {c : Bool} {a b : Prop} (hc : c = true) (h : a) : if c = true then a else b := by rw [hc]; exact h
abbrev sIsC : Stmt := top 20
abbrev nIsC : List Str := ["value"]
theorem scIsC : FnScope nIsC ["value"] (defScope sIsC) := ⟨rfl, rfl, rfl, by decide +kernel, rfl, by decide +kernel, by decide +kernel⟩
inductive FIsC (ds : List D) (μ : Sto) (Q : QD) (E : XD) : Prop
  | mk (d : D) (a1 : ds = [d]) (a2 : isCh d) (a3 : Q (.bl (chB d)) μ) : FIsC ds μ Q E
theorem FIsC.mono  : MonF (FIsC) := fun ds μ Q Q' E E' h he q => match q with | .mk d a1 a2 a3 => .mk d a1 a2 (h _ _ a3)
theorem FIsC.len  : ∀ ds μ Q E, FIsC ds μ Q E → ds.length = 1 := fun ds μ Q E q => by obtain ⟨_, e, _, _⟩ := q; rw [e]; rfl
theorem cal_isc (kit_bb : PySem.W.kitOne K (.type "bool") (.type "bool") = some true) (kit_sb : PySem.W.kitOne K (.type "str") (.type "bool") = some false) (kit_ss : PySem.W.kitOne K (.type "str") (.type "str") = some true) (kit_nb : PySem.W.kitOne K (.type "NoneType") (.type "bool") = some false) (kit_ns : PySem.W.kitOne K (.type "NoneType") (.type "str") = some false) {f : Addr} {fd : FuncData} {qual : Str} (T : NoB mg) (Fu : Fun K "is_change" qual sIsC f fd) (hm : mg "is_change" = some (.ref f)) (hk : PySem.W.keepIn K (.ref f) = true) (hb : L2.Binds K fd ["value"] []) : Cal P w K mg base 1 "is_change" FIsC [] := by
  have nd := scIsC.nd
  refine cal_fun Fu scIsC hm hk hb ?_ ?_ (fun cdv A outer s H E hG hr =>
    have hu : (cxOf (L2.CX P w) P w K mg base nIsC qual (defScope sIsC) f cdv A outer s H E).A.units + 64 < cLine := by have := hr.un; show (A.deeper _).units + 64 < _; omega
    have hv : (cxOf (L2.CX P w) P w K mg base nIsC qual (defScope sIsC) f cdv A outer s H E).A.units + 1 < cLine := by omega
    have tk := takes_of (X := cxOf (L2.CX P w) P w K mg base nIsC qual (defScope sIsC) f cdv A outer s H E) (E := E) rfl rfl rfl rfl
    have pw := passes_of (X := cxOf (L2.CX P w) P w K mg base nIsC qual (defScope sIsC) f cdv A outer s H E) rfl
    (ds_cons (ds_if (dt_val (de_callB cad_isi (by rfl) T.isinstance (by decide +kernel) (da_cons (de_var 0 rfl) (da_cons (de_ty (n := "bool") (by rfl) T.bool (by decide +kernel)) da_nil)))) (ds_one (ds_ret de_bl)) ds_nil)
      (ds_one (ds_ret (de_and (de_callB cad_isi (by rfl) T.isinstance (by decide +kernel) (da_cons (de_var 0 rfl) (da_cons (de_ty (n := "str") (by rfl) T.str (by decide +kernel)) da_nil))) (de_one (de_cmp opd_in (de_var 0 rfl) (de_tup (da_cons de_str (da_cons de_str (da_cons de_str da_nil))))))))))) ?_
  · exact FIsC.mono
  · exact FIsC.len
  · rintro ds μ Q E ⟨d, rfl, h, z⟩
    have sz := sizeLine_eq
    cases d with
    | bl b => exact ⟨_, rfl, _, _, _, _, _, rfl, .inr ⟨_, rfl, rfl⟩, .bl b, kit_bb, _, rfl, ift_ rfl ⟨_, _, .refl, z⟩⟩
    | str s =>
      refine ⟨_, rfl, _, _, _, _, _, rfl, .inr ⟨_, rfl, rfl⟩, .str s, kit_sb, _, rfl, iff_ rfl ?_⟩
      refine ⟨_, rfl, _, _, _, _, _, rfl, .inr ⟨_, rfl, rfl⟩, .str s, kit_ss, _, rfl, ift_ rfl ?_⟩
      refine ⟨_, rfl, by show 3 ≤ sizeLine; omega, Chs.map .str, rfl, rfl, flat_strs _, _, _, .refl, ?_⟩
      have z : Q (.bl (decide (s ∈ Chs))) μ := z
      rw [← inDD_strs] at z; exact z
    | non =>
      refine ⟨_, rfl, _, _, _, _, _, rfl, .inr ⟨_, rfl, rfl⟩, .non, kit_nb, _, rfl, iff_ rfl ?_⟩
      exact ⟨_, rfl, _, _, _, _, _, rfl, .inr ⟨_, rfl, rfl⟩, .non, kit_ns, _, rfl, iff_ rfl ⟨_, _, .refl, z⟩⟩
    | _ => exact h.elim

def chP : D → PyData
  | .bl b => .bool b
  | .str s => .str s
  | _ => .none
theorem chP_py {d : D} {μ : Sto} (h : isCh d) : pyS μ d = some (chP d) := by cases d <;> first | rfl | exact h.elim
theorem chP_len {d : D} (h : isCh d) : okR (chP d) ∧ (chP d).shown.length ≤ 100000 := by
  cases d with
  | bl b => cases b <;> exact ⟨okR_of rfl rfl rfl (by decide) (by decide), by decide +kernel⟩
  | non => exact ⟨okR_of rfl rfl rfl (by decide) (by decide), by decide +kernel⟩
  | str s =>
    have h2 := PyData.shown_le 40 (by decide) (.str s) (leaf_asc h.1)
    have w : PyData.weight (.str s) ≤ 100 := h.2
    exact ⟨okR_s h.1 (by have := h.2; omega), by show (PyData.shown (.str s)).length ≤ _; omega⟩
  | _ => exact h.elim
/-- the first entry that is refused, and whether for its name -/
def ofau : List (Str × D) → Option (Str × D × Bool)
  | [] => none
  | (s, d) :: r => if nameB s = false then some (s, d, true) else if chB d = false then some (s, d, false) else ofau r
abbrev sCkE : Stmt := top 54
abbrev nCkE : List Str := ["name", "change"]
theorem scCkE : FnScope nCkE ["name", "change"] (defScope sCkE) := ⟨rfl, rfl, rfl, by decide +kernel, rfl, by decide +kernel, by decide +kernel⟩
inductive FCkE (C_BadName C_BadChange : Addr) (ds : List D) (μ : Sto) (Q : QD) (E : XD) : Prop
  | mk (s : Str) (d : D) (a1 : ds = [.str s, d]) (a2 : Asc s) (a3 : s.length ≤ 100) (a4 : isCh d) (a5 : bdS μ.length μ = true) (a6 : (nameB s = true → chB d = true → Q .non μ)) (a7 : (nameB s = false → E (.ref C_BadName) [("name", .str s)] μ)) (a8 : (nameB s = true → chB d = false → E (.ref C_BadChange) [("change", d), ("name", .str s)] μ)) : FCkE C_BadName C_BadChange ds μ Q E
theorem FCkE.mono {C_BadName C_BadChange : Addr} : MonF (FCkE C_BadName C_BadChange) := fun ds μ Q Q' E E' h he q => match q with | .mk s d a1 a2 a3 a4 a5 a6 a7 a8 => .mk s d a1 a2 a3 a4 a5 (by intros; apply h; apply a6 <;> assumption) (by intros; apply he; apply a7 <;> assumption) (by intros; apply he; apply a8 <;> assumption)
theorem FCkE.len {C_BadName C_BadChange : Addr} : ∀ ds μ Q E, FCkE C_BadName C_BadChange ds μ Q E → ds.length = 2 := fun ds μ Q E q => by obtain ⟨_, _, e, _, _, _, _, _, _, _⟩ := q; rw [e]; rfl
theorem cal_cke (cChE : Cal P w K mg base 3 "check_name" (FChE C_BadName) []) (cIsC : Cal P w K mg base 1 "is_change" FIsC []) (erc_BadChange : Erc P w K mg base 1 "BadChange" C_BadChange eOk_BadChange eFl_BadChange) {f : Addr} {fd : FuncData} {qual : Str} (T : NoB mg) (Fu : Fun K "check_entry" qual sCkE f fd) (hm : mg "check_entry" = some (.ref f)) (hk : PySem.W.keepIn K (.ref f) = true) (hb : L2.Binds K fd ["name", "change"] []) : Cal P w K mg base 4 "check_entry" (FCkE C_BadName C_BadChange) [] := by
  have nd := scCkE.nd
  refine cal_fun Fu scCkE hm hk hb ?_ ?_ (fun cdv A outer s H E hG hr =>
    have hu : (cxOf (L2.CX P w) P w K mg base nCkE qual (defScope sCkE) f cdv A outer s H E).A.units + 64 < cLine := by have := hr.un; show (A.deeper _).units + 64 < _; omega
    have hv : (cxOf (L2.CX P w) P w K mg base nCkE qual (defScope sCkE) f cdv A outer s H E).A.units + 1 < cLine := by omega
    have tk := takes_of (X := cxOf (L2.CX P w) P w K mg base nCkE qual (defScope sCkE) f cdv A outer s H E) (E := E) rfl rfl rfl rfl
    have pw := passes_of (X := cxOf (L2.CX P w) P w K mg base nCkE qual (defScope sCkE) f cdv A outer s H E) rfl
    (ds_cons (ds_expr (de_call cChE hG hr (by decide) (by rfl) tk (da_cons (de_var 0 rfl) da_nil)))
      (ds_one (ds_if (dt_not (dt_val (de_call cIsC hG hr (by decide) (by rfl) tk (da_cons (de_var 1 rfl) da_nil)))) (ds_one (ds_raise erc_BadChange rfl hG hr (by decide) (by rfl) tk passL (da_cons (de_var 0 rfl) (da_cons (de_var 1 rfl) da_nil)))) ds_nil)))) ?_
  · exact FCkE.mono
  · exact FCkE.len
  · rintro ds μ Q E ⟨s, d, rfl, ha, hl, hd, hb', z, zb, zc⟩
    have sz := sizeLine_eq
    refine ⟨_, rfl, s, rfl, ha, hl, hb', fun hn => ?_, fun hn => ?_⟩
    · refine ⟨_, rfl, d, rfl, hd, _, rfl, ?_⟩
      cases hc : chB d with
      | true => exact ⟨_, _, .refl, z hn hc⟩
      | false =>
        obtain ⟨o1, o2⟩ := chP_len hd
        have h := PyData.shown_le 40 (by decide) (.str s) (leaf_asc ha)
        have wt : PyData.weight (.str s) ≤ 100 := hl
        have e0 : Str.empty.length = 0 := rfl
        have l2 : (" is no change of " : Str).length = 17 := by decide +kernel
        refine ⟨_, rfl, _, rfl, by show 2 ≤ 1000; omega, ⟨rfl, d, chP d, rfl, chP_py hd, o1, by rw [Str.length_append]; omega, by rw [Str.length_append, Str.length_append]; omega, .str s, .str s, rfl, rfl, okR_s ha (by omega), by rw [Str.length_append, Str.length_append, Str.length_append]; omega, trivial⟩, _, [], (List.append_nil _).symm, Nat.le_refl _, ?_, hb', zc hn hc⟩
        show (true && (d.bd _ && true)) = true
        rw [isCh_bd hd]; rfl
    · exact ⟨_, [], (List.append_nil _).symm, Nat.le_refl _, rfl, hb', zb hn⟩

abbrev esK (es : List (Str × D)) : List (Key × D) := es.map fun p => (.inr p.1, p.2)
def esOk (es : List (Str × D)) : Prop := ∀ p ∈ es, Asc p.1 ∧ p.1.length ≤ 100 ∧ isCh p.2
theorem esK_bd {es : List (Str × D)} {n : Nat} (h : esOk es) : bdK n (esK es) = true := by
  induction es with
  | nil => rfl
  | cons p es ih =>
    show (p.2.bd n && bdK n (esK es)) = true
    rw [isCh_bd (h p (List.mem_cons_self ..)).2.2, ih fun q hq => h q (List.mem_cons_of_mem _ hq)]; rfl
abbrev ouF (es : List (Str × D)) : List (Str × D) := [("_changes", .dct (esK es))]
theorem ofau_cons {s : Str} {d : D} {r : List (Str × D)} : ofau ((s, d) :: r) = if nameB s = false then some (s, d, true) else if chB d = false then some (s, d, false) else ofau r := rfl
abbrev sOIni : Stmt := inCls (top 55) 0
abbrev nOIni : List Str := ["self", "changes", "given", "name", "change"]
theorem scOIni : FnScope nOIni ["self", "changes"] (defScope sOIni) := ⟨rfl, rfl, rfl, by decide +kernel, rfl, by decide +kernel, by decide +kernel⟩
inductive FOIni (C_BadName C_BadChange C_Outcome : Addr) (ds : List D) (μ : Sto) (Q : QD) (E : XD) : Prop
  | mk (n : Nat) (c : D) (es : List (Str × D)) (a1 : ds = [.cell n, c]) (a2 : μ[n]? = some (.ins C_Outcome [])) (a3 : ((c = .non ∧ es = []) ∨ ∃ m, c = .cell m ∧ μ[m]? = some (.dct (esK es)))) (a4 : esOk es) (a5 : es.length ≤ 100) (a6 : bdS μ.length μ = true) (a7 : (ofau es = none → Q .non (μ.set n (.ins C_Outcome (ouF es))))) (a8 : (∀ s d, ofau es = some (s, d, true) → E (.ref C_BadName) [("name", .str s)] μ)) (a9 : (∀ s d, ofau es = some (s, d, false) → E (.ref C_BadChange) [("change", d), ("name", .str s)] μ)) : FOIni C_BadName C_BadChange C_Outcome ds μ Q E
theorem FOIni.mono {C_BadName C_BadChange C_Outcome : Addr} : MonF (FOIni C_BadName C_BadChange C_Outcome) := fun ds μ Q Q' E E' h he q => match q with | .mk n c es a1 a2 a3 a4 a5 a6 a7 a8 a9 => .mk n c es a1 a2 a3 a4 a5 a6 (by intros; apply h; apply a7 <;> assumption) (by intros; apply he; apply a8 <;> assumption) (by intros; apply he; apply a9 <;> assumption)
theorem FOIni.len {C_BadName C_BadChange C_Outcome : Addr} : ∀ ds μ Q E, FOIni C_BadName C_BadChange C_Outcome ds μ Q E → ds.length = 2 := fun ds μ Q E q => by obtain ⟨_, _, _, e, _, _, _, _, _, _, _, _⟩ := q; rw [e]; rfl
/-- an outcome and what it holds -/
def OuAt (C_Outcome : Addr) (es : List (Str × D)) (d : D) (μ : Sto) : Prop := asI μ d = some (C_Outcome, ouF es)
theorem es_keys {es : List (Str × D)} : ((esK es).map fun q => kOf q.1) = (es.map (·.1)).map D.str := by
  rw [List.map_map, List.map_map]; rfl
abbrev sONm : Stmt := inCls (top 55) 1
abbrev nONm : List Str := ["self"]
theorem scONm : FnScope nONm ["self"] (defScope sONm) := ⟨rfl, rfl, rfl, by decide +kernel, rfl, by decide +kernel, by decide +kernel⟩
inductive FONm (C_Outcome : Addr) (ds : List D) (μ : Sto) (Q : QD) (E : XD) : Prop
  | mk (d : D) (es : List (Str × D)) (a1 : ds = [d]) (a2 : OuAt C_Outcome es d μ) (a3 : es.length ≤ 100) (a4 : Q (.lst ((ordS (es.map (·.1))).map .str)) μ) : FONm C_Outcome ds μ Q E
theorem FONm.mono {C_Outcome : Addr} : MonF (FONm C_Outcome) := fun ds μ Q Q' E E' h he q => match q with | .mk d es a1 a2 a3 a4 => .mk d es a1 a2 a3 (h _ _ a4)
theorem FONm.len {C_Outcome : Addr} : ∀ ds μ Q E, FONm C_Outcome ds μ Q E → ds.length = 1 := fun ds μ Q E q => by obtain ⟨_, _, e, _, _, _⟩ := q; rw [e]; rfl
theorem met_ONm (na_changes : NoAttr K C_Outcome ("_changes" : Str)) {f : Addr} {fd : FuncData} {qual : Str} (T : NoB mg) (Fu : FunA K "names" qual sONm f fd) (cC : Cls K C_Outcome) (M : Meth K C_Outcome "names" f) (hb : L2.Binds K fd ["self"] []) : Met P w K mg base 1 C_Outcome "names" (FONm C_Outcome) [] := by
  have nd := scONm.nd
  refine met_fun Fu scONm cC M hb ?_ ?_ (fun cdv A outer s H E hG hr =>
    have hu : (cxOf (L2.CX P w) P w K mg base nONm qual (defScope sONm) f cdv A outer s H E).A.units + 64 < cLine := by have := hr.un; show (A.deeper _).units + 64 < _; omega
    have hv : (cxOf (L2.CX P w) P w K mg base nONm qual (defScope sONm) f cdv A outer s H E).A.units + 1 < cLine := by omega
    have tk := takes_of (X := cxOf (L2.CX P w) P w K mg base nONm qual (defScope sONm) f cdv A outer s H E) (E := E) rfl rfl rfl rfl
    have pw := passes_of (X := cxOf (L2.CX P w) P w K mg base nONm qual (defScope sONm) f cdv A outer s H E) rfl
    (ds_one (ds_ret (de_sortK hu (by rfl) T.sorted (by rfl) T.str (de_callTy (cad_listKD rfl) (by rfl) T.list (by decide +kernel) (da_cons (de_fld (de_var 0 rfl)) da_nil)))))) ?_
  · exact FONm.mono
  · exact FONm.len
  · rintro ds μ Q E ⟨d, es, rfl, h, hl, z⟩
    have sz := sizeLine_eq
    refine ⟨_, rfl, C_Outcome, _, _, h, cC, na_changes, rfl, _, esK es, rfl, rfl, by rw [List.length_map, List.length_map]; omega, ?_⟩
    rw [es_keys]
    exact ⟨es.map (·.1), rfl, _, _, .refl, z⟩
abbrev sOGi : Stmt := inCls (top 55) 3
abbrev nOGi : List Str := ["self", "name"]
theorem scOGi : FnScope nOGi ["self", "name"] (defScope sOGi) := ⟨rfl, rfl, rfl, by decide +kernel, rfl, by decide +kernel, by decide +kernel⟩
inductive FOGi (C_Outcome : Addr) (ds : List D) (μ : Sto) (Q : QD) (E : XD) : Prop
  | mk (d : D) (s : Str) (es : List (Str × D)) (a1 : ds = [d, .str s]) (a2 : OuAt C_Outcome es d μ) (a3 : Q ((valD (esK es) (.inr s)).getD .non) μ) : FOGi C_Outcome ds μ Q E
theorem FOGi.mono {C_Outcome : Addr} : MonF (FOGi C_Outcome) := fun ds μ Q Q' E E' h he q => match q with | .mk d s es a1 a2 a3 => .mk d s es a1 a2 (h _ _ a3)
theorem FOGi.len {C_Outcome : Addr} : ∀ ds μ Q E, FOGi C_Outcome ds μ Q E → ds.length = 2 := fun ds μ Q E q => by obtain ⟨_, _, _, e, _, _⟩ := q; rw [e]; rfl
theorem met_OGi (na_changes : NoAttr K C_Outcome ("_changes" : Str)) {f : Addr} {fd : FuncData} {qual : Str} (T : NoB mg) (Fu : FunA K "__getitem__" qual sOGi f fd) (cC : Cls K C_Outcome) (M : Meth K C_Outcome "__getitem__" f) (hb : L2.Binds K fd ["self", "name"] []) : Met P w K mg base 1 C_Outcome "__getitem__" (FOGi C_Outcome) [] := by
  have nd := scOGi.nd
  refine met_fun Fu scOGi cC M hb ?_ ?_ (fun cdv A outer s H E hG hr =>
    have hu : (cxOf (L2.CX P w) P w K mg base nOGi qual (defScope sOGi) f cdv A outer s H E).A.units + 64 < cLine := by have := hr.un; show (A.deeper _).units + 64 < _; omega
    have hv : (cxOf (L2.CX P w) P w K mg base nOGi qual (defScope sOGi) f cdv A outer s H E).A.units + 1 < cLine := by omega
    have tk := takes_of (X := cxOf (L2.CX P w) P w K mg base nOGi qual (defScope sOGi) f cdv A outer s H E) (E := E) rfl rfl rfl rfl
    have pw := passes_of (X := cxOf (L2.CX P w) P w K mg base nOGi qual (defScope sOGi) f cdv A outer s H E) rfl
    (ds_one (ds_ret (de_get1 hv (de_fld (de_var 0 rfl)) (de_var 1 rfl))))) ?_
  · exact FOGi.mono
  · exact FOGi.len
  · rintro ds μ Q E ⟨d, s, es, rfl, h, z⟩
    exact ⟨_, rfl, C_Outcome, _, _, h, cC, na_changes, rfl, esK es, rfl, _, rfl, esK es, _, rfl, rfl, _, _, .refl, z⟩
inductive FOCt (C_Outcome : Addr) (ds : List D) (μ : Sto) (Q : QD) (E : XD) : Prop
  | mk (d : D) (s : Str) (es : List (Str × D)) (a1 : ds = [d, .str s]) (a2 : OuAt C_Outcome es d μ) (a3 : Q (.bl (valD (esK es) (.inr s)).isSome) μ) : FOCt C_Outcome ds μ Q E
theorem FOCt.mono {C_Outcome : Addr} : MonF (FOCt C_Outcome) := fun ds μ Q Q' E E' h he q => match q with | .mk d s es a1 a2 a3 => .mk d s es a1 a2 (h _ _ a3)
theorem FOCt.len {C_Outcome : Addr} : ∀ ds μ Q E, FOCt C_Outcome ds μ Q E → ds.length = 2 := fun ds μ Q E q => by obtain ⟨_, _, _, e, _, _⟩ := q; rw [e]; rfl
inductive FOLn (C_Outcome : Addr) (ds : List D) (μ : Sto) (Q : QD) (E : XD) : Prop
  | mk (d : D) (es : List (Str × D)) (a1 : ds = [d]) (a2 : OuAt C_Outcome es d μ) (a3 : Q (.int (es.length : Nat)) μ) : FOLn C_Outcome ds μ Q E
theorem FOLn.mono {C_Outcome : Addr} : MonF (FOLn C_Outcome) := fun ds μ Q Q' E E' h he q => match q with | .mk d es a1 a2 a3 => .mk d es a1 a2 (h _ _ a3)
theorem FOLn.len {C_Outcome : Addr} : ∀ ds μ Q E, FOLn C_Outcome ds μ Q E → ds.length = 1 := fun ds μ Q E q => by obtain ⟨_, _, e, _, _⟩ := q; rw [e]; rfl
inductive FOEq (C_Outcome : Addr) (ds : List D) (μ : Sto) (Q : QD) (E : XD) : Prop
  | mk (a : D) (b : D) (a1 : ds = [a, b]) (a2 : OuAt C_Outcome [] a μ) (a3 : OuAt C_Outcome [] b μ) (a4 : Q (.bl true) μ) : FOEq C_Outcome ds μ Q E
theorem FOEq.mono {C_Outcome : Addr} : MonF (FOEq C_Outcome) := fun ds μ Q Q' E E' h he q => match q with | .mk a b a1 a2 a3 a4 => .mk a b a1 a2 a3 (h _ _ a4)
theorem FOEq.len {C_Outcome : Addr} : ∀ ds μ Q E, FOEq C_Outcome ds μ Q E → ds.length = 2 := fun ds μ Q E q => by obtain ⟨_, _, e, _, _, _⟩ := q; rw [e]; rfl
end
end Dl

/-! d.pop(k, other), d a dict that is a cell -/
namespace Dl
open PySem PySem.Spec L2
open PyProof.Rows hiding St Binds
section
variable {X : Cx} {W : WX} {o a b : Expr} {fo fa fb : FE} {apos cpos : Pos}
end
end Dl

/-! o[k] = v of a class of one's own, whose __setitem__ may raise -/
namespace Dl
open PySem PySem.Spec L2
open PyProof.Rows hiding St Binds
def sSetO (C : Addr) (F : FD) (fv fo fa : FE) : FS := fun A ρ μ => fv ρ μ (fun v m1 => fo ρ m1 (fun x m2 => fa ρ m2 (fun y m3 => ∃ fd, asI m3 x = some (C, fd) ∧ F [x, y, v] m3 (fun _ m4 => A.nx ρ m4) (fun c l m4 => A.ex c l ρ m4)) A.ex) A.ex) A.ex
section
variable {X : Cx} {W : WX} {o a e : Expr} {fo fa fv : FE} {pos pos' : Pos} {C : Addr} {F : FD} {j k : Nat}
theorem ds_setO (c : MetX X k C "__setitem__" F []) (hq : PySem.W.noSeq X.K C = true) (hG : X.A.guards = some []) (hr : Room j X.A) (hk : k ≤ j) (tk : Takes X W) (ho : DE X W o fo) (ha : DE X W a fa) (hv : DE X W e fv)
    (hs : swapsWith e (some (.Subscript o a pos')) pos.line X.env = pure false := by rfl) : DS X W (.Assign [.Subscript o a pos'] e pos) (sSetO C F fv fo fa) := by
  obtain ⟨f, fd0, ps, dvs, ds, Fg, hM, hbd, hvs, hd⟩ := c.ex
  refine ⟨fun ρ μ A B h q => hv.mono ρ μ _ _ _ _ (fun v m1 z => ho.mono ρ m1 _ _ _ _ (fun x m2 z => ha.mono ρ m2 _ _ _ _ (fun y m3 ⟨fd, e1, z⟩ => ⟨fd, e1, c.mono _ _ _ _ _ _ (fun _ _ z => h.nx _ _ z) (fun _ _ _ z => h.ex _ _ _ _ z) z⟩) (fun _ _ _ z => h.ex _ _ _ _ z) z) (fun _ _ _ z => h.ex _ _ _ _ z) z) (fun _ _ _ z => h.ex _ _ _ _ z) q, ?_⟩
  have run : PS X (.Assign [.Subscript o a pos'] e pos) (fun D σ H => rdE X.K W fv σ H fun v H1 => rdE X.K W fo σ H1 fun x H2 => rdE X.K W fa σ H2 fun y H3 => ∃ p dx fw, x = .ref p ∧ H3 p = some (.ins C dx fw) ∧
      spD X.K F ([x, y, v] ++ dvs) H3 (fun _ H' => D.nx σ H') (WE W σ)) := by
    refine ⟨fun pins s σ H D I h => ?_⟩
    refine wpAny_Assign_Subscript (thn (hv.run.run pins s σ H _ I h) fun r s1 ⟨v, H1, I1, rv, q1⟩ => thn (ho.run.run pins s1 σ H1 _ I1 q1) fun u s2 ⟨x, H2, I2, rx, q2⟩ => thn (ha.run.run pins s2 σ H2 _ I2 q2) fun iv s3 ⟨y, H3, I3, ry, p, dx, fw, ex, hp, q3⟩ => ?_) hs
    subst ex
    cases (show u = Value.ref p from rx)
    obtain ⟨mA, O, _, _, _, _⟩ := ins_get I3.hok hp
    obtain ⟨od, J, _⟩ := O.look
    obtain ⟨m, hF⟩ := I3.fr
    refine PySem.W.ksp_setItem hF I3.ok.mod.kin J hq hM.at_ hM.fn ?_
    refine wpAny_mono (g_run (us := [.ref p, iv, r]) (vs := [.ref p, y, v]) hG Fg (hr.mono hk) hbd hvs (passAt tk σ) I3 (.cons rfl (.cons ry (.cons rv .nil))) q3) (fun w s' z => ?_) fun _ _ z => z
    obtain ⟨z', H', I', rz, qz⟩ := z
    exact ⟨σ, H', I', qz⟩
  refine PS.imp run fun D σ H ⟨ι, ρ, μ, r, l, q⟩ => chS hv.mono rfl r l q fun y μ1 ι1 H1 v z g1 r1 l1 a1 => ?_
  refine chS (De := D) (A := KV X.K W ι1 H1 D) ho.mono rfl r1 l1 (ho.mono ρ μ1 _ _ _ _ (fun _ _ z => z) (fun _ _ _ z => WV.gr g1 z) z) fun x μ2 ι2 H2 u z g2 r2 l2 a2 => ?_
  refine chS (De := D) (A := KV X.K W ι2 H2 D) ha.mono rfl r2 l2 (ha.mono ρ μ2 _ _ _ _ (fun _ _ z => z) (fun _ _ _ z => WV.gr (g1.trans g2) z) z) fun w μ3 ι3 H3 t z g3 r3 l3 a3 => ?_
  obtain ⟨fd, e1, q3⟩ := z
  obtain ⟨p, dxx, fw, rfl, hp, _⟩ := asI_at r3 (a2.gr g3) e1
  have gr := (g1.trans g2).trans g3
  refine ⟨p, dxx, fw, rfl, hp, ι3, μ3, _, r3, (Ats.cons (a2.gr g3) (Ats.cons a3 (Ats.cons ((a1.gr g2).gr g3) Ats.nil))).app (hd ι3 H3), c.mono [x, w, y] μ3 _ _ _ _ (fun d' m3 z => ?_) (fun cl lf m3 z => ?_) q3⟩
  · intro ι4 H4 v4 g4 r4 a4
    exact z ι4 H4 σ (gr.trans g4) r4 (l3.gr g4)
  · intro ι4 H4 dd fv4 g4 r4 hdd p4
    exact z ι4 H4 dd fv4 σ (gr.trans g4) r4 hdd p4 (l3.gr g4)
end
end Dl

/-! two dicts compared, values without dicts -/
namespace Dl
open PySem PySem.Spec L2
open PyProof.Rows hiding St Binds
/-- a dict's values read as data -/
inductive DpK (K : PySem.W.Frag) (H : Hp) : List (Key × V) → List (Key × PyData) → Prop
  | nil : DpK K H [] []
  | cons {k : Key} {v : V} {p : PyData} {kv : List (Key × V)} {la : List (Key × PyData)} : Dp K H v p → DpK K H kv la → DpK K H ((k, v) :: kv) ((k, p) :: la)
def lookP (l : List (Key × PyData)) (k : Key) : Option PyData := (l.find? fun q => decide (q.1 = k)).map (·.2)
def hitP (lb : List (Key × PyData)) (q : Key × PyData) : Bool := match lookP lb q.1 with | some p => PyData.eqv q.2 p | none => false
/-- as many, and each one found there -/
def eqKP (la lb : List (Key × PyData)) : Bool := la.length == lb.length && la.all (hitP lb)
section
variable {K : PySem.W.Frag} {H : Hp}
theorem DpK.length : ∀ {kv : List (Key × V)} {la : List (Key × PyData)}, DpK K H kv la → kv.length = la.length
  | _, _, .nil => rfl
  | _, _, .cons _ h => congrArg (· + 1) h.length
theorem DpK.val {k : Key} : ∀ {kv : List (Key × V)} {la : List (Key × PyData)}, DpK K H kv la → (valV kv k = none ∧ lookP la k = none) ∨ ∃ v p, valV kv k = some v ∧ lookP la k = some p ∧ Dp K H v p ∧ (k, p) ∈ la
  | _, _, .nil => .inl ⟨rfl, rfl⟩
  | _, _, .cons (k := g) (v := v) (p := p) (kv := kv) (la := la) d h => by
    by_cases e : g = k
    · exact .inr ⟨v, p, by simp [valV, e], by simp [lookP, e], d, by rw [e]; exact List.mem_cons_self ..⟩
    · rcases h.val (k := k) with ⟨h1, h2⟩ | ⟨v', p', h1, h2, h3, h4⟩
      · exact .inl ⟨by simpa [valV, e] using h1, by simpa [lookP, e] using h2⟩
      · exact .inr ⟨v', p', by simpa [valV, e] using h1, by simpa [lookP, e] using h2, h3, List.mem_cons_of_mem _ h4⟩
end
section
variable {X : Cx} {pins : List (Addr × Obj)} {σ : L2.St} {H : Hp} {s : Shared} {A : Around}
end
end Dl

namespace Dl
open PySem PySem.Spec L2
open PyProof.Rows hiding St Binds
section
variable {P : Program} {w : World} {K : PySem.W.Frag} {mg : Str → Option Value} {base : Heap} {C_BadName C_BadChange C_Outcome : Addr}
abbrev ouG (c : D) : List (Str × D) := [("_changes", c)]
/-- an outcome, its table a datum or a cell -/
def OuG (C_Outcome : Addr) (es : List (Str × D)) (d : D) (μ : Sto) : Prop := ∃ c, asI μ d = some (C_Outcome, ouG c) ∧ asD μ c = some (esK es)
/-- an outcome that may change: its cell, its table's cell -/
structure OuM (C_Outcome : Addr) (es : List (Str × D)) (n m : Nat) (μ : Sto) : Prop where
  ins : μ[n]? = some (.ins C_Outcome (ouG (.cell m)))
  tab : μ[m]? = some (.dct (esK es))
theorem OuM.g {C : Addr} {es : List (Str × D)} {n m : Nat} {μ : Sto} (h : OuM C es n m μ) : OuG C es (.cell n) μ := ⟨.cell m, by simp only [asI, h.ins], by simp only [asD, h.tab]⟩
inductive FGNm (C_Outcome : Addr) (ds : List D) (μ : Sto) (Q : QD) (E : XD) : Prop
  | mk (d : D) (es : List (Str × D)) (a1 : ds = [d]) (a2 : OuG C_Outcome es d μ) (a3 : es.length ≤ 100) (a4 : Q (.lst ((ordS (es.map (·.1))).map .str)) μ) : FGNm C_Outcome ds μ Q E
theorem FGNm.mono {C_Outcome : Addr} : MonF (FGNm C_Outcome) := fun ds μ Q Q' E E' h he q => match q with | .mk d es a1 a2 a3 a4 => .mk d es a1 a2 a3 (h _ _ a4)
theorem FGNm.len {C_Outcome : Addr} : ∀ ds μ Q E, FGNm C_Outcome ds μ Q E → ds.length = 1 := fun ds μ Q E q => by obtain ⟨_, _, e, _, _, _⟩ := q; rw [e]; rfl
inductive FGGi (C_Outcome : Addr) (ds : List D) (μ : Sto) (Q : QD) (E : XD) : Prop
  | mk (d : D) (s : Str) (es : List (Str × D)) (a1 : ds = [d, .str s]) (a2 : OuG C_Outcome es d μ) (a3 : Q ((valD (esK es) (.inr s)).getD .non) μ) : FGGi C_Outcome ds μ Q E
theorem FGGi.mono {C_Outcome : Addr} : MonF (FGGi C_Outcome) := fun ds μ Q Q' E E' h he q => match q with | .mk d s es a1 a2 a3 => .mk d s es a1 a2 (h _ _ a3)
theorem FGGi.len {C_Outcome : Addr} : ∀ ds μ Q E, FGGi C_Outcome ds μ Q E → ds.length = 2 := fun ds μ Q E q => by obtain ⟨_, _, _, e, _, _⟩ := q; rw [e]; rfl
inductive FGCt (C_Outcome : Addr) (ds : List D) (μ : Sto) (Q : QD) (E : XD) : Prop
  | mk (d : D) (s : Str) (es : List (Str × D)) (a1 : ds = [d, .str s]) (a2 : OuG C_Outcome es d μ) (a3 : Q (.bl (valD (esK es) (.inr s)).isSome) μ) : FGCt C_Outcome ds μ Q E
theorem FGCt.mono {C_Outcome : Addr} : MonF (FGCt C_Outcome) := fun ds μ Q Q' E E' h he q => match q with | .mk d s es a1 a2 a3 => .mk d s es a1 a2 (h _ _ a3)
theorem FGCt.len {C_Outcome : Addr} : ∀ ds μ Q E, FGCt C_Outcome ds μ Q E → ds.length = 2 := fun ds μ Q E q => by obtain ⟨_, _, _, e, _, _⟩ := q; rw [e]; rfl
inductive FGLn (C_Outcome : Addr) (ds : List D) (μ : Sto) (Q : QD) (E : XD) : Prop
  | mk (d : D) (es : List (Str × D)) (a1 : ds = [d]) (a2 : OuG C_Outcome es d μ) (a3 : Q (.int (es.length : Nat)) μ) : FGLn C_Outcome ds μ Q E
theorem FGLn.mono {C_Outcome : Addr} : MonF (FGLn C_Outcome) := fun ds μ Q Q' E E' h he q => match q with | .mk d es a1 a2 a3 => .mk d es a1 a2 (h _ _ a3)
theorem FGLn.len {C_Outcome : Addr} : ∀ ds μ Q E, FGLn C_Outcome ds μ Q E → ds.length = 1 := fun ds μ Q E q => by obtain ⟨_, _, e, _, _⟩ := q; rw [e]; rfl
def esP (es : List (Str × D)) : List (Key × PyData) := es.map fun p => (.inr p.1, chP p.2)
theorem chP_plain {d : D} (h : isCh d) : (chP d).plain = true ∧ (chP d).depth ≤ 40 := by
  cases d <;> first | exact ⟨rfl, by simp [chP, PyData.depth]⟩ | exact h.elim
inductive FGEq (C_Outcome : Addr) (ds : List D) (μ : Sto) (Q : QD) (E : XD) : Prop
  | mk (a : D) (b : D) (ea : List (Str × D)) (eb : List (Str × D)) (a1 : ds = [a, b]) (a2 : OuG C_Outcome ea a μ) (a3 : OuG C_Outcome eb b μ) (a4 : (∀ p ∈ ea, isCh p.2)) (a5 : (∀ p ∈ eb, isCh p.2)) (a6 : Q (.bl (eqKP (esP ea) (esP eb))) μ) : FGEq C_Outcome ds μ Q E
theorem FGEq.mono {C_Outcome : Addr} : MonF (FGEq C_Outcome) := fun ds μ Q Q' E E' h he q => match q with | .mk a b ea eb a1 a2 a3 a4 a5 a6 => .mk a b ea eb a1 a2 a3 a4 a5 (h _ _ a6)
theorem FGEq.len {C_Outcome : Addr} : ∀ ds μ Q E, FGEq C_Outcome ds μ Q E → ds.length = 2 := fun ds μ Q E q => by obtain ⟨_, _, _, _, e, _, _, _, _, _⟩ := q; rw [e]; rfl
def dropE (es : List (Str × D)) (s : Str) : List (Str × D) := es.filter fun p => decide (p.1 ≠ s)
def putE (es : List (Str × D)) (s : Str) (v : D) : List (Str × D) := if (es.any fun p => decide (p.1 = s)) = true then es.map (fun p => if p.1 = s then (p.1, v) else p) else es ++ [(s, v)]
theorem put_es (es : List (Str × D)) (s : Str) (v : D) : putKD (esK es) (.inr s) v = esK (putE es s v) := by
  unfold putKD putE esK
  rw [List.any_map]
  have e : ((fun q : Key × D => decide (q.1 = Sum.inr s)) ∘ fun p : Str × D => ((Sum.inr p.1 : Key), p.2)) = fun p => decide (p.1 = s) := by
    funext p
    exact decide_eq_decide.mpr ⟨fun h => Sum.inr.inj h, fun h => congrArg Sum.inr h⟩
  rw [e]
  split
  · rw [List.map_map, List.map_map]
    refine List.map_congr_left fun p _ => ?_
    show (if (Sum.inr p.1 : Key) = .inr s then ((Sum.inr p.1 : Key), v) else (.inr p.1, p.2)) = _
    by_cases h : p.1 = s
    · simp [h]
    · have h' : ¬ (Sum.inr p.1 : Key) = .inr s := fun e => h (Sum.inr.inj e)
      simp [h, h']
  · rw [List.map_append]; rfl
inductive FGSi (C_BadName C_BadChange C_Outcome : Addr) (ds : List D) (μ : Sto) (Q : QD) (E : XD) : Prop
  | mk (n : Nat) (m : Nat) (s : Str) (v : D) (es : List (Str × D)) (a1 : ds = [.cell n, .str s, v]) (a2 : OuM C_Outcome es n m μ) (a3 : Asc s) (a4 : s.length ≤ 100) (a5 : isCh v) (a6 : es.length ≤ 1000) (a7 : bdS μ.length μ = true) (a8 : (nameB s = true → v = .non → Q .non (μ.set m (.dct (esK (dropE es s)))))) (a9 : (nameB s = true → v ≠ .non → chB v = true → Q .non (μ.set m (.dct (esK (putE es s v)))))) (a10 : (nameB s = false → E (.ref C_BadName) [("name", .str s)] μ)) (a11 : (nameB s = true → v ≠ .non → chB v = false → E (.ref C_BadChange) [("change", v), ("name", .str s)] μ)) : FGSi C_BadName C_BadChange C_Outcome ds μ Q E
theorem FGSi.mono {C_BadName C_BadChange C_Outcome : Addr} : MonF (FGSi C_BadName C_BadChange C_Outcome) := fun ds μ Q Q' E E' h he q => match q with | .mk n m s v es a1 a2 a3 a4 a5 a6 a7 a8 a9 a10 a11 => .mk n m s v es a1 a2 a3 a4 a5 a6 a7 (by intros; apply h; apply a8 <;> assumption) (by intros; apply h; apply a9 <;> assumption) (by intros; apply he; apply a10 <;> assumption) (by intros; apply he; apply a11 <;> assumption)
theorem FGSi.len {C_BadName C_BadChange C_Outcome : Addr} : ∀ ds μ Q E, FGSi C_BadName C_BadChange C_Outcome ds μ Q E → ds.length = 3 := fun ds μ Q E q => by obtain ⟨_, _, _, _, _, e, _, _, _, _, _, _, _, _, _, _⟩ := q; rw [e]; rfl
/-- a table of no entries is made first when none is handed in -/
def xOf : D → Sto
  | .non => [CT.dct []]
  | _ => []
inductive FGIni (C_BadName C_BadChange C_Outcome : Addr) (ds : List D) (μ : Sto) (Q : QD) (E : XD) : Prop
  | mk (n : Nat) (c : D) (es : List (Str × D)) (a1 : ds = [.cell n, c]) (a2 : μ[n]? = some (.ins C_Outcome [])) (a3 : ((c = .non ∧ es = []) ∨ ∃ m, c = .cell m ∧ μ[m]? = some (.dct (esK es)))) (a4 : esOk es) (a5 : es.length ≤ 100) (a6 : bdS μ.length μ = true) (a7 : (ofau es = none → Q .non (((μ ++ xOf c) ++ [CT.dct (esK es)]).set n (.ins C_Outcome (ouG (.cell (μ ++ xOf c).length)))))) (a8 : (∀ s d, ofau es = some (s, d, true) → E (.ref C_BadName) [("name", .str s)] μ)) (a9 : (∀ s d, ofau es = some (s, d, false) → E (.ref C_BadChange) [("change", d), ("name", .str s)] μ)) : FGIni C_BadName C_BadChange C_Outcome ds μ Q E
theorem FGIni.mono {C_BadName C_BadChange C_Outcome : Addr} : MonF (FGIni C_BadName C_BadChange C_Outcome) := fun ds μ Q Q' E E' h he q => match q with | .mk n c es a1 a2 a3 a4 a5 a6 a7 a8 a9 => .mk n c es a1 a2 a3 a4 a5 a6 (by intros; apply h; apply a7 <;> assumption) (by intros; apply he; apply a8 <;> assumption) (by intros; apply he; apply a9 <;> assumption)
theorem FGIni.len {C_BadName C_BadChange C_Outcome : Addr} : ∀ ds μ Q E, FGIni C_BadName C_BadChange C_Outcome ds μ Q E → ds.length = 2 := fun ds μ Q E q => by obtain ⟨_, _, _, e, _, _, _, _, _, _, _, _⟩ := q; rw [e]; rfl
abbrev sOCp : Stmt := inCls (top 55) 2
abbrev nOCp : List Str := ["self"]
theorem scOCp : FnScope nOCp ["self"] (defScope sOCp) := ⟨rfl, rfl, rfl, by decide +kernel, rfl, by decide +kernel, by decide +kernel⟩
inductive FGCp (C_Outcome : Addr) (ds : List D) (μ : Sto) (Q : QD) (E : XD) : Prop
  | mk (n : Nat) (m : Nat) (es : List (Str × D)) (a1 : ds = [.cell n]) (a2 : OuM C_Outcome es n m μ) (a3 : esOk es) (a4 : es.length ≤ 100) (a5 : ofau es = none) (a6 : bdS μ.length μ = true) (a7 : Q (.cell μ.length) (μ ++ [CT.ins C_Outcome (ouG (.cell (μ.length + 1))), CT.dct (esK es)])) : FGCp C_Outcome ds μ Q E
theorem FGCp.mono {C_Outcome : Addr} : MonF (FGCp C_Outcome) := fun ds μ Q Q' E E' h he q => match q with | .mk n m es a1 a2 a3 a4 a5 a6 a7 => .mk n m es a1 a2 a3 a4 a5 a6 (h _ _ a7)
theorem FGCp.len {C_Outcome : Addr} : ∀ ds μ Q E, FGCp C_Outcome ds μ Q E → ds.length = 1 := fun ds μ Q E q => by obtain ⟨_, _, _, e, _, _, _, _, _, _⟩ := q; rw [e]; rfl
/-- entries that an outcome takes -/
structure EsG (es : List (Str × D)) : Prop where
  ok : ∀ p ∈ es, Asc p.1 ∧ p.1.length ≤ 100 ∧ isCh p.2 ∧ nameB p.1 = true ∧ chB p.2 = true
  nd : (es.map (·.1)).Nodup
theorem EsG.es {es : List (Str × D)} (h : EsG es) : esOk es := fun p hp => ⟨(h.ok p hp).1, (h.ok p hp).2.1, (h.ok p hp).2.2.1⟩
theorem ofau_good : ∀ {es : List (Str × D)}, (∀ p ∈ es, nameB p.1 = true ∧ chB p.2 = true) → ofau es = none
  | [], _ => rfl
  | (s, d) :: es, h => by
    obtain ⟨h1, h2⟩ := h (s, d) (List.mem_cons_self ..)
    rw [ofau_cons, if_neg (by rw [h1]; simp), if_neg (by rw [h2]; simp)]
    exact ofau_good fun p hp => h p (List.mem_cons_of_mem _ hp)
theorem EsG.none {es : List (Str × D)} (h : EsG es) : ofau es = none := ofau_good fun p hp => (h.ok p hp).2.2.2
theorem EsG.drop {es : List (Str × D)} (h : EsG es) (s : Str) : EsG (dropE es s) :=
  ⟨fun p hp => h.ok p (List.mem_filter.mp hp).1, (List.filter_sublist.map _).nodup h.nd⟩
theorem putE_keys {es : List (Str × D)} {s : Str} {v : D} (h : (es.any fun p => decide (p.1 = s)) = true) : (putE es s v).map (·.1) = es.map (·.1) := by
  unfold putE
  rw [if_pos h, List.map_map]
  refine List.map_congr_left fun p _ => ?_
  show (if p.1 = s then (p.1, v) else p).1 = p.1
  by_cases e : p.1 = s <;> simp [e]
theorem EsG.put {es : List (Str × D)} (h : EsG es) {s : Str} {v : D} (ha : Asc s) (hl : s.length ≤ 100) (hn : nameB s = true) (hv : isCh v) (hc : chB v = true) : EsG (putE es s v) := by
  by_cases hany : (es.any fun p => decide (p.1 = s)) = true
  · refine ⟨fun p hp => ?_, by rw [putE_keys hany]; exact h.nd⟩
    unfold putE at hp
    rw [if_pos hany] at hp
    obtain ⟨q, hq, rfl⟩ := List.mem_map.mp hp
    obtain ⟨q1, q2, q3, q4, q5⟩ := h.ok q hq
    by_cases e : q.1 = s
    · rw [if_pos e]; exact ⟨q1, q2, hv, q4, hc⟩
    · rw [if_neg e]; exact ⟨q1, q2, q3, q4, q5⟩
  · unfold putE
    rw [if_neg hany]
    refine ⟨fun p hp => ?_, ?_⟩
    · rcases List.mem_append.mp hp with h1 | h1
      · exact h.ok p h1
      · rw [List.mem_singleton.mp h1]; exact ⟨ha, hl, hv, hn, hc⟩
    · rw [List.map_append, List.nodup_append]
      refine ⟨h.nd, by simp, fun a ha' b hb e => hany ?_⟩
      have hb' : b = s := by simpa using hb
      obtain ⟨p, hp, rfl⟩ := List.mem_map.mp ha'
      exact List.any_eq_true.mpr ⟨p, hp, decide_eq_true (e.trans hb')⟩
theorem putE_len {es : List (Str × D)} {s : Str} {v : D} : (putE es s v).length ≤ es.length + 1 := by
  unfold putE
  split
  · rw [List.length_map]; omega
  · rw [List.length_append]; exact Nat.le_refl _
theorem rest_set {rest : Sto} {c : CT} {k : Nat} (h : okRest rest) (b : c.bd (rest.length + 2) = true) : okRest (rest.set k c) := by
  unfold okRest at h ⊢
  rw [List.length_set]
  refine List.all_eq_true.mpr fun x hx => ?_
  rcases List.mem_or_eq_of_mem_set hx with h1 | rfl
  · exact List.all_eq_true.mp h x h1
  · exact b
end
end Dl

namespace Dl
open PySem PySem.Spec L2
open PyProof.Rows hiding St Binds
section
variable {P : Program} {w : World} {K : PySem.W.Frag} {mg : Str → Option Value} {base : Heap} {C_Condition C_BadName : Addr} {TR_RESERVED : Addr}
abbrev sNmA : Stmt := top 43
abbrev nNmA : List Str := ["words", "word"]
theorem scNmA : FnScope nNmA ["words"] (defScope sNmA) := ⟨rfl, rfl, rfl, by decide +kernel, rfl, by decide +kernel, by decide +kernel⟩
def pNm : D → Option D
  | .str s => if s ∈ Reserved then none else some (.str s)
  | _ => none
theorem pNm_map : ∀ ws : List Str, (ws.map D.str).filterMap pNm = (ws.filter fun w => decide (w ∉ Reserved)).map D.str
  | [] => rfl
  | w :: ws => by
    rw [List.map_cons, List.filterMap_cons, pNm_map ws, List.filter_cons]
    by_cases h : w ∈ Reserved <;> simp [pNm, h]
/-- the names among words that stem from conditions: some list in order that holds just them -/
inductive FNmA (ds : List D) (μ : Sto) (Q : QD) (E : XD) : Prop
  | mk (d : D) (ws : List Str) (ns : List Str) (a1 : ds = [d]) (a2 : asS μ d = some (ws.map .str)) (a3 : (∀ m, asS (μ ++ m) d = some (ws.map .str))) (a4 : ws.length < 1000) (a5 : ns.length < 64) (a6 : (∀ s ∈ ws, s ∉ Reserved → s ∈ ns)) (a7 : bdS μ.length μ = true) (a8 : ∀ ys : List Str, ys.Nodup → sortedS ys = true → (∀ y, y ∈ ys ↔ y ∈ ws ∧ y ∉ Reserved) → Q (.lst (ys.map .str)) μ) : FNmA ds μ Q E
theorem FNmA.mono  : MonF (FNmA) := fun ds μ Q Q' E E' h he q => match q with | .mk d ws ns a1 a2 a3 a4 a5 a6 a7 a8 => .mk d ws ns a1 a2 a3 a4 a5 a6 a7 (by intros; apply h; apply a8 <;> assumption)
theorem FNmA.len  : ∀ ds μ Q E, FNmA ds μ Q E → ds.length = 1 := fun ds μ Q E q => by obtain ⟨_, _, _, e, _, _, _, _, _, _, _⟩ := q; rw [e]; rfl
theorem cal_nma (hm_RESERVED : mg "RESERVED" = some (.ref TR_RESERVED)) (l_RESERVED : ∀ H0 : Hp, SqT K H0 TR_RESERVED (Reserved.map V.str)) {f : Addr} {fd : FuncData} {qual : Str} (T : NoB mg) (Fu : Fun K "names_among" qual sNmA f fd) (hm : mg "names_among" = some (.ref f)) (hk : PySem.W.keepIn K (.ref f) = true) (hb : L2.Binds K fd ["words"] []) : Cal P w K mg base 1 "names_among" FNmA [] := by
  have nd := scNmA.nd
  refine cal_fun Fu scNmA hm hk hb ?_ ?_ (fun cdv A outer s H E hG hr =>
    have hu : (cxOf (L2.CX P w) P w K mg base nNmA qual (defScope sNmA) f cdv A outer s H E).A.units + 64 < cLine := by have := hr.un; show (A.deeper _).units + 64 < _; omega
    have hv : (cxOf (L2.CX P w) P w K mg base nNmA qual (defScope sNmA) f cdv A outer s H E).A.units + 1 < cLine := by omega
    have tk := takes_of (X := cxOf (L2.CX P w) P w K mg base nNmA qual (defScope sNmA) f cdv A outer s H E) (E := E) rfl rfl rfl rfl
    have pw := passes_of (X := cxOf (L2.CX P w) P w K mg base nNmA qual (defScope sNmA) f cdv A outer s H E) rfl
    (ds_one (ds_ret (de_sortSet rfl (by rfl) T.sorted (by rfl) T.set (de_lc (own := [("word", 1)]) rfl nd (di_seq (de_var 0 rfl)) (blkOk_by (N := nNmA) (sc := defScope sNmA) (by decide +kernel)) (fun _ _ _ _ _ => (dgw_name (i := 1) nd rfl (Or.inl rfl) (by decide))) (fun _ _ _ _ _ => (dts_one (dt_cmp opd_notin (de_var 1 rfl) (de_mt (by rfl) hm_RESERVED l_RESERVED)))) (fun _ _ _ _ _ => (de_var 1 rfl))))))) ?_
  · exact FNmA.mono
  · exact FNmA.len
  · rintro ds μ Q E ⟨d, ws, ns, rfl, hd, hd', hl, n64, sub, hb', z⟩
    have sz := sizeLine_eq
    refine ⟨_, rfl, ws.map .str, hd, ?_⟩
    refine lc_pure pNm (fun c => hd' _) (fun x hx acc NX N0 n1 n2 => ?_) (by rw [List.length_map]; omega) (by rw [pNm_map]; exact bdL_strs _) hb' ?_
    · obtain ⟨s, _, rfl⟩ := List.mem_map.mp hx
      refine ⟨_, rfl, Reserved.map .str, rfl, rfl, flat_strs _, _, rfl, ite_c (fun h => ?_) (fun h => ?_)⟩
      · have h' : (!inDD (.str s) (Reserved.map .str)) = true := h
        rw [inDD_strs] at h'
        exact ⟨_, rfl, n1 _ (by simp at h'; simp [pNm, h'])⟩
      · have h' : (!inDD (.str s) (Reserved.map .str)) = false := h
        rw [inDD_strs] at h'
        exact n2 (by simp at h'; simp [pNm, h'])
    · rw [pNm_map]
      have mm : ∀ y, y ∈ ws.filter (fun w => decide (w ∉ Reserved)) ↔ y ∈ ws ∧ y ∉ Reserved := fun y => by simp [List.mem_filter]
      refine ⟨_, rfl, Nat.lt_of_le_of_lt (List.length_filter_le _ _) hl, ⟨ns, n64, fun y hy => sub y ((mm y).mp hy).1 ((mm y).mp hy).2⟩, fun ys h1 h2 h3 => ?_⟩
      exact ⟨_, _, .refl, z ys h1 h3 fun y => by rw [h2 y, mm y]⟩

inductive FWo (ds : List D) (μ : Sto) (Q : QD) (E : XD) : Prop
  | mk (ws : List Str) (kd : List (Key × D)) (d : D) (f : Str → Nat) (n : Nat) (a1 : ds = [.tup (ws.map .str), d]) (a2 : (∀ m, asD (μ ++ m) d = some kd)) (a3 : Wor kd f ws) (a4 : runN f ws [] = some [n]) (a5 : ws.length < 10000) (a6 : bdS μ.length μ = true) (a7 : Q (.int (n : Nat)) μ) : FWo ds μ Q E
theorem FWo.mono  : MonF (FWo) := fun ds μ Q Q' E E' h he q => match q with | .mk ws kd d f n a1 a2 a3 a4 a5 a6 a7 => .mk ws kd d f n a1 a2 a3 a4 a5 a6 (h _ _ a7)
theorem FWo.len  : ∀ ds μ Q E, FWo ds μ Q E → ds.length = 2 := fun ds μ Q E q => by obtain ⟨_, _, _, _, _, e, _, _, _, _, _, _⟩ := q; rw [e]; rfl
inductive FHf (ds : List D) (μ : Sto) (Q : QD) (E : XD) : Prop
  | mk (t : Tr) (e : D) (ns : List Str) (a1 : ds = [.tup (t.words.map .str), e]) (a2 : t.ok) (a3 : t.words.length < 1000) (a4 : (∀ m, asS (μ ++ m) e = some (ns.map .str))) (a5 : bdS μ.length μ = true) (a6 : Q (.bl (t.hold fun s => decide (s ∈ ns))) μ) : FHf ds μ Q E
theorem FHf.mono  : MonF (FHf) := fun ds μ Q Q' E E' h he q => match q with | .mk t e ns a1 a2 a3 a4 a5 a6 => .mk t e ns a1 a2 a3 a4 a5 (h _ _ a6)
theorem FHf.len  : ∀ ds μ Q E, FHf ds μ Q E → ds.length = 2 := fun ds μ Q E q => by obtain ⟨_, _, _, e, _, _, _, _, _⟩ := q; rw [e]; rfl
end
end Dl

namespace Dl
open PySem PySem.Spec L2
open PyProof.Rows hiding St Binds
section
variable {P : Program} {w : World} {K : PySem.W.Frag} {mg : Str → Option Value} {base : Heap} {C_Condition C_BadName : Addr} {TR_RESERVED : Addr}
abbrev sIni : Stmt := inCls (top 52) 0
abbrev nIni : List Str := ["self", "words"]
theorem scIni : FnScope nIni ["self", "words"] (defScope sIni) := ⟨rfl, rfl, rfl, by decide +kernel, rfl, by decide +kernel, by decide +kernel⟩
inductive FIni (C_Condition : Addr) (ds : List D) (μ : Sto) (Q : QD) (E : XD) : Prop
  | mk (n : Nat) (d : D) (ws : List Str) (a1 : ds = [.cell n, d]) (a2 : μ[n]? = some (.ins C_Condition [])) (a3 : asS μ d = some (ws.map .str)) (a4 : bdS μ.length μ = true) (a5 : Q .non (μ.set n (.ins C_Condition (wdF ws)))) : FIni C_Condition ds μ Q E
theorem FIni.mono {C_Condition : Addr} : MonF (FIni C_Condition) := fun ds μ Q Q' E E' h he q => match q with | .mk n d ws a1 a2 a3 a4 a5 => .mk n d ws a1 a2 a3 a4 (h _ _ a5)
theorem FIni.len {C_Condition : Addr} : ∀ ds μ Q E, FIni C_Condition ds μ Q E → ds.length = 2 := fun ds μ Q E q => by obtain ⟨_, _, _, e, _, _, _, _⟩ := q; rw [e]; rfl
theorem mak_cond (cls_Condition : Cls K C_Condition) (na_words : NoAttr K C_Condition ("_words" : Str)) {f : Addr} {fd : FuncData} {qual : Str} (T : NoB mg) (Fu : FunA K "__init__" qual sIni f fd) (hm : mg "Condition" = some (.ref C_Condition)) (M : Mk K C_Condition f) (hb : L2.Binds K fd ["self", "words"] []) : Mak P w K mg base 1 "Condition" C_Condition (FIni C_Condition) [] := by
  have nd := scIni.nd
  refine mak_fun Fu scIni hm M hb ?_ ?_ (fun cdv A outer s H E hG hr =>
    have hu : (cxOf (L2.CX P w) P w K mg base nIni qual (defScope sIni) f cdv A outer s H E).A.units + 64 < cLine := by have := hr.un; show (A.deeper _).units + 64 < _; omega
    have hv : (cxOf (L2.CX P w) P w K mg base nIni qual (defScope sIni) f cdv A outer s H E).A.units + 1 < cLine := by omega
    have tk := takes_of (X := cxOf (L2.CX P w) P w K mg base nIni qual (defScope sIni) f cdv A outer s H E) (E := E) rfl rfl rfl rfl
    have pw := passes_of (X := cxOf (L2.CX P w) P w K mg base nIni qual (defScope sIni) f cdv A outer s H E) rfl
    (ds_one (ds_fld (de_var 0 rfl) (de_callTy cad_tuple (by rfl) T.tuple (by decide +kernel) (da_cons (de_var 1 rfl) da_nil))))) ?_
  · exact FIni.mono
  · exact FIni.len
  · rintro ds μ Q E ⟨n, d, ws, rfl, hn, hd, hb', z⟩
    exact ⟨_, rfl, d, ws.map .str, rfl, hd, _, rfl, n, C_Condition, [], rfl, hn, cls_Condition, na_words, by decide, _, _, .refl, z⟩

theorem cond_bd {μ : Sto} {C : Addr} (b : bdS μ.length μ = true) : bdS (μ ++ [CT.ins C []]).length (μ ++ [CT.ins C []]) = true := by
  rw [bdS_app, Bool.and_eq_true]
  exact ⟨bdS_mono (by simp) b, rfl⟩
theorem cond_get {μ : Sto} {C : Addr} : (μ ++ [CT.ins C []])[μ.length]? = some (.ins C []) := by simp
theorem cond_fz {μ : Sto} {C : Addr} {ws : List Str} (b : bdS μ.length μ = true) : Fz μ.length (.cell μ.length) ((μ ++ [CT.ins C []]).set μ.length (.ins C (wdF ws))) (cD C ws) μ := by
  rw [List.set_append_right _ _ (Nat.le_refl _), Nat.sub_self]
  refine .ins (Nat.le_refl _) ?_ b .refl
  show ((D.tup (ws.map .str)).bd _ && true) = true
  rw [Bool.and_true]
  exact bdL_strs ws
theorem NameOk.nameB {s : Str} (h : NameOk s) : nameB s = true := by
  have a1 := h.pos
  have a2 := h.le
  have a3 := h.res
  have a4 : s.cps.toList.all lowS = true := List.all_eq_true.mpr fun c hc => decide_eq_true (h.low c hc)
  simp only [Dl.nameB, a1, a2, a3, a4, decide_true, decide_false, Bool.not_false, Bool.and_self]
abbrev sOf : Stmt := inCls (top 52) 1
abbrev nOf : List Str := ["name"]
theorem scOf : FnScope nOf ["name"] (defScope sOf) := ⟨rfl, rfl, rfl, by decide +kernel, rfl, by decide +kernel, by decide +kernel⟩
inductive FOf (C_Condition C_BadName : Addr) (ds : List D) (μ : Sto) (Q : QD) (E : XD) : Prop
  | mk (s : Str) (a1 : ds = [.str s]) (a2 : Asc s) (a3 : s.length ≤ 100) (a4 : bdS μ.length μ = true) (a5 : (nameB s = true → Q (cD C_Condition [s]) μ)) (a6 : (nameB s = false → E (.ref C_BadName) [("name", .str s)] μ)) : FOf C_Condition C_BadName ds μ Q E
theorem FOf.mono {C_Condition C_BadName : Addr} : MonF (FOf C_Condition C_BadName) := fun ds μ Q Q' E E' h he q => match q with | .mk s a1 a2 a3 a4 a5 a6 => .mk s a1 a2 a3 a4 (by intros; apply h; apply a5 <;> assumption) (by intros; apply he; apply a6 <;> assumption)
theorem FOf.len {C_Condition C_BadName : Addr} : ∀ ds μ Q E, FOf C_Condition C_BadName ds μ Q E → ds.length = 1 := fun ds μ Q E q => by obtain ⟨_, e, _, _, _, _, _⟩ := q; rw [e]; rfl
theorem sta_Of (cChE : Cal P w K mg base 3 "check_name" (FChE C_BadName) []) (cCo : Mak P w K mg base 1 "Condition" C_Condition (FIni C_Condition) []) {f : Addr} {fd : FuncData} {qual : Str} (T : NoB mg) (Fu : FunA K "of" qual sOf f fd) (M : SMet K C_Condition "of" f) (hb : L2.Binds K fd ["name"] []) : Sta P w K mg base 4 C_Condition "of" (FOf C_Condition C_BadName) [] := by
  have nd := scOf.nd
  refine sta_fun Fu scOf M hb ?_ ?_ (fun cdv A outer s H E hG hr =>
    have hu : (cxOf (L2.CX P w) P w K mg base nOf qual (defScope sOf) f cdv A outer s H E).A.units + 64 < cLine := by have := hr.un; show (A.deeper _).units + 64 < _; omega
    have hv : (cxOf (L2.CX P w) P w K mg base nOf qual (defScope sOf) f cdv A outer s H E).A.units + 1 < cLine := by omega
    have tk := takes_of (X := cxOf (L2.CX P w) P w K mg base nOf qual (defScope sOf) f cdv A outer s H E) (E := E) rfl rfl rfl rfl
    have pw := passes_of (X := cxOf (L2.CX P w) P w K mg base nOf qual (defScope sOf) f cdv A outer s H E) rfl
    (ds_cons (ds_expr (de_call cChE hG hr (by decide) (by rfl) tk (da_cons (de_var 0 rfl) da_nil)))
      (ds_one (ds_ret (de_make cCo hG hr (by decide) (by rfl) tk (da_cons (de_lstD (da_cons (de_var 0 rfl) da_nil)) da_nil)))))) ?_
  · exact FOf.mono
  · exact FOf.len
  · rintro ds μ Q E ⟨s, rfl, ha, hl, hb', z, z2⟩
    have sz := sizeLine_eq
    refine ⟨_, rfl, s, rfl, ha, hl, hb', fun hn => ?_, fun hn => ?_⟩
    · exact ⟨_, rfl, by show 1 ≤ sizeLine; omega, _, _, [s], rfl, cond_get, rfl, cond_bd hb', rfl, _, _, cond_fz hb', _, _, .refl, z hn⟩
    · exact ⟨_, [], (List.append_nil _).symm, Nat.le_refl _, rfl, hb', z2 hn⟩
abbrev sAl : Stmt := inCls (top 52) 2
abbrev nAl : List Str := []
theorem scAl : FnScope nAl [] (defScope sAl) := ⟨rfl, rfl, rfl, by decide +kernel, rfl, by decide +kernel, by decide +kernel⟩
inductive FCon (C_Condition : Addr) (x : Str) (ds : List D) (μ : Sto) (Q : QD) (E : XD) : Prop
  | mk (a1 : ds = []) (a2 : bdS μ.length μ = true) (a3 : Q (cD C_Condition [x]) μ) : FCon C_Condition x ds μ Q E
theorem FCon.mono {C_Condition : Addr} {x : Str} : MonF (FCon C_Condition x) := fun ds μ Q Q' E E' h he q => match q with | .mk  a1 a2 a3 => .mk  a1 a2 (h _ _ a3)
theorem FCon.len {C_Condition : Addr} {x : Str} : ∀ ds μ Q E, FCon C_Condition x ds μ Q E → ds.length = 0 := fun ds μ Q E q => by obtain ⟨e, _, _⟩ := q; rw [e]; rfl
theorem sta_Al (cCo : Mak P w K mg base 1 "Condition" C_Condition (FIni C_Condition) []) {f : Addr} {fd : FuncData} {qual : Str} (T : NoB mg) (Fu : FunA K "always" qual sAl f fd) (M : SMet K C_Condition "always" f) (hb : L2.Binds K fd [] []) : Sta P w K mg base 3 C_Condition "always" (FCon C_Condition ("always" : Str)) [] := by
  have nd := scAl.nd
  refine sta_fun Fu scAl M hb ?_ ?_ (fun cdv A outer s H E hG hr =>
    have hu : (cxOf (L2.CX P w) P w K mg base nAl qual (defScope sAl) f cdv A outer s H E).A.units + 64 < cLine := by have := hr.un; show (A.deeper _).units + 64 < _; omega
    have hv : (cxOf (L2.CX P w) P w K mg base nAl qual (defScope sAl) f cdv A outer s H E).A.units + 1 < cLine := by omega
    have tk := takes_of (X := cxOf (L2.CX P w) P w K mg base nAl qual (defScope sAl) f cdv A outer s H E) (E := E) rfl rfl rfl rfl
    have pw := passes_of (X := cxOf (L2.CX P w) P w K mg base nAl qual (defScope sAl) f cdv A outer s H E) rfl
    (ds_one (ds_ret (de_make cCo hG hr (by decide) (by rfl) tk (da_cons (de_lstD (da_cons de_str da_nil)) da_nil))))) ?_
  · exact FCon.mono
  · exact FCon.len
  · rintro ds μ Q E ⟨rfl, hb', z⟩
    have sz := sizeLine_eq
    exact ⟨by show 1 ≤ sizeLine; omega, _, _, [("always" : Str)], rfl, cond_get, rfl, cond_bd hb', rfl, _, _, cond_fz hb', _, _, .refl, z⟩
abbrev sNv : Stmt := inCls (top 52) 3
abbrev nNv : List Str := []
theorem scNv : FnScope nNv [] (defScope sNv) := ⟨rfl, rfl, rfl, by decide +kernel, rfl, by decide +kernel, by decide +kernel⟩
theorem sta_Nv (cCo : Mak P w K mg base 1 "Condition" C_Condition (FIni C_Condition) []) {f : Addr} {fd : FuncData} {qual : Str} (T : NoB mg) (Fu : FunA K "never" qual sNv f fd) (M : SMet K C_Condition "never" f) (hb : L2.Binds K fd [] []) : Sta P w K mg base 3 C_Condition "never" (FCon C_Condition ("never" : Str)) [] := by
  have nd := scNv.nd
  refine sta_fun Fu scNv M hb ?_ ?_ (fun cdv A outer s H E hG hr =>
    have hu : (cxOf (L2.CX P w) P w K mg base nNv qual (defScope sNv) f cdv A outer s H E).A.units + 64 < cLine := by have := hr.un; show (A.deeper _).units + 64 < _; omega
    have hv : (cxOf (L2.CX P w) P w K mg base nNv qual (defScope sNv) f cdv A outer s H E).A.units + 1 < cLine := by omega
    have tk := takes_of (X := cxOf (L2.CX P w) P w K mg base nNv qual (defScope sNv) f cdv A outer s H E) (E := E) rfl rfl rfl rfl
    have pw := passes_of (X := cxOf (L2.CX P w) P w K mg base nNv qual (defScope sNv) f cdv A outer s H E) rfl
    (ds_one (ds_ret (de_make cCo hG hr (by decide) (by rfl) tk (da_cons (de_lstD (da_cons de_str da_nil)) da_nil))))) ?_
  · exact FCon.mono
  · exact FCon.len
  · rintro ds μ Q E ⟨rfl, hb', z⟩
    have sz := sizeLine_eq
    exact ⟨by show 1 ≤ sizeLine; omega, _, _, [("never" : Str)], rfl, cond_get, rfl, cond_bd hb', rfl, _, _, cond_fz hb', _, _, .refl, z⟩
abbrev sNms : Stmt := inCls (top 52) 4
abbrev nNms : List Str := ["self"]
theorem scNms : FnScope nNms ["self"] (defScope sNms) := ⟨rfl, rfl, rfl, by decide +kernel, rfl, by decide +kernel, by decide +kernel⟩
/-- the names of a condition's words, in order -/
inductive FNms (C_Condition : Addr) (ds : List D) (μ : Sto) (Q : QD) (E : XD) : Prop
  | mk (t : Tr) (a1 : ds = [cD C_Condition t.words]) (a2 : t.ok) (a3 : t.words.length < 1000) (a4 : (∃ ns : List Str, ns.length < 64 ∧ ∀ s ∈ t.nms, s ∈ ns)) (a5 : bdS μ.length μ = true) (a6 : ∀ ys : List Str, ys.Nodup → sortedS ys = true → (∀ y, y ∈ ys ↔ y ∈ t.nms) → Q (.lst (ys.map .str)) μ) : FNms C_Condition ds μ Q E
theorem FNms.mono {C_Condition : Addr} : MonF (FNms C_Condition) := fun ds μ Q Q' E E' h he q => match q with | .mk t a1 a2 a3 a4 a5 a6 => .mk t a1 a2 a3 a4 a5 (by intros; apply h; apply a6 <;> assumption)
theorem FNms.len {C_Condition : Addr} : ∀ ds μ Q E, FNms C_Condition ds μ Q E → ds.length = 1 := fun ds μ Q E q => by obtain ⟨_, e, _, _, _, _, _⟩ := q; rw [e]; rfl
theorem met_Nms (na_words : NoAttr K C_Condition ("_words" : Str)) (cnma : Cal P w K mg base 1 "names_among" FNmA []) {f : Addr} {fd : FuncData} {qual : Str} (T : NoB mg) (Fu : FunA K "names" qual sNms f fd) (cC : Cls K C_Condition) (M : Meth K C_Condition "names" f) (hb : L2.Binds K fd ["self"] []) : Met P w K mg base 2 C_Condition "names" (FNms C_Condition) [] := by
  have nd := scNms.nd
  refine met_fun Fu scNms cC M hb ?_ ?_ (fun cdv A outer s H E hG hr =>
    have hu : (cxOf (L2.CX P w) P w K mg base nNms qual (defScope sNms) f cdv A outer s H E).A.units + 64 < cLine := by have := hr.un; show (A.deeper _).units + 64 < _; omega
    have hv : (cxOf (L2.CX P w) P w K mg base nNms qual (defScope sNms) f cdv A outer s H E).A.units + 1 < cLine := by omega
    have tk := takes_of (X := cxOf (L2.CX P w) P w K mg base nNms qual (defScope sNms) f cdv A outer s H E) (E := E) rfl rfl rfl rfl
    have pw := passes_of (X := cxOf (L2.CX P w) P w K mg base nNms qual (defScope sNms) f cdv A outer s H E) rfl
    (ds_one (ds_ret (de_call cnma hG hr (by decide) (by rfl) tk (da_cons (de_fld (de_var 0 rfl)) da_nil))))) ?_
  · exact FNms.mono
  · exact FNms.len
  · rintro ds μ Q E ⟨t, rfl, ht, hl, ⟨ns, n64, sub⟩, hb', z⟩
    have mm : ∀ y, y ∈ t.nms ↔ y ∈ t.words ∧ y ∉ Reserved := fun y => by rw [← Tr.nms_eq ht]; simp [List.mem_filter]
    refine ⟨_, rfl, C_Condition, wdF t.words, _, rfl, cC, na_words, rfl, _, t.words, ns, rfl, rfl, fun _ => rfl, hl, n64, fun s h1 h2 => sub s ((mm s).mpr ⟨h1, h2⟩), hb', fun ys h1 h2 h3 => ?_⟩
    exact ⟨_, _, .refl, z ys h1 h2 fun y => by rw [h3 y, mm y]⟩
inductive FHo (C_Condition : Addr) (ds : List D) (μ : Sto) (Q : QD) (E : XD) : Prop
  | mk (t : Tr) (e : D) (ns : List Str) (a1 : ds = [cD C_Condition t.words, e]) (a2 : t.ok) (a3 : t.words.length < 1000) (a4 : (∀ m, asS (μ ++ m) e = some (ns.map .str))) (a5 : bdS μ.length μ = true) (a6 : Q (.bl (t.hold fun s => decide (s ∈ ns))) μ) : FHo C_Condition ds μ Q E
theorem FHo.mono {C_Condition : Addr} : MonF (FHo C_Condition) := fun ds μ Q Q' E E' h he q => match q with | .mk t e ns a1 a2 a3 a4 a5 a6 => .mk t e ns a1 a2 a3 a4 a5 (h _ _ a6)
theorem FHo.len {C_Condition : Addr} : ∀ ds μ Q E, FHo C_Condition ds μ Q E → ds.length = 2 := fun ds μ Q E q => by obtain ⟨_, _, _, e, _, _, _, _, _⟩ := q; rw [e]; rfl
end
end Dl

/-! sorted(texts, key=str), a list that may be changed -/
namespace Dl
open PySem PySem.Spec L2
open PyProof.Rows hiding St Binds
section
variable {X : Cx}
end
end Dl

/-! {k: v, ..} with written keys -/
namespace Dl
open PySem PySem.Spec L2
open PyProof.Rows hiding St Binds
/-- the pairs, from the left -/
def fPs : List (FE × FE) → Rho → Sto → (List (D × D) → Sto → Prop) → ED → Prop
  | [], _, μ, Q, _ => Q [] μ
  | (fk, fv) :: r, ρ, μ, Q, E => fk ρ μ (fun x m1 => fv ρ m1 (fun y m2 => fPs r ρ m2 (fun ps m3 => Q ((x, y) :: ps) m3) E) E) E
def fDisp (l : List (FE × FE)) : FE := fun ρ μ Q E => fPs l ρ (μ ++ [.dct []]) (fun ps m => m[μ.length]? = some (.dct []) ∧ ∃ kd : List (Key × D), ps = kd.map (fun q => (kOf q.1, q.2)) ∧ kd.length ≤ 15 ∧
  ∃ d2 μ2, Fz μ.length (.cell μ.length) (m.set μ.length (.dct (mergeKD [] kd))) d2 μ2 ∧ Q d2 μ2) E
inductive DPs (X : Cx) (W : WX) : List (Option Expr) → List Expr → List (FE × FE) → Prop
  | nil : DPs X W [] [] []
  | cons {k v : Expr} {ks : List (Option Expr)} {vs : List Expr} {fk fv : FE} {l : List (FE × FE)} (hk : DE X W k fk) (hv : DE X W v fv) (r : DPs X W ks vs l) : DPs X W (some k :: ks) (v :: vs) ((fk, fv) :: l)
section
variable {X : Cx} {W : WX} {ks : List (Option Expr)} {vs : List Expr} {l : List (FE × FE)} {pos : Pos}
theorem DPs.mono (h : DPs X W ks vs l) : ∀ ρ μ (Q Q' : List (D × D) → Sto → Prop) (E E' : ED), (∀ d m, Q d m → Q' d m) → (∀ c a m, E c a ρ m → E' c a ρ m) → fPs l ρ μ Q E → fPs l ρ μ Q' E' := by
  induction h with
  | nil => intro ρ μ Q Q' E E' h _ q; exact h _ _ q
  | cons hk hv r ih =>
    intro ρ μ Q Q' E E' h he q
    exact hk.mono ρ μ _ _ E E' (fun x m1 z => hv.mono ρ m1 _ _ E E' (fun y m2 z => ih ρ m2 _ _ E E' (fun ps m3 z => h _ _ z) he z) he z) he q
abbrev trsOf (K : PySem.W.Frag) (W : WX) (l : List (FE × FE)) : List (TE × TE) := l.map fun p => (rdE K W p.1, rdE K W p.2)
theorem DPs.pps (h : DPs X W ks vs l) : PPs X pos ks vs (trsOf X.K W l) := by
  induction h with
  | nil => exact pps_nil
  | cons hk hv r ih => exact pps_cons hk.run hv.run ih
def PA2 (K : PySem.W.Frag) (ι : Io) (H : Hp) (us : List (V × V)) (ps : List (D × D)) : Prop := Ats K ι H (us.map (·.1)) (ps.map (·.1)) ∧ Ats K ι H (us.map (·.2)) (ps.map (·.2))
theorem DPs.chain (h : DPs X W ks vs l) : ∀ {K : PySem.W.Frag} (hK : K = X.K) {ι : Io} {H : Hp} {σ : L2.St} {ρ : Rho} {μ : Sto} {R : List (V × V) → Hp → Prop} {Pq : List (D × D) → Sto → Prop}, Rep K ι μ H → Loc K ι H σ ρ → fPs l ρ μ Pq (EW K ι H W σ) →
    (∀ ps μ1 ι1 H1 us, Pq ps μ1 → Gr ι H ι1 H1 → Rep K ι1 μ1 H1 → Loc K ι1 H1 σ ρ → PA2 K ι1 H1 us ps → R us H1) → tPairs (trsOf K W l) σ H R := by
  induction h with
  | nil => intro K hK ι H σ ρ μ R Pq r lo q k; exact k [] μ ι H [] q (Gr.refl _ _) r lo ⟨Ats.nil, Ats.nil⟩
  | cons hk hv rr ih =>
    intro K hK ι H σ ρ μ R Pq r lo q k
    refine chain1 hk.mono r lo q fun x μ1 ι1 H1 u z g1 r1 l1 a1 => ?_
    refine chain1 hv.mono r1 l1 (hv.mono ρ μ1 _ _ _ _ (fun _ _ z => z) (fun _ _ _ z => EW.gr g1 z) z) fun y μ2 ι2 H2 w z g2 r2 l2 a2 => ?_
    refine ih hK r2 l2 (rr.mono ρ μ2 _ _ _ _ (fun _ _ z => z) (fun _ _ _ z => EW.gr (g1.trans g2) z) z) fun ps μ3 ι3 H3 us z g3 r3 l3 a3 => ?_
    exact k _ μ3 ι3 H3 _ z ((g1.trans g2).trans g3) r3 l3 ⟨Ats.cons ((a1.gr g2).gr g3) a3.1, Ats.cons (a2.gr g3) a3.2⟩
theorem kD_kOf (k : Key) : kD (kOf k) = some k := by cases k <;> rfl
theorem pa2_kd {K : PySem.W.Frag} {ι : Io} {H : Hp} : ∀ {kd : List (Key × D)} {us : List (V × V)}, PA2 K ι H us (kd.map fun q => (kOf q.1, q.2)) → ∃ kvs : List (Key × V), us = kvs.map (fun kv => (kV kv.1, kv.2)) ∧ Pts K ι H kvs kd
  | [], us, h => by
    have := h.1.1
    have e : us = [] := by simpa using this
    subst e
    exact ⟨[], rfl, Pts.nil⟩
  | q :: kd, us, h => by
    cases us with
    | nil => have := h.1.1; simp at this
    | cons u us =>
      obtain ⟨v1, vs1, e1, a1, r1⟩ := h.1.uncons
      obtain ⟨v2, vs2, e2, a2, r2⟩ := h.2.uncons
      simp only [List.map_cons, List.cons.injEq] at e1 e2
      obtain ⟨e1, e1'⟩ := e1
      obtain ⟨e2, e2'⟩ := e2
      subst e1 e1' e2 e2'
      obtain ⟨kvs, h1, h2⟩ := pa2_kd (kd := kd) (us := us) ⟨r1, r2⟩
      have hk := kD_at a1 (kD_kOf q.1)
      exact ⟨(q.1, u.2) :: kvs, by rw [List.map_cons, ← h1]; exact congrArg (· :: us) (by rw [← hk]), Pts.cons a2 h2⟩
theorem de_disp (h : DPs X W ks vs l) (hall : ks.all (·.isSome) = true := by rfl) (hl : ks.length = vs.length := by rfl) (h0 : ks ≠ [] := by exact fun e => nomatch e) (h15 : ks.length ≤ 15 := by decide) : DE X W (.Dict ks vs pos) (fDisp l) :=
  ⟨fun ρ μ Q Q' E E' hq he q => h.mono ρ _ _ _ E E' (fun ps m ⟨e1, kd, e2, e3, d2, μ2, fz, z⟩ => ⟨e1, kd, e2, e3, d2, μ2, fz, hq _ _ z⟩) he q,
   PE.imp (pe_disp h.pps hall hl h0 h15) fun σ H Q ⟨ι, ρ, μ, r, lo, q⟩ => fun p hp => by
    have n1 := r.free hp
    have g1 := Gr.cellNew (o := .dK []) hp n1
    have r1 := r.cellNew (o := .dK []) (c := .dct []) hp ⟨[], upd_same, Pts.nil⟩
    have at1 : (ι ++ [p])[μ.length]? = some p := by rw [List.getElem?_append_right (by rw [r.len]; exact Nat.le_refl _), r.len, Nat.sub_self]; rfl
    refine h.chain rfl r1 (lo.gr g1) (h.mono ρ _ _ _ _ _ (fun _ _ z => z) (fun _ _ _ z => EW.gr g1 z) q) fun ps μ1 ι1 H1 us z g2 r2 l2 a2 => ?_
    obtain ⟨e1, kd, rfl, l15, d2, μ2, fz, zz⟩ := z
    have at2 := g2.pre _ _ at1
    obtain ⟨kv0, hp1, p0⟩ := r2.at_ _ _ _ at2 e1
    cases nil_pts p0
    obtain ⟨kvs, rfl, pt⟩ := pa2_kd a2
    refine ⟨hp1, kvs, rfl, by rw [pt.length]; exact l15, ?_⟩
    have m1 := pt.merge Pts.nil
    have gc := Gr.chg (H := H1) (o := .dK (mergeK [] kvs)) (List.mem_of_getElem? at2)
    have r3 := r2.chg (c := .dct (mergeKD [] kd)) at2 ⟨_, upd_same, m1.gr gc⟩
    obtain ⟨ι', s1, s2, s3⟩ := fz.sound (ι0 := ι) (H0 := H) r.len r3 (.cell at2) ((g1.trans g2).trans gc)
    exact zz ι' _ _ s3 s1 s2⟩
end
end Dl

/-! a < b < c as a test -/
namespace Dl
open PySem PySem.Spec L2
open PyProof.Rows hiding St Binds
section
variable {X : Cx} {W : WX} {a b c : Expr} {fa fb fc : FE} {pos : Pos}
theorem dt_chain {op op' : CmpOp} {g g' : G2} (o1 : OpD X (compareOp op) g) (o2 : OpD X (compareOp op') g') (ha : DE X W a fa) (hb : DE X W b fb) (hc : DE X W c fc) (hm : lastMarks [op, op'] [b, c] = false := by with_unfolding_all rfl) : DT X W (.Compare a [op, op'] [b, c] pos) (fB (fChain g g' fa fb fc)) := by
  obtain ⟨r1, p1, k1⟩ := o1.run
  obtain ⟨r2, p2, k2⟩ := o2.run
  have mn := mChain o1.mono o2.mono ha.mono hb.mono hc.mono
  refine ⟨mB mn, PT.imp (pt_chain p1 p2 ha.run hb.run hc.run hm) fun σ H Q0 h => ?_⟩
  let Q : VK := fun x H' => ∃ k, x = .bl k ∧ Q0 k H'
  obtain ⟨ι, ρ, μ, r, l, q0⟩ := h
  have q : fChain g g' fa fb fc ρ μ (QV X.K ι H Q) (EW X.K ι H W σ) := mn ρ μ _ _ _ _ (fun d m z => by
    obtain ⟨k, rfl, z⟩ := z
    intro ι1 H1 v g1 r1 a1
    cases a1
    exact ⟨k, rfl, z ι1 H1 g1 r1⟩) (fun _ _ _ z => z) q0
  refine chain1 ha.mono r l q fun x μ1 ι1 H1 v z g1 r1 l1 a1 => ?_
  refine chain1 hb.mono r1 l1 (hb.mono ρ μ1 _ _ _ _ (fun _ _ z => z) (fun _ _ _ z => EW.gr g1 z) z) fun y μ2 ι2 H2 u z g2 r2 l2 a2 => ?_
  refine k1 ι2 H2 μ2 v u x y _ r2 (a1.gr g2) a2 (o1.mono _ _ _ _ _ (fun d m3 z => ?_) z)
  intro ι3 H3 t g3 r3 a3
  obtain ⟨k, rfl, z⟩ := z
  cases a3
  refine ⟨k, rfl, ?_⟩
  have gg := (g1.trans g2).trans g3
  cases k with
  | true =>
    refine chain1 hc.mono r3 (l2.gr g3) (hc.mono ρ m3 _ _ _ _ (fun _ _ z => z) (fun _ _ _ z => EW.gr gg z) z) fun w μ4 ι4 H4 s z g4 r4 l4 a4 => ?_
    exact k2 ι4 H4 μ4 u s y w Q r4 ((a2.gr g3).gr g4) a4 (o2.mono _ _ _ _ _ (fun d m z => QV.gr (gg.trans g4) z) z)
  | false => exact z ι3 H3 _ gg r3 (.bl _)
end
end Dl

namespace Dl
open PySem PySem.Spec L2
open PyProof.Rows hiding St Binds
section
variable {P : Program} {w : World} {K : PySem.W.Frag} {mg : Str → Option Value} {base : Heap} {C_BadName C_BadChange C_Outcome C_Action C_Condition : Addr}
/-! ### outcomes and actions as data -/
abbrev Es := List (Str × D)
inductive FOIniD (C_Outcome : Addr) (ds : List D) (μ : Sto) (Q : QD) (E : XD) : Prop
  | mk (n : Nat) (es : Es) (a1 : ds = [.cell n, .dct (esK es)]) (a2 : μ[n]? = some (.ins C_Outcome [])) (a3 : EsG es) (a4 : bdS μ.length μ = true) (a5 : Q .non (μ.set n (.ins C_Outcome (ouF es)))) : FOIniD C_Outcome ds μ Q E
theorem FOIniD.mono {C_Outcome : Addr} : MonF (FOIniD C_Outcome) := fun ds μ Q Q' E E' h he q => match q with | .mk n es a1 a2 a3 a4 a5 => .mk n es a1 a2 a3 a4 (h _ _ a5)
theorem FOIniD.len {C_Outcome : Addr} : ∀ ds μ Q E, FOIniD C_Outcome ds μ Q E → ds.length = 2 := fun ds μ Q E q => by obtain ⟨_, _, e, _, _, _, _⟩ := q; rw [e]; rfl
theorem mak_ouD (cls_Outcome : Cls K C_Outcome) (na_changes : NoAttr K C_Outcome ("_changes" : Str)) (cCkE : Cal P w K mg base 4 "check_entry" (FCkE C_BadName C_BadChange) []) {f : Addr} {fd : FuncData} {qual : Str} (T : NoB mg) (Fu : FunA K "__init__" qual sOIni f fd) (hm : mg "Outcome" = some (.ref C_Outcome)) (M : Mk K C_Outcome f) {dvs : List V} {dsv : List Value} (hb : L2.Binds K fd ["self", "changes"] dsv) (hv : Vals dvs dsv) {dds : List D} (ha : ∀ ι H, Ats K ι H dvs dds) : Mak P w K mg base 5 "Outcome" C_Outcome (FOIniD C_Outcome) dds := by
  have nd := scOIni.nd
  refine mak_funD Fu scOIni hm M hb hv ha ?_ ?_ (fun cdv A outer s H E hG hr =>
    have hu : (cxOf (L2.CX P w) P w K mg base nOIni qual (defScope sOIni) f cdv A outer s H E).A.units + 64 < cLine := by have := hr.un; show (A.deeper _).units + 64 < _; omega
    have hv : (cxOf (L2.CX P w) P w K mg base nOIni qual (defScope sOIni) f cdv A outer s H E).A.units + 1 < cLine := by omega
    have tk := takes_of (X := cxOf (L2.CX P w) P w K mg base nOIni qual (defScope sOIni) f cdv A outer s H E) (E := E) rfl rfl rfl rfl
    have pw := passes_of (X := cxOf (L2.CX P w) P w K mg base nOIni qual (defScope sOIni) f cdv A outer s H E) rfl
    (ds_cons (ds_set (i := 2) nd rfl (by first | exact .inl rfl | exact .inr rfl) (de_ifx (dt_cmp opd_isN (de_var 1 rfl) de_non) de_dict0 (de_var 1 rfl)))
      (ds_cons (ds_forD pw rfl (wd_items (pth_var 2)) (dg_tup (n := 2) rfl (dgs_cons (dg_name (i := 3) nd rfl (by first | exact .inl rfl | exact .inr rfl)) (dgs_cons (dg_name (i := 4) nd rfl (by first | exact .inl rfl | exact .inr rfl)) dgs_nil))) (ds_one (ds_expr (de_call cCkE hG hr (by decide) (by rfl) tk (da_cons (de_var 3 rfl) (da_cons (de_var 4 rfl) da_nil))))))
      (ds_one (ds_fld (de_var 0 rfl) (de_callTy cad_dictD (by rfl) T.dict (by decide +kernel) (da_cons (de_var 2 rfl) da_nil))))))) ?_
  · exact FOIniD.mono
  · exact FOIniD.len
  · rintro ds μ Q E ⟨n, es, rfl, hn, g, hb', z⟩
    have sz := sizeLine_eq
    refine ⟨_, rfl, rfl, _, rfl, iff_ rfl ⟨_, rfl, ?_⟩⟩
    refine ⟨esK es, rfl, fun j ρ' μ' => ∃ v3 v4 : Option D, ρ' = [some (.cell n), some (.dct (esK es)), some (.dct (esK es)), v3, v4] ∧ μ' = μ, ⟨_, _, rfl, rfl⟩, ?_, ?_⟩
    · rintro j y ρ' μ' hy ⟨v3, v4, rfl, rfl⟩
      obtain ⟨q, hq, rfl⟩ := List.mem_map.mp (List.mem_of_getElem? hy)
      obtain ⟨p, hp, rfl⟩ := List.mem_map.mp hq
      obtain ⟨h1, h2, h3, h4, h5⟩ := g.ok p hp
      refine ⟨[.str p.1, p.2], rfl, rfl, _, _, rfl, _, _, rfl, rfl, ?_⟩
      exact ⟨_, rfl, _, rfl, p.1, p.2, rfl, h1, h2, h3, hb', fun _ _ => ⟨_, _, rfl, rfl⟩, fun h => (by rw [h4] at h; cases h), fun _ h => (by rw [h5] at h; cases h)⟩
    · rintro ρ' μ' ⟨v3, v4, rfl, rfl⟩
      exact ⟨_, rfl, _, esK es, rfl, rfl, .inl ⟨_, rfl, n, C_Outcome, [], rfl, hn, cls_Outcome, na_changes, by decide, _, _, .refl, z⟩⟩
abbrev ouD (C_Outcome : Addr) (es : Es) : D := .ins C_Outcome (ouF es)
theorem ouD_bd {C : Addr} {es : Es} {n : Nat} (g : EsG es) : (ouD C es).bd n = true := by
  show (bdK n (esK es) && true) = true
  rw [esK_bd g.es]; rfl
inductive FOCpD (C_Outcome : Addr) (ds : List D) (μ : Sto) (Q : QD) (E : XD) : Prop
  | mk (d : D) (es : Es) (a1 : ds = [d]) (a2 : OuAt C_Outcome es d μ) (a3 : EsG es) (a4 : bdS μ.length μ = true) (a5 : Q (ouD C_Outcome es) μ) : FOCpD C_Outcome ds μ Q E
theorem FOCpD.mono {C_Outcome : Addr} : MonF (FOCpD C_Outcome) := fun ds μ Q Q' E E' h he q => match q with | .mk d es a1 a2 a3 a4 a5 => .mk d es a1 a2 a3 a4 (h _ _ a5)
theorem FOCpD.len {C_Outcome : Addr} : ∀ ds μ Q E, FOCpD C_Outcome ds μ Q E → ds.length = 1 := fun ds μ Q E q => by obtain ⟨_, _, e, _, _, _, _⟩ := q; rw [e]; rfl
theorem met_OCpD (na_changes : NoAttr K C_Outcome ("_changes" : Str)) (couD : Mak P w K mg base 5 "Outcome" C_Outcome (FOIniD C_Outcome) []) {f : Addr} {fd : FuncData} {qual : Str} (T : NoB mg) (Fu : FunA K "copy" qual sOCp f fd) (cC : Cls K C_Outcome) (M : Meth K C_Outcome "copy" f) (hb : L2.Binds K fd ["self"] []) : Met P w K mg base 7 C_Outcome "copy" (FOCpD C_Outcome) [] := by
  have nd := scOCp.nd
  refine met_fun Fu scOCp cC M hb ?_ ?_ (fun cdv A outer s H E hG hr =>
    have hu : (cxOf (L2.CX P w) P w K mg base nOCp qual (defScope sOCp) f cdv A outer s H E).A.units + 64 < cLine := by have := hr.un; show (A.deeper _).units + 64 < _; omega
    have hv : (cxOf (L2.CX P w) P w K mg base nOCp qual (defScope sOCp) f cdv A outer s H E).A.units + 1 < cLine := by omega
    have tk := takes_of (X := cxOf (L2.CX P w) P w K mg base nOCp qual (defScope sOCp) f cdv A outer s H E) (E := E) rfl rfl rfl rfl
    have pw := passes_of (X := cxOf (L2.CX P w) P w K mg base nOCp qual (defScope sOCp) f cdv A outer s H E) rfl
    (ds_one (ds_ret (de_make couD hG hr (by decide) (by rfl) tk (da_cons (de_fld (de_var 0 rfl)) da_nil))))) ?_
  · exact FOCpD.mono
  · exact FOCpD.len
  · rintro ds μ Q E ⟨d, es, rfl, h, g, hb', z⟩
    have bb : bdS (μ ++ [CT.ins C_Outcome []]).length (μ ++ [CT.ins C_Outcome []]) = true := by rw [bdS_app, bdS_mono (by simp) hb']; rfl
    refine ⟨_, rfl, C_Outcome, _, _, h, cC, na_changes, rfl, μ.length, es, rfl, ap_get, g, bb, ?_⟩
    rw [ap_set]
    exact ⟨rfl, _, _, .ins (Nat.le_refl _) (ouD_bd (C := C_Outcome) g) hb' .refl, _, _, .refl, z⟩
abbrev osD (C_Outcome : Addr) (os : List Es) : List D := os.map (ouD C_Outcome)
theorem osD_bd {C : Addr} {os : List Es} {n : Nat} (g : ∀ es ∈ os, EsG es) : bdL n (osD C os) = true := bdL_all.mpr fun d hd => by
  obtain ⟨es, he, rfl⟩ := List.mem_map.mp hd
  exact ouD_bd (g es he)
abbrev acF (C_Outcome : Addr) (nd : D) (os : List Es) : List (Str × D) := putD "_outcomes" (.lst (osD C_Outcome os)) (putD "need" nd [])
def pSelf : D → Option D := some
theorem fm_self (l : List D) : l.filterMap pSelf = l := by
  show l.filterMap some = l
  simp
abbrev sAIni : Stmt := inCls (top 12) 0
abbrev nAIni : List Str := ["self", "need", "outcomes", "outcome"]
theorem scAIni : FnScope nAIni ["self", "need", "outcomes"] (defScope sAIni) := ⟨rfl, rfl, rfl, by decide +kernel, rfl, by decide +kernel, by decide +kernel⟩
inductive FAIni (C_Outcome C_Action : Addr) (ds : List D) (μ : Sto) (Q : QD) (E : XD) : Prop
  | mk (n : Nat) (nd : D) (os : List Es) (a1 : ds = [.cell n, nd, .lst (osD C_Outcome os)]) (a2 : μ[n]? = some (.ins C_Action [])) (a3 : nd.bd μ.length = true) (a4 : (∀ es ∈ os, EsG es)) (a5 : 0 < os.length) (a6 : os.length ≤ 1000) (a7 : bdS μ.length μ = true) (a8 : Q .non (μ.set n (.ins C_Action (acF C_Outcome nd os)))) : FAIni C_Outcome C_Action ds μ Q E
theorem FAIni.mono {C_Outcome C_Action : Addr} : MonF (FAIni C_Outcome C_Action) := fun ds μ Q Q' E E' h he q => match q with | .mk n nd os a1 a2 a3 a4 a5 a6 a7 a8 => .mk n nd os a1 a2 a3 a4 a5 a6 a7 (h _ _ a8)
theorem FAIni.len {C_Outcome C_Action : Addr} : ∀ ds μ Q E, FAIni C_Outcome C_Action ds μ Q E → ds.length = 3 := fun ds μ Q E q => by obtain ⟨_, _, _, e, _, _, _, _, _, _, _⟩ := q; rw [e]; rfl
theorem mak_ac (cls_Action : Cls K C_Action) (na_need : NoAttr K C_Action ("need" : Str)) (na_outcomes : NoAttr K C_Action ("_outcomes" : Str)) (cOCpD : Met P w K mg base 7 C_Outcome "copy" (FOCpD C_Outcome) []) {f : Addr} {fd : FuncData} {qual : Str} (T : NoB mg) (Fu : FunA K "__init__" qual sAIni f fd) (hm : mg "Action" = some (.ref C_Action)) (M : Mk K C_Action f) (hb : L2.Binds K fd ["self", "need", "outcomes"] []) : Mak P w K mg base 8 "Action" C_Action (FAIni C_Outcome C_Action) [] := by
  have nd := scAIni.nd
  refine mak_fun Fu scAIni hm M hb ?_ ?_ (fun cdv A outer s H E hG hr =>
    have hu : (cxOf (L2.CX P w) P w K mg base nAIni qual (defScope sAIni) f cdv A outer s H E).A.units + 64 < cLine := by have := hr.un; show (A.deeper _).units + 64 < _; omega
    have hv : (cxOf (L2.CX P w) P w K mg base nAIni qual (defScope sAIni) f cdv A outer s H E).A.units + 1 < cLine := by omega
    have tk := takes_of (X := cxOf (L2.CX P w) P w K mg base nAIni qual (defScope sAIni) f cdv A outer s H E) (E := E) rfl rfl rfl rfl
    have pw := passes_of (X := cxOf (L2.CX P w) P w K mg base nAIni qual (defScope sAIni) f cdv A outer s H E) rfl
    (ds_cons (ds_if (dt_cmp opd_eqI (de_callB cad_len (by rfl) T.len (by decide +kernel) (da_cons (de_var 2 rfl) da_nil)) de_int) (ds_one ds_never) ds_nil)
      (ds_cons (ds_fld (de_var 0 rfl) (de_var 1 rfl))
      (ds_one (ds_fld (de_var 0 rfl) (de_lc (own := [("outcome", 3)]) rfl nd (di_seq (de_var 2 rfl)) (blkOk_by (N := nAIni) (sc := defScope sAIni) (by decide +kernel)) (fun _ _ _ _ _ => (dgw_name (i := 3) nd rfl (Or.inl rfl) (by decide))) (fun _ _ _ _ _ => dts_nil) (fun _ _ _ _ _ => (de_meth0 cOCpD hG hr (by decide) takesNW (de_var 3 rfl))))))))) ?_
  · exact FAIni.mono
  · exact FAIni.len
  · rintro ds μ Q E ⟨n, nd, os, rfl, hn, hnd, g, o0, ol, hb', z⟩
    have sz := sizeLine_eq
    have hn1 : n < μ.length := (List.getElem?_eq_some_iff.mp hn).1
    refine ⟨_, rfl, .inr ⟨_, osD C_Outcome os, rfl, rfl, _, _, rfl, rfl, _, rfl, ite_b (fun h => absurd h (by rw [List.length_map]; omega)) (fun _ => ?_)⟩⟩
    refine ⟨_, rfl, _, rfl, n, C_Action, [], rfl, hn, cls_Action, na_need, by decide, ?_⟩
    let μ1 : Sto := μ.set n (.ins C_Action (putD "need" nd []))
    have l1 : μ1.length = μ.length := List.length_set
    have b1 : bdS μ1.length μ1 = true := by
      rw [l1]
      refine List.all_eq_true.mpr fun x hx => ?_
      rcases List.mem_or_eq_of_mem_set hx with hx | rfl
      · exact List.all_eq_true.mp hb' x hx
      · show (nd.bd _ && true) = true; rw [hnd]; rfl
    refine ⟨_, rfl, osD C_Outcome os, rfl, lc_pureB (m := μ1) pSelf (fun _ => rfl) (fun x hx acc bm NX N0 n1 n2 => ?_) (by rw [List.length_map]; omega) (by rw [fm_self]; exact osD_bd g) b1 ?_⟩
    · obtain ⟨es, he, rfl⟩ := List.mem_map.mp hx
      exact ⟨_, rfl, ouF es, rfl, rfl, _, es, rfl, rfl, g es he, bm, n1 _ rfl⟩
    · rw [fm_self]
      refine ⟨_, rfl, n, C_Action, _, rfl, List.getElem?_set_self hn1, cls_Action, na_outcomes, by show 1 < 1000; omega, ?_⟩
      show ∃ d' μ', Fz μ.length D.non (μ1.set n _) d' μ' ∧ Q d' μ'
      rw [show μ1.set n (CT.ins C_Action (acF C_Outcome nd os)) = μ.set n (.ins C_Action (acF C_Outcome nd os)) from List.set_set ..]
      exact ⟨_, _, .refl, z⟩

/-- an action and what it holds -/
def ActAt (C_Outcome C_Action : Addr) (nd : D) (os : List Es) (d : D) (μ : Sto) : Prop := asI μ d = some (C_Action, acF C_Outcome nd os)
abbrev acD (C_Outcome C_Action : Addr) (nd : D) (os : List Es) : D := .ins C_Action (acF C_Outcome nd os)
theorem acD_bd {C A : Addr} {nd : D} {os : List Es} {n : Nat} (h : nd.bd n = true) (g : ∀ es ∈ os, EsG es) : (acD C A nd os).bd n = true := by
  show (nd.bd n && (bdL n (osD C os) && true)) = true
  rw [h, osD_bd g]; rfl
theorem asI_more {μ ν : Sto} {d : D} {C : Addr} {fd : List (Str × D)} (h : asI μ d = some (C, fd)) : asI (μ ++ ν) d = some (C, fd) := by
  cases d with
  | cell n =>
    simp only [asI] at h ⊢
    split at h
    · rename_i C' f' e
      rw [ga_app e]; exact h
    · cases h
  | _ => exact h
abbrev sALn : Stmt := inCls (top 12) 2
abbrev nALn : List Str := ["self"]
theorem scALn : FnScope nALn ["self"] (defScope sALn) := ⟨rfl, rfl, rfl, by decide +kernel, rfl, by decide +kernel, by decide +kernel⟩
inductive FALn (C_Outcome C_Action : Addr) (ds : List D) (μ : Sto) (Q : QD) (E : XD) : Prop
  | mk (d : D) (nd : D) (os : List Es) (a1 : ds = [d]) (a2 : ActAt C_Outcome C_Action nd os d μ) (a3 : Q (.int (os.length : Nat)) μ) : FALn C_Outcome C_Action ds μ Q E
theorem FALn.mono {C_Outcome C_Action : Addr} : MonF (FALn C_Outcome C_Action) := fun ds μ Q Q' E E' h he q => match q with | .mk d nd os a1 a2 a3 => .mk d nd os a1 a2 (h _ _ a3)
theorem FALn.len {C_Outcome C_Action : Addr} : ∀ ds μ Q E, FALn C_Outcome C_Action ds μ Q E → ds.length = 1 := fun ds μ Q E q => by obtain ⟨_, _, _, e, _, _⟩ := q; rw [e]; rfl
theorem met_ALn (hm_Outcome : mg "Outcome" = some (.ref C_Outcome)) (na_outcomes : NoAttr K C_Action ("_outcomes" : Str)) {f : Addr} {fd : FuncData} {qual : Str} (T : NoB mg) (Fu : FunA K "__len__" qual sALn f fd) (cC : Cls K C_Action) (M : Meth K C_Action "__len__" f) (hb : L2.Binds K fd ["self"] []) : Met P w K mg base 1 C_Action "__len__" (FALn C_Outcome C_Action) [] := by
  have nd := scALn.nd
  refine met_fun Fu scALn cC M hb ?_ ?_ (fun cdv A outer s H E hG hr =>
    have hu : (cxOf (L2.CX P w) P w K mg base nALn qual (defScope sALn) f cdv A outer s H E).A.units + 64 < cLine := by have := hr.un; show (A.deeper _).units + 64 < _; omega
    have hv : (cxOf (L2.CX P w) P w K mg base nALn qual (defScope sALn) f cdv A outer s H E).A.units + 1 < cLine := by omega
    have tk := takes_of (X := cxOf (L2.CX P w) P w K mg base nALn qual (defScope sALn) f cdv A outer s H E) (E := E) rfl rfl rfl rfl
    have pw := passes_of (X := cxOf (L2.CX P w) P w K mg base nALn qual (defScope sALn) f cdv A outer s H E) rfl
    (ds_one (ds_ret (de_callB cad_len (by rfl) T.len (by decide +kernel) (da_cons (de_fld (de_var 0 rfl)) da_nil))))) ?_
  · exact FALn.mono
  · exact FALn.len
  · rintro ds μ Q E ⟨d, nd, os, rfl, h, z⟩
    refine ⟨_, rfl, C_Action, _, _, h, cC, na_outcomes, rfl, .inr ⟨_, osD C_Outcome os, rfl, rfl, _, _, .refl, ?_⟩⟩
    rw [List.length_map]; exact z
abbrev sAOu : Stmt := inCls (top 12) 1
abbrev nAOu : List Str := ["self", "index"]
theorem scAOu : FnScope nAOu ["self", "index"] (defScope sAOu) := ⟨rfl, rfl, rfl, by decide +kernel, rfl, by decide +kernel, by decide +kernel⟩
inductive FAOu (C_Outcome C_Action : Addr) (ds : List D) (μ : Sto) (Q : QD) (E : XD) : Prop
  | mk (d : D) (nd : D) (os : List Es) (k : Nat) (es : Es) (a1 : ds = [d, .int k]) (a2 : ActAt C_Outcome C_Action nd os d μ) (a3 : os[k]? = some es) (a4 : EsG es) (a5 : bdS μ.length μ = true) (a6 : Q (ouD C_Outcome es) μ) : FAOu C_Outcome C_Action ds μ Q E
theorem FAOu.mono {C_Outcome C_Action : Addr} : MonF (FAOu C_Outcome C_Action) := fun ds μ Q Q' E E' h he q => match q with | .mk d nd os k es a1 a2 a3 a4 a5 a6 => .mk d nd os k es a1 a2 a3 a4 a5 (h _ _ a6)
theorem FAOu.len {C_Outcome C_Action : Addr} : ∀ ds μ Q E, FAOu C_Outcome C_Action ds μ Q E → ds.length = 2 := fun ds μ Q E q => by obtain ⟨_, _, _, _, _, e, _, _, _, _, _⟩ := q; rw [e]; rfl
theorem met_AOu (na_outcomes : NoAttr K C_Action ("_outcomes" : Str)) (cOCpD : Met P w K mg base 7 C_Outcome "copy" (FOCpD C_Outcome) []) {f : Addr} {fd : FuncData} {qual : Str} (T : NoB mg) (Fu : FunA K "outcome" qual sAOu f fd) (cC : Cls K C_Action) (M : Meth K C_Action "outcome" f) (hb : L2.Binds K fd ["self", "index"] []) : Met P w K mg base 8 C_Action "outcome" (FAOu C_Outcome C_Action) [] := by
  have nd := scAOu.nd
  refine met_fun Fu scAOu cC M hb ?_ ?_ (fun cdv A outer s H E hG hr =>
    have hu : (cxOf (L2.CX P w) P w K mg base nAOu qual (defScope sAOu) f cdv A outer s H E).A.units + 64 < cLine := by have := hr.un; show (A.deeper _).units + 64 < _; omega
    have hv : (cxOf (L2.CX P w) P w K mg base nAOu qual (defScope sAOu) f cdv A outer s H E).A.units + 1 < cLine := by omega
    have tk := takes_of (X := cxOf (L2.CX P w) P w K mg base nAOu qual (defScope sAOu) f cdv A outer s H E) (E := E) rfl rfl rfl rfl
    have pw := passes_of (X := cxOf (L2.CX P w) P w K mg base nAOu qual (defScope sAOu) f cdv A outer s H E) rfl
    (ds_cons (ds_if (dt_not (dt_chain opd_le opd_lt de_int (de_var 1 rfl) (de_callB cad_len (by rfl) T.len (by decide +kernel) (da_cons (de_fld (de_var 0 rfl)) da_nil)))) (ds_one ds_never) ds_nil)
      (ds_one (ds_ret (de_meth0 cOCpD hG hr (by decide) tk (de_ixL (de_fld (de_var 0 rfl)) (de_var 1 rfl))))))) ?_
  · exact FAOu.mono
  · exact FAOu.len
  · rintro ds μ Q E ⟨d, nd, os, k, es, rfl, h, hk, g, hb', z⟩
    have hk1 := (List.getElem?_eq_some_iff.mp hk).1
    have hk2 : (osD C_Outcome os)[k]? = some (ouD C_Outcome es) := by rw [List.getElem?_map, hk]; rfl
    refine ⟨_, rfl, _, rfl, ite_b (fun _ => ?_) (fun h => absurd (Int.natCast_nonneg k) h)⟩
    refine ⟨_, rfl, C_Action, _, _, h, cC, na_outcomes, rfl, .inr ⟨_, osD C_Outcome os, rfl, rfl, _, rfl, iff_ (by rw [List.length_map]; simp; omega) ?_⟩⟩
    refine ⟨_, rfl, C_Action, _, _, h, cC, na_outcomes, rfl, _, rfl, osD C_Outcome os, k, ouD C_Outcome es, rfl, rfl, ?_, ouF es, rfl, rfl, _, es, rfl, rfl, g, hb', _, _, .refl, z⟩
    rw [atI_nn _ (Int.natCast_nonneg k)]; exact hk2
abbrev sOsO : Stmt := top 13
abbrev nOsO : List Str := ["action", "index"]
theorem scOsO : FnScope nOsO ["action"] (defScope sOsO) := ⟨rfl, rfl, rfl, by decide +kernel, rfl, by decide +kernel, by decide +kernel⟩
inductive FOsO (C_Outcome C_Action : Addr) (ds : List D) (μ : Sto) (Q : QD) (E : XD) : Prop
  | mk (d : D) (nd : D) (os : List Es) (a1 : ds = [d]) (a2 : ActAt C_Outcome C_Action nd os d μ) (a3 : (∀ es ∈ os, EsG es)) (a4 : os.length ≤ 1000) (a5 : bdS μ.length μ = true) (a6 : Q (.lst (osD C_Outcome os)) μ) : FOsO C_Outcome C_Action ds μ Q E
theorem FOsO.mono {C_Outcome C_Action : Addr} : MonF (FOsO C_Outcome C_Action) := fun ds μ Q Q' E E' h he q => match q with | .mk d nd os a1 a2 a3 a4 a5 a6 => .mk d nd os a1 a2 a3 a4 a5 (h _ _ a6)
theorem FOsO.len {C_Outcome C_Action : Addr} : ∀ ds μ Q E, FOsO C_Outcome C_Action ds μ Q E → ds.length = 1 := fun ds μ Q E q => by obtain ⟨_, _, _, e, _, _, _, _, _⟩ := q; rw [e]; rfl
theorem cal_oso (cALn : Met P w K mg base 1 C_Action "__len__" (FALn C_Outcome C_Action) []) (cAOu : Met P w K mg base 8 C_Action "outcome" (FAOu C_Outcome C_Action) []) {f : Addr} {fd : FuncData} {qual : Str} (T : NoB mg) (Fu : Fun K "outcomes_of" qual sOsO f fd) (hm : mg "outcomes_of" = some (.ref f)) (hk : PySem.W.keepIn K (.ref f) = true) (hb : L2.Binds K fd ["action"] []) : Cal P w K mg base 9 "outcomes_of" (FOsO C_Outcome C_Action) [] := by
  have nd := scOsO.nd
  refine cal_fun Fu scOsO hm hk hb ?_ ?_ (fun cdv A outer s H E hG hr =>
    have hu : (cxOf (L2.CX P w) P w K mg base nOsO qual (defScope sOsO) f cdv A outer s H E).A.units + 64 < cLine := by have := hr.un; show (A.deeper _).units + 64 < _; omega
    have hv : (cxOf (L2.CX P w) P w K mg base nOsO qual (defScope sOsO) f cdv A outer s H E).A.units + 1 < cLine := by omega
    have tk := takes_of (X := cxOf (L2.CX P w) P w K mg base nOsO qual (defScope sOsO) f cdv A outer s H E) (E := E) rfl rfl rfl rfl
    have pw := passes_of (X := cxOf (L2.CX P w) P w K mg base nOsO qual (defScope sOsO) f cdv A outer s H E) rfl
    (ds_one (ds_ret (de_lc (own := [("index", 1)]) rfl nd (di_rng1 (by rfl) T.range (da_cons (de_callB (cad_lenO cALn hG hr (by decide)) (by rfl) T.len (by decide +kernel) (da_cons (de_var 0 rfl) da_nil)) da_nil)) (blkOk_by (N := nOsO) (sc := defScope sOsO) (by decide +kernel)) (fun _ _ _ _ _ => (dgw_name (i := 1) nd rfl (Or.inl rfl) (by decide))) (fun _ _ _ _ _ => dts_nil) (fun _ _ _ _ _ => (de_meth cAOu hG hr (by decide) takesNW (de_var 0 rfl) (da_cons (de_var 1 rfl) da_nil))))))) ?_
  · exact FOsO.mono
  · exact FOsO.len
  · rintro ds μ Q E ⟨d, nd, os, rfl, h, g, ol, hb', z⟩
    have sz := sizeLine_eq
    let pO : D → Option D := fun x => match x with | .int i => (osD C_Outcome os)[i.toNat]? | _ => none
    have eO : ∀ (n : Nat), n ≤ os.length → ((List.range n).map fun i : Nat => D.int (i : Nat)).filterMap pO = (osD C_Outcome os).take n := fun n hn => by
      induction n with
      | zero => rfl
      | succ n ih =>
        rw [List.range_succ, List.map_append, List.filterMap_append, ih (by omega), List.take_add_one]
        have : n < (osD C_Outcome os).length := by rw [List.length_map]; omega
        have e : pO (D.int (n : Nat)) = some ((osD C_Outcome os)[n]) := List.getElem?_eq_getElem this
        rw [List.map_cons, List.map_nil, List.filterMap_cons, e, List.getElem?_eq_getElem this]; rfl
    refine ⟨_, rfl, d, _, rfl, h, d, nd, os, rfl, h, os.length, rfl, by omega, _, rfl, by omega, by omega, ?_⟩
    have eX : (List.range (Int.toNat (os.length : Nat))).map (fun (i : Nat) => D.int (0 + (i : Int))) = (List.range os.length).map fun i : Nat => D.int (i : Nat) := by simp
    have eT : (osD C_Outcome os).take os.length = osD C_Outcome os := List.take_of_length_le (by rw [List.length_map]; exact Nat.le_refl _)
    refine lc_pureB pO (fun _ => trivial) (fun x hx acc bm NX N0 n1 n2 => ?_) (by simp; omega) (by rw [eX, eO _ (Nat.le_refl _), eT]; exact osD_bd g) hb' (by rw [eX, eO _ (Nat.le_refl _), eT]; exact ⟨_, _, .refl, z⟩)
    rw [eX] at hx
    obtain ⟨k, hk, rfl⟩ := List.mem_map.mp hx
    have hk1 : k < os.length := List.mem_range.mp hk
    have h1 : os[k]? = some os[k] := List.getElem?_eq_getElem hk1
    have h2 : (osD C_Outcome os)[k]? = some (ouD C_Outcome os[k]) := by rw [List.getElem?_map, h1]; rfl
    exact ⟨_, rfl, _, asI_more h, rfl, _, rfl, d, nd, os, k, os[k], rfl, asI_more h, h1, g _ (List.getElem_mem hk1), bm, n1 _ h2⟩

abbrev sCpO : Stmt := top 14
abbrev nCpO : List Str := ["action"]
theorem scCpO : FnScope nCpO ["action"] (defScope sCpO) := ⟨rfl, rfl, rfl, by decide +kernel, rfl, by decide +kernel, by decide +kernel⟩
inductive FCpO (C_Outcome C_Action : Addr) (ds : List D) (μ : Sto) (Q : QD) (E : XD) : Prop
  | mk (d : D) (nd : D) (os : List Es) (a1 : ds = [d]) (a2 : ActAt C_Outcome C_Action nd os d μ) (a3 : nd.bd 0 = true) (a4 : (∀ es ∈ os, EsG es)) (a5 : 0 < os.length) (a6 : os.length ≤ 1000) (a7 : bdS μ.length μ = true) (a8 : Q (acD C_Outcome C_Action nd os) μ) : FCpO C_Outcome C_Action ds μ Q E
theorem FCpO.mono {C_Outcome C_Action : Addr} : MonF (FCpO C_Outcome C_Action) := fun ds μ Q Q' E E' h he q => match q with | .mk d nd os a1 a2 a3 a4 a5 a6 a7 a8 => .mk d nd os a1 a2 a3 a4 a5 a6 a7 (h _ _ a8)
theorem FCpO.len {C_Outcome C_Action : Addr} : ∀ ds μ Q E, FCpO C_Outcome C_Action ds μ Q E → ds.length = 1 := fun ds μ Q E q => by obtain ⟨_, _, _, e, _, _, _, _, _, _, _⟩ := q; rw [e]; rfl
theorem cal_cpo (na_need : NoAttr K C_Action ("need" : Str)) (cls_Action : Cls K C_Action) (coso : Cal P w K mg base 9 "outcomes_of" (FOsO C_Outcome C_Action) []) (cAc : Mak P w K mg base 8 "Action" C_Action (FAIni C_Outcome C_Action) []) {f : Addr} {fd : FuncData} {qual : Str} (T : NoB mg) (Fu : Fun K "copy_of" qual sCpO f fd) (hm : mg "copy_of" = some (.ref f)) (hk : PySem.W.keepIn K (.ref f) = true) (hb : L2.Binds K fd ["action"] []) : Cal P w K mg base 10 "copy_of" (FCpO C_Outcome C_Action) [] := by
  have nd := scCpO.nd
  refine cal_fun Fu scCpO hm hk hb ?_ ?_ (fun cdv A outer s H E hG hr =>
    have hu : (cxOf (L2.CX P w) P w K mg base nCpO qual (defScope sCpO) f cdv A outer s H E).A.units + 64 < cLine := by have := hr.un; show (A.deeper _).units + 64 < _; omega
    have hv : (cxOf (L2.CX P w) P w K mg base nCpO qual (defScope sCpO) f cdv A outer s H E).A.units + 1 < cLine := by omega
    have tk := takes_of (X := cxOf (L2.CX P w) P w K mg base nCpO qual (defScope sCpO) f cdv A outer s H E) (E := E) rfl rfl rfl rfl
    have pw := passes_of (X := cxOf (L2.CX P w) P w K mg base nCpO qual (defScope sCpO) f cdv A outer s H E) rfl
    (ds_one (ds_ret (de_make cAc hG hr (by decide) (by rfl) tk (da_cons (de_fld (de_var 0 rfl)) (da_cons (de_call coso hG hr (by decide) (by rfl) tk (da_cons (de_var 0 rfl) da_nil)) da_nil)))))) ?_
  · exact FCpO.mono
  · exact FCpO.len
  · rintro ds μ Q E ⟨d, nd, os, rfl, h, hnd, g, o0, ol, hb', z⟩
    have hnd2 : ∀ n, nd.bd n = true := fun n => bd_mono (Nat.zero_le n) hnd
    have bb : bdS (μ ++ [CT.ins C_Action []]).length (μ ++ [CT.ins C_Action []]) = true := by rw [bdS_app, bdS_mono (by simp) hb']; rfl
    refine ⟨_, rfl, C_Action, _, _, h, cls_Action, na_need, rfl, _, rfl, d, nd, os, rfl, h, g, ol, hb', μ.length, nd, os, rfl, ap_get, hnd2 _, g, o0, ol, bb, ?_⟩
    rw [ap_set]
    exact ⟨rfl, _, _, .ins (Nat.le_refl _) (acD_bd (A := C_Action) (hnd2 _) g) hb' .refl, _, _, .refl, z⟩

end
end Dl

namespace Dl
open PySem PySem.Spec L2
open PyProof.Rows hiding St Binds
section
variable {P : Program} {w : World} {K : PySem.W.Frag} {mg : Str → Option Value} {base : Heap} {C_BadName C_NameInUse : Addr}
abbrev sE_NameInUse : Stmt := inCls (top 4) 0
abbrev eOk_NameInUse : List D → Sto → Prop := okX 1 [.txt "the name ", .arg 0, .txt " is in use already"]
abbrev eFl_NameInUse : List D → List (Str × D) := flX [("name", 0)]
theorem scE_NameInUse : SupScope ["self", "name"] ["self", "name"] (defScope sE_NameInUse) := ⟨rfl, rfl, rfl, by decide +kernel, rfl, by decide +kernel, by decide +kernel, by decide +kernel, by decide +kernel, by decide +kernel⟩
theorem erc_NameInUse {k : Nat} {C f cda cc : Addr} {kV doc pm ct oc : Value} {an od : Option Addr} {osl : Array (Option Value)} (T : SupK P K mg C cda cc)
    (lk : K.lookup f = some ⟨oc, od, .func (PySem.W.ksFn "__init__" "NameInUse.__init__" (defArgs sE_NameInUse) (defBody sE_NameInUse) (defScope sE_NameInUse) .none kV doc pm an (.ref cda) ct cc), osl⟩)
    (hcd : PySem.W.codeIn K (.ref cda) "NameInUse.__init__" = true) (tI : PySem.W.typeIn K (.ref f) = some (.type "function")) (iC : PySem.W.findIn K (.ref C) "__init__" = some (some (.ref f))) (hm : mg "NameInUse" = some (.ref C))
    (f0 : PySem.W.findIn K (.ref C) "name" = some none) : Erc P w K mg base (k + 1) "NameInUse" C eOk_NameInUse eFl_NameInUse := by
  refine ⟨f, _, ["self", "name"], erc_mk 1 [.txt "the name ", .arg 0, .txt " is in use already"] [("name", 0)] T lk hcd scE_NameInUse rfl rfl (fun env => rfl) (fun env => rfl) rfl (by simp) (fun p hp => ?_) (by simp) (fun A outer s H E hG hr => ⟨?_, ?_⟩), T.cls, iC, tI, hm, ?_⟩
  · simp only [List.mem_cons, List.not_mem_nil, or_false] at hp
    rcases hp with rfl
    · exact ⟨f0, by decide⟩
  · have hu : (cxS (L2.CX P w) P w K mg base ["self", "name"] "NameInUse.__init__" (defScope sE_NameInUse) f (.ref cda) cc A outer s H E).A.units + 64 < cLine := by have := hr.un; show (A.deeper _).units + 64 < _; omega
    exact (.cons pe_str (.cons (pe_fmtRD hG hu (pe_var (i := 1) rfl (.inl rfl))) (.cons pe_str .nil)))
  · exact (pss_cons (ps_ost (pe_var (i := 0) rfl (.inl rfl)) (pe_var (i := 1) rfl (.inl rfl))) pss_nil)
  · exact .all fun us hl => match us, hl with | [_, _], _ => rfl
/-- a text shown in a message -/
theorem ok_msg1 {s pre suf : Str} {μ : Sto} (ha : Asc s) (hl : s.length ≤ 100) (h1 : pre.length ≤ 100) (h2 : suf.length ≤ 100) : okX 1 [.txt pre, .arg 0, .txt suf] [.str s] μ := by
  have h := PyData.shown_le 40 (by decide) (.str s) (leaf_asc ha)
  have sz := sizeLine_eq
  have w : PyData.weight (.str s) ≤ 100 := hl
  have e0 : Str.empty.length = 0 := rfl
  exact ⟨rfl, by rw [Str.length_append]; omega, .str s, .str s, rfl, rfl, okR_s ha (by omega), by rw [Str.length_append, Str.length_append]; omega, by rw [Str.length_append, Str.length_append, Str.length_append]; omega, trivial⟩
/-- what is wrong with names: none (true) or used twice (false) -/
def fdup : List Str → List Str → Option Str
  | _, [] => none
  | seen, x :: r => if x ∈ seen then some x else fdup (seen ++ [x]) r
def fbad (ns : List Str) : Option Str := ns.find? fun s => !nameB s
theorem fbad_of {ns : List Str} {i : Nat} {s : Str} (hi : ns[i]? = some s) (hs : nameB s = false) (hp : ∀ t ∈ ns.take i, nameB t = true) : fbad ns = some s := by
  have e : ns = ns.take i ++ (s :: ns.drop (i + 1)) := by
    have h := (List.getElem?_eq_some_iff.mp hi).1
    have := (List.getElem?_eq_some_iff.mp hi).2
    rw [← this, List.getElem_cons_drop h, List.take_append_drop]
  unfold fbad
  rw [e, List.find?_append, List.find?_eq_none.mpr (fun t ht => by rw [hp t ht]; simp)]
  simp [hs]
theorem fdup_cons {seen r : List Str} {x : Str} : fdup seen (x :: r) = if x ∈ seen then some x else fdup (seen ++ [x]) r := rfl
theorem fdup_app : ∀ (a b seen : List Str), fdup seen (a ++ b) = (match fdup seen a with | some x => some x | none => fdup (seen ++ a) b)
  | [], b, seen => by simp [fdup]
  | x :: a, b, seen => by
    rw [List.cons_append, fdup_cons, fdup_cons]
    by_cases h : x ∈ seen
    · rw [if_pos h, if_pos h]
    · rw [if_neg h, if_neg h, fdup_app a b, List.append_assoc]; rfl
abbrev sCks : Stmt := top 31
abbrev nCks : List Str := ["names", "name", "at"]
theorem scCks : FnScope nCks ["names"] (defScope sCks) := ⟨rfl, rfl, rfl, by decide +kernel, rfl, by decide +kernel, by decide +kernel⟩
inductive FCks (C_BadName C_NameInUse : Addr) (ds : List D) (μ : Sto) (Q : QD) (E : XD) : Prop
  | mk (ns : List Str) (a1 : ds = [.lst (ns.map .str)]) (a2 : (∀ s ∈ ns, Asc s ∧ s.length ≤ 100)) (a3 : ns.length ≤ 100) (a4 : bdS μ.length μ = true) (a5 : (fbad ns = none → fdup [] ns = none → Q .non μ)) (a6 : (∀ s, fbad ns = some s → E (.ref C_BadName) [("name", .str s)] μ)) (a7 : (∀ s, fbad ns = none → fdup [] ns = some s → E (.ref C_NameInUse) [("name", .str s)] μ)) : FCks C_BadName C_NameInUse ds μ Q E
theorem FCks.mono {C_BadName C_NameInUse : Addr} : MonF (FCks C_BadName C_NameInUse) := fun ds μ Q Q' E E' h he q => match q with | .mk ns a1 a2 a3 a4 a5 a6 a7 => .mk ns a1 a2 a3 a4 (by intros; apply h; apply a5 <;> assumption) (by intros; apply he; apply a6 <;> assumption) (by intros; apply he; apply a7 <;> assumption)
theorem FCks.len {C_BadName C_NameInUse : Addr} : ∀ ds μ Q E, FCks C_BadName C_NameInUse ds μ Q E → ds.length = 1 := fun ds μ Q E q => by obtain ⟨_, e, _, _, _, _, _, _⟩ := q; rw [e]; rfl
theorem cal_cks (cChE : Cal P w K mg base 3 "check_name" (FChE C_BadName) []) (erc_NameInUse : Erc P w K mg base 1 "NameInUse" C_NameInUse eOk_NameInUse eFl_NameInUse) {f : Addr} {fd : FuncData} {qual : Str} (T : NoB mg) (Fu : Fun K "check_names" qual sCks f fd) (hm : mg "check_names" = some (.ref f)) (hk : PySem.W.keepIn K (.ref f) = true) (hb : L2.Binds K fd ["names"] []) : Cal P w K mg base 4 "check_names" (FCks C_BadName C_NameInUse) [] := by
  have nd := scCks.nd
  refine cal_fun Fu scCks hm hk hb ?_ ?_ (fun cdv A outer s H E hG hr =>
    have hu : (cxOf (L2.CX P w) P w K mg base nCks qual (defScope sCks) f cdv A outer s H E).A.units + 64 < cLine := by have := hr.un; show (A.deeper _).units + 64 < _; omega
    have hv : (cxOf (L2.CX P w) P w K mg base nCks qual (defScope sCks) f cdv A outer s H E).A.units + 1 < cLine := by omega
    have tk := takes_of (X := cxOf (L2.CX P w) P w K mg base nCks qual (defScope sCks) f cdv A outer s H E) (E := E) rfl rfl rfl rfl
    have pw := passes_of (X := cxOf (L2.CX P w) P w K mg base nCks qual (defScope sCks) f cdv A outer s H E) rfl
    (ds_cons (ds_for pw rfl (di_seq (de_var 0 rfl)) (dg_name (i := 1) nd rfl (by first | exact .inl rfl | exact .inr rfl)) (ds_one (ds_expr (de_call cChE hG hr (by decide) (by rfl) tk (da_cons (de_var 1 rfl) da_nil)))))
      (ds_one (ds_for pw rfl (di_en (by rfl) T.enumerate (de_var 0 rfl)) (dg_tup (n := 2) rfl (dgs_cons (dg_name (i := 2) nd rfl (by first | exact .inl rfl | exact .inr rfl)) (dgs_cons (dg_name (i := 1) nd rfl (by first | exact .inl rfl | exact .inr rfl)) dgs_nil))) (ds_one (ds_if (dt_cmp opd_in (de_var 1 rfl) (de_slD (de_var 0 rfl) do_none (do_some (de_var 2 rfl)))) (ds_one (ds_raise erc_NameInUse rfl hG hr (by decide) (by rfl) tk passL (da_cons (de_var 1 rfl) da_nil))) ds_nil)))))) ?_
  · exact FCks.mono
  · exact FCks.len
  · rintro ds μ Q E ⟨ns, rfl, hs, hl, hb', z, zb, zd⟩
    have sz := sizeLine_eq
    refine ⟨_, rfl, ns.map .str, rfl, fun i ρ' μ' => ∃ (v v2 : Option D), ρ' = [some (.lst (ns.map .str)), v, v2] ∧ (∀ t ∈ ns.take i, nameB t = true) ∧ μ' = μ, ⟨_, _, rfl, fun t h => absurd h (by simp), rfl⟩, fun _ _ _ _ => rfl, ?_, ?_⟩
    · rintro i x ρ' μ' hx ⟨v, v2, rfl, hp, rfl⟩
      rw [List.getElem?_map] at hx
      obtain ⟨s, hs', rfl⟩ := Option.map_eq_some_iff.mp hx
      obtain ⟨ha, hl'⟩ := hs s (List.mem_of_getElem? hs')
      refine ⟨_, rfl, s, rfl, ha, hl', hb', fun hn => ?_, fun hn => ?_⟩
      · refine ⟨_, _, rfl, fun t ht => ?_, rfl⟩
        rw [List.take_add_one, hs'] at ht
        rcases List.mem_append.mp ht with ht | ht
        · exact hp t ht
        · rw [List.mem_singleton.mp ht]; exact hn
      · exact ⟨_, [], (List.append_nil _).symm, Nat.le_refl _, rfl, hb', zb s (fbad_of hs' hn hp)⟩
    · rintro ρ' μ' ⟨v, v2, rfl, hp, rfl⟩
      rw [List.length_map, List.take_length] at hp
      have hbad : fbad ns = none := List.find?_eq_none.mpr fun t ht => by rw [hp t ht]; simp
      refine ⟨_, rfl, ns.map .str, .inr ⟨rfl, fun i ρ2 μ2 => ∃ (v v2 : Option D), ρ2 = [some (.lst (ns.map .str)), v, v2] ∧ fdup [] (ns.take i) = none ∧ μ2 = μ', ⟨_, _, rfl, rfl, rfl⟩, fun _ _ _ _ => rfl, ?_, ?_⟩⟩
      · rintro i x ρ2 μ2 hx ⟨v, v2, rfl, hd, rfl⟩
        obtain ⟨x, h1, rfl⟩ := enL_get hx
        rw [List.getElem?_map] at h1
        obtain ⟨s, hs', rfl⟩ := Option.map_eq_some_iff.mp h1
        have hi : i < ns.length := (List.getElem?_eq_some_iff.mp hs').1
        obtain ⟨ha, hl'⟩ := hs s (List.mem_of_getElem? hs')
        have tk : ns.take (i + 1) = ns.take i ++ [s] := by rw [List.take_add_one, hs']; rfl
        have nd : fdup [] (ns.take (i + 1)) = if s ∈ ns.take i then some s else none := by
          rw [tk, fdup_app, hd]
          show fdup ([] ++ ns.take i) [s] = _
          rw [List.nil_append, fdup_cons]; rfl
        refine ⟨[.int (i : Nat), .str s], rfl, rfl, _, _, rfl, _, _, rfl, rfl, ?_⟩
        refine ⟨_, rfl, _, rfl, _, rfl, _, rfl, ns.map .str, rfl, ?_⟩
        rw [cut_to _ (by rw [List.length_map]; omega), ← List.map_take]
        refine ⟨by rw [List.length_map, List.length_take]; omega, (ns.take i).map .str, rfl, rfl, flat_strs _, _, rfl, ite_c (fun h => ?_) (fun h => ?_)⟩
        · have h' : inDD (.str s) ((ns.take i).map .str) = true := h
          rw [inDD_strs, decide_eq_true_eq] at h'
          have hf : fdup [] ns = some s := by
            have e : ns = ns.take (i + 1) ++ ns.drop (i + 1) := (List.take_append_drop _ _).symm
            rw [e, fdup_app, nd, if_pos h']
          exact ⟨_, rfl, by show 1 ≤ 1000; omega, ok_msg1 (pre := "the name ") (suf := " is in use already") ha hl' (by decide) (by decide), _, [], (List.append_nil _).symm, Nat.le_refl _, rfl, hb', zd s hbad hf⟩
        · have h' : inDD (.str s) ((ns.take i).map .str) = false := h
          rw [inDD_strs, decide_eq_false_iff_not] at h'
          exact ⟨_, _, rfl, by rw [nd, if_neg h'], rfl⟩
      · rintro ρ2 μ2 ⟨v, v2, rfl, hd, rfl⟩
        rw [enL_len, List.length_map, List.take_length] at hd
        exact ⟨_, _, .refl, z hbad hd⟩

end
end Dl

namespace Dl
open PySem PySem.Spec L2
open PyProof.Rows hiding St Binds
section
variable {P : Program} {w : World} {K : PySem.W.Frag} {mg : Str → Option Value} {base : Heap} {C_BadName C_NameInUse C_World : Addr}
/-- a world's three lists -/
structure Wl where
  fa : List Str
  pi : List Str
  re : List Str
def Wl.all (W : Wl) : List Str := W.fa ++ (W.pi ++ W.re)
abbrev wl1 (W : Wl) : List (Str × D) := putD "_facts" (.lst (W.fa.map .str)) []
abbrev wl2 (W : Wl) : List (Str × D) := putD "_piles" (.lst (W.pi.map .str)) (wl1 W)
abbrev wl3 (W : Wl) : List (Str × D) := putD "_reserves" (.lst (W.re.map .str)) (wl2 W)
abbrev wlA (W : Wl) (a : D) : List (Str × D) := putD "_actions" a (wl3 W)
abbrev wlF (W : Wl) (m : Nat) : List (Str × D) := putD "_actions" (.cell m) (wl3 W)
theorem asS_setI {μ : Sto} {n : Nat} {C : Addr} {f f' : List (Str × D)} {a : D} {xs : List D} (hn : μ[n]? = some (.ins C f)) (h : asS μ a = some xs) : asS (μ.set n (.ins C f')) a = some xs := by
  cases a with
  | cell k =>
    have h := z_asS_c.mp h
    refine asS_of ?_
    by_cases e : n = k
    · subst e; rw [hn] at h; cases h
    · rw [List.getElem?_set_ne e]; exact h
  | _ => exact h
abbrev sWIni : Stmt := inCls (top 40) 0
abbrev nWIni : List Str := ["self", "facts", "piles", "reserves"]
theorem scWIni : FnScope nWIni ["self", "facts", "piles", "reserves"] (defScope sWIni) := ⟨rfl, rfl, rfl, by decide +kernel, rfl, by decide +kernel, by decide +kernel⟩
inductive FWIni (C_BadName C_NameInUse C_World : Addr) (ds : List D) (μ : Sto) (Q : QD) (E : XD) : Prop
  | mk (n : Nat) (a : D) (b : D) (c : D) (W : Wl) (a1 : ds = [.cell n, a, b, c]) (a2 : μ[n]? = some (.ins C_World [])) (a3 : asS μ a = some (W.fa.map .str)) (a4 : asS μ b = some (W.pi.map .str)) (a5 : asS μ c = some (W.re.map .str)) (a6 : (∀ s ∈ W.all, Asc s ∧ s.length ≤ 100)) (a7 : W.all.length ≤ 100) (a8 : bdS μ.length μ = true) (a9 : (fbad W.all = none → fdup [] W.all = none → Q .non (μ.set n (.ins C_World (wlF W μ.length)) ++ [.dct []]))) (a10 : (∀ s, fbad W.all = some s → E (.ref C_BadName) [("name", .str s)] μ)) (a11 : (∀ s, fbad W.all = none → fdup [] W.all = some s → E (.ref C_NameInUse) [("name", .str s)] μ)) : FWIni C_BadName C_NameInUse C_World ds μ Q E
theorem FWIni.mono {C_BadName C_NameInUse C_World : Addr} : MonF (FWIni C_BadName C_NameInUse C_World) := fun ds μ Q Q' E E' h he q => match q with | .mk n a b c W a1 a2 a3 a4 a5 a6 a7 a8 a9 a10 a11 => .mk n a b c W a1 a2 a3 a4 a5 a6 a7 a8 (by intros; apply h; apply a9 <;> assumption) (by intros; apply he; apply a10 <;> assumption) (by intros; apply he; apply a11 <;> assumption)
theorem FWIni.len {C_BadName C_NameInUse C_World : Addr} : ∀ ds μ Q E, FWIni C_BadName C_NameInUse C_World ds μ Q E → ds.length = 4 := fun ds μ Q E q => by obtain ⟨_, _, _, _, _, e, _, _, _, _, _, _, _, _, _, _⟩ := q; rw [e]; rfl
theorem mak_wo (cls_World : Cls K C_World) (na_facts : NoAttr K C_World ("_facts" : Str)) (na_piles : NoAttr K C_World ("_piles" : Str)) (na_reserves : NoAttr K C_World ("_reserves" : Str)) (na_actions : NoAttr K C_World ("_actions" : Str))
    (cCks : Cal P w K mg base 4 "check_names" (FCks C_BadName C_NameInUse) []) {f : Addr} {fd : FuncData} {qual : Str} (T : NoB mg) (Fu : FunA K "__init__" qual sWIni f fd) (hm : mg "World" = some (.ref C_World)) (M : Mk K C_World f) {dvs : List V} {dsv : List Value} (hb : L2.Binds K fd ["self", "facts", "piles", "reserves"] dsv) (hv : Vals dvs dsv) {dds : List D} (ha : ∀ ι H, Ats K ι H dvs dds) : Mak P w K mg base 5 "World" C_World (FWIni C_BadName C_NameInUse C_World) dds := by
  have nd := scWIni.nd
  refine mak_funD Fu scWIni hm M hb hv ha ?_ ?_ (fun cdv A outer s H E hG hr =>
    have hu : (cxOf (L2.CX P w) P w K mg base nWIni qual (defScope sWIni) f cdv A outer s H E).A.units + 64 < cLine := by have := hr.un; show (A.deeper _).units + 64 < _; omega
    have hv : (cxOf (L2.CX P w) P w K mg base nWIni qual (defScope sWIni) f cdv A outer s H E).A.units + 1 < cLine := by omega
    have tk := takes_of (X := cxOf (L2.CX P w) P w K mg base nWIni qual (defScope sWIni) f cdv A outer s H E) (E := E) rfl rfl rfl rfl
    have pw := passes_of (X := cxOf (L2.CX P w) P w K mg base nWIni qual (defScope sWIni) f cdv A outer s H E) rfl
    (ds_cons (ds_expr (de_call cCks hG hr (by decide) (by rfl) tk (da_cons (de_lstD (da_star (de_var 1 rfl) (da_star (de_var 2 rfl) (da_star (de_var 3 rfl) da_nil)))) da_nil)))
      (ds_cons (ds_fld (de_var 0 rfl) (de_callTy cad_listD' (by rfl) T.list (by decide +kernel) (da_cons (de_var 1 rfl) da_nil)))
      (ds_cons (ds_fld (de_var 0 rfl) (de_callTy cad_listD' (by rfl) T.list (by decide +kernel) (da_cons (de_var 2 rfl) da_nil)))
      (ds_cons (ds_fld (de_var 0 rfl) (de_callTy cad_listD' (by rfl) T.list (by decide +kernel) (da_cons (de_var 3 rfl) da_nil)))
      (ds_one (ds_fld (de_var 0 rfl) de_dict0))))))) ?_
  · exact FWIni.mono
  · exact FWIni.len
  · rintro ds μ Q E ⟨n, a, b, c, W, rfl, hn, ha1, hb1, hc1, hs, hl, hb', z, zb, zd⟩
    have sz := sizeLine_eq
    have ll : W.fa.length + (W.pi.length + W.re.length) ≤ 100 := by have := hl; unfold Wl.all at this; rw [List.length_append, List.length_append] at this; exact this
    have e0 : W.fa.map D.str ++ (W.pi.map D.str ++ (W.re.map D.str ++ [])) = W.all.map D.str := by unfold Wl.all; simp
    refine ⟨_, rfl, _, ha1, _, rfl, _, hb1, _, rfl, _, hc1, ?_⟩
    refine ⟨by simp only [List.length_append, List.length_map, List.length_nil]; omega, ?_⟩
    rw [e0]
    have hn1 : n < μ.length := (List.getElem?_eq_some_iff.mp hn).1
    refine ⟨W.all, rfl, hs, hl, hb', fun h1 h2 => ?_, fun s h => ⟨_, [], (List.append_nil _).symm, Nat.le_refl _, rfl, hb', zb s h⟩, fun s h h2 => ⟨_, [], (List.append_nil _).symm, Nat.le_refl _, rfl, hb', zd s h h2⟩⟩
    have g1 : ∀ f : List (Str × D), (μ.set n (.ins C_World f))[n]? = some (.ins C_World f) := fun f => List.getElem?_set_self hn1
    refine ⟨_, rfl, a, W.fa.map .str, rfl, ha1, by rw [List.length_map]; omega, _, rfl, n, C_World, [], rfl, hn, cls_World, na_facts, by decide, ?_⟩
    refine ⟨_, rfl, b, W.pi.map .str, rfl, asS_setI hn hb1, by rw [List.length_map]; omega, _, rfl, n, C_World, wl1 W, rfl, g1 _, cls_World, na_piles, by show 1 < 1000; omega, ?_⟩
    rw [List.set_set]
    refine ⟨_, rfl, c, W.re.map .str, rfl, asS_setI hn hc1, by rw [List.length_map]; omega, _, rfl, n, C_World, wl2 W, rfl, g1 _, cls_World, na_reserves, by show 2 < 1000; omega, ?_⟩
    rw [List.set_set]
    refine .inr ⟨_, rfl, n, C_World, wl3 W, rfl, ?_, cls_World, na_actions, by show 3 < 1000; omega, _, _, .refl, ?_⟩
    · rw [List.getElem?_append_left (by rw [List.length_set]; exact hn1)]; exact g1 _
    · rw [List.length_set, List.set_append_left _ _ (by rw [List.length_set]; exact hn1), List.set_set]
      exact z h1 h2

/-- the lists of a world, as they are asked -/
def WlAt (C_World : Addr) (W : Wl) (d : D) (μ : Sto) : Prop := ∃ a, asI μ d = some (C_World, wlA W a)
theorem WlAt.app {C : Addr} {W : Wl} {d : D} {μ ν : Sto} (h : WlAt C W d μ) : WlAt C W d (μ ++ ν) := by
  obtain ⟨m, h⟩ := h
  refine ⟨m, ?_⟩
  cases d with
  | cell k =>
    simp only [asI] at h ⊢
    split at h
    · rename_i C' f' e
      rw [List.getElem?_append_left (List.getElem?_eq_some_iff.mp e).1, e]; exact h
    · cases h
  | _ => exact h
inductive FWl (C_World : Addr) (sel : Wl → List Str) (ds : List D) (μ : Sto) (Q : QD) (E : XD) : Prop
  | mk (d : D) (W : Wl) (a1 : ds = [d]) (a2 : WlAt C_World W d μ) (a3 : W.all.length ≤ 100) (a4 : Q (.lst ((sel W).map .str)) μ) : FWl C_World sel ds μ Q E
theorem FWl.mono {C_World : Addr} {sel : Wl → List Str} : MonF (FWl C_World sel) := fun ds μ Q Q' E E' h he q => match q with | .mk d W a1 a2 a3 a4 => .mk d W a1 a2 a3 (h _ _ a4)
theorem FWl.len {C_World : Addr} {sel : Wl → List Str} : ∀ ds μ Q E, FWl C_World sel ds μ Q E → ds.length = 1 := fun ds μ Q E q => by obtain ⟨_, _, e, _, _, _⟩ := q; rw [e]; rfl
inductive FWlC (C_World : Addr) (sel : Wl → List Str) (ds : List D) (μ : Sto) (Q : QD) (E : XD) : Prop
  | mk (d : D) (W : Wl) (a1 : ds = [d]) (a2 : WlAt C_World W d μ) (a3 : W.all.length ≤ 100) (a4 : Q (.cell μ.length) (μ ++ [.lst ((sel W).map .str)])) : FWlC C_World sel ds μ Q E
theorem FWlC.mono {C_World : Addr} {sel : Wl → List Str} : MonF (FWlC C_World sel) := fun ds μ Q Q' E E' h he q => match q with | .mk d W a1 a2 a3 a4 => .mk d W a1 a2 a3 (h _ _ a4)
theorem FWlC.len {C_World : Addr} {sel : Wl → List Str} : ∀ ds μ Q E, FWlC C_World sel ds μ Q E → ds.length = 1 := fun ds μ Q E q => by obtain ⟨_, _, e, _, _, _⟩ := q; rw [e]; rfl
theorem Wl.lens {W : Wl} (h : W.all.length ≤ 100) : W.fa.length + (W.pi.length + W.re.length) ≤ 100 := by unfold Wl.all at h; rw [List.length_append, List.length_append] at h; exact h
abbrev sWFa : Stmt := inCls (top 40) 1
abbrev nWFa : List Str := ["self"]
theorem scWFa : FnScope nWFa ["self"] (defScope sWFa) := ⟨rfl, rfl, rfl, by decide +kernel, rfl, by decide +kernel, by decide +kernel⟩
theorem met_Wfa (na_facts : NoAttr K C_World ("_facts" : Str)) {f : Addr} {fd : FuncData} {qual : Str} (T : NoB mg) (Fu : FunA K "facts" qual sWFa f fd) (cC : Cls K C_World) (M : Meth K C_World "facts" f) (hb : L2.Binds K fd ["self"] []) : Met P w K mg base 1 C_World "facts" (FWl C_World Wl.fa) [] := by
  have nd := scWFa.nd
  refine met_fun Fu scWFa cC M hb ?_ ?_ (fun cdv A outer s H E hG hr =>
    have hu : (cxOf (L2.CX P w) P w K mg base nWFa qual (defScope sWFa) f cdv A outer s H E).A.units + 64 < cLine := by have := hr.un; show (A.deeper _).units + 64 < _; omega
    have hv : (cxOf (L2.CX P w) P w K mg base nWFa qual (defScope sWFa) f cdv A outer s H E).A.units + 1 < cLine := by omega
    have tk := takes_of (X := cxOf (L2.CX P w) P w K mg base nWFa qual (defScope sWFa) f cdv A outer s H E) (E := E) rfl rfl rfl rfl
    have pw := passes_of (X := cxOf (L2.CX P w) P w K mg base nWFa qual (defScope sWFa) f cdv A outer s H E) rfl
    (ds_one (ds_ret (de_callTy cad_listD' (by rfl) T.list (by decide +kernel) (da_cons (de_fld (de_var 0 rfl)) da_nil))))) ?_
  · exact FWl.mono
  · exact FWl.len
  · rintro ds μ Q E ⟨d, W, rfl, ⟨m, h⟩, hl, z⟩
    have sz := sizeLine_eq
    have ll := Wl.lens hl
    exact ⟨_, rfl, C_World, _, _, h, cC, na_facts, rfl, _, W.fa.map .str, rfl, rfl, by rw [List.length_map]; omega, _, _, .refl, z⟩
abbrev sWPi : Stmt := inCls (top 40) 2
abbrev nWPi : List Str := ["self"]
theorem scWPi : FnScope nWPi ["self"] (defScope sWPi) := ⟨rfl, rfl, rfl, by decide +kernel, rfl, by decide +kernel, by decide +kernel⟩
theorem met_Wpi (na_piles : NoAttr K C_World ("_piles" : Str)) {f : Addr} {fd : FuncData} {qual : Str} (T : NoB mg) (Fu : FunA K "piles" qual sWPi f fd) (cC : Cls K C_World) (M : Meth K C_World "piles" f) (hb : L2.Binds K fd ["self"] []) : Met P w K mg base 1 C_World "piles" (FWl C_World Wl.pi) [] := by
  have nd := scWPi.nd
  refine met_fun Fu scWPi cC M hb ?_ ?_ (fun cdv A outer s H E hG hr =>
    have hu : (cxOf (L2.CX P w) P w K mg base nWPi qual (defScope sWPi) f cdv A outer s H E).A.units + 64 < cLine := by have := hr.un; show (A.deeper _).units + 64 < _; omega
    have hv : (cxOf (L2.CX P w) P w K mg base nWPi qual (defScope sWPi) f cdv A outer s H E).A.units + 1 < cLine := by omega
    have tk := takes_of (X := cxOf (L2.CX P w) P w K mg base nWPi qual (defScope sWPi) f cdv A outer s H E) (E := E) rfl rfl rfl rfl
    have pw := passes_of (X := cxOf (L2.CX P w) P w K mg base nWPi qual (defScope sWPi) f cdv A outer s H E) rfl
    (ds_one (ds_ret (de_callTy cad_listD' (by rfl) T.list (by decide +kernel) (da_cons (de_fld (de_var 0 rfl)) da_nil))))) ?_
  · exact FWl.mono
  · exact FWl.len
  · rintro ds μ Q E ⟨d, W, rfl, ⟨m, h⟩, hl, z⟩
    have sz := sizeLine_eq
    have ll := Wl.lens hl
    exact ⟨_, rfl, C_World, _, _, h, cC, na_piles, rfl, _, W.pi.map .str, rfl, rfl, by rw [List.length_map]; omega, _, _, .refl, z⟩
abbrev sWRe : Stmt := inCls (top 40) 3
abbrev nWRe : List Str := ["self"]
theorem scWRe : FnScope nWRe ["self"] (defScope sWRe) := ⟨rfl, rfl, rfl, by decide +kernel, rfl, by decide +kernel, by decide +kernel⟩
theorem met_Wre (na_reserves : NoAttr K C_World ("_reserves" : Str)) {f : Addr} {fd : FuncData} {qual : Str} (T : NoB mg) (Fu : FunA K "reserves" qual sWRe f fd) (cC : Cls K C_World) (M : Meth K C_World "reserves" f) (hb : L2.Binds K fd ["self"] []) : Met P w K mg base 1 C_World "reserves" (FWl C_World Wl.re) [] := by
  have nd := scWRe.nd
  refine met_fun Fu scWRe cC M hb ?_ ?_ (fun cdv A outer s H E hG hr =>
    have hu : (cxOf (L2.CX P w) P w K mg base nWRe qual (defScope sWRe) f cdv A outer s H E).A.units + 64 < cLine := by have := hr.un; show (A.deeper _).units + 64 < _; omega
    have hv : (cxOf (L2.CX P w) P w K mg base nWRe qual (defScope sWRe) f cdv A outer s H E).A.units + 1 < cLine := by omega
    have tk := takes_of (X := cxOf (L2.CX P w) P w K mg base nWRe qual (defScope sWRe) f cdv A outer s H E) (E := E) rfl rfl rfl rfl
    have pw := passes_of (X := cxOf (L2.CX P w) P w K mg base nWRe qual (defScope sWRe) f cdv A outer s H E) rfl
    (ds_one (ds_ret (de_callTy cad_listD' (by rfl) T.list (by decide +kernel) (da_cons (de_fld (de_var 0 rfl)) da_nil))))) ?_
  · exact FWl.mono
  · exact FWl.len
  · rintro ds μ Q E ⟨d, W, rfl, ⟨m, h⟩, hl, z⟩
    have sz := sizeLine_eq
    have ll := Wl.lens hl
    exact ⟨_, rfl, C_World, _, _, h, cC, na_reserves, rfl, _, W.re.map .str, rfl, rfl, by rw [List.length_map]; omega, _, _, .refl, z⟩
def Wl.seen (W : Wl) : List Str := W.fa ++ W.pi
def Wl.cou (W : Wl) : List Str := W.pi ++ W.re
abbrev sWSe : Stmt := inCls (top 40) 4
abbrev nWSe : List Str := ["self"]
theorem scWSe : FnScope nWSe ["self"] (defScope sWSe) := ⟨rfl, rfl, rfl, by decide +kernel, rfl, by decide +kernel, by decide +kernel⟩
theorem met_Wse (na_facts : NoAttr K C_World ("_facts" : Str)) (na_piles : NoAttr K C_World ("_piles" : Str)) {f : Addr} {fd : FuncData} {qual : Str} (T : NoB mg) (Fu : FunA K "seen" qual sWSe f fd) (cC : Cls K C_World) (M : Meth K C_World "seen" f) (hb : L2.Binds K fd ["self"] []) : Met P w K mg base 1 C_World "seen" (FWl C_World Wl.seen) [] := by
  have nd := scWSe.nd
  refine met_fun Fu scWSe cC M hb ?_ ?_ (fun cdv A outer s H E hG hr =>
    have hu : (cxOf (L2.CX P w) P w K mg base nWSe qual (defScope sWSe) f cdv A outer s H E).A.units + 64 < cLine := by have := hr.un; show (A.deeper _).units + 64 < _; omega
    have hv : (cxOf (L2.CX P w) P w K mg base nWSe qual (defScope sWSe) f cdv A outer s H E).A.units + 1 < cLine := by omega
    have tk := takes_of (X := cxOf (L2.CX P w) P w K mg base nWSe qual (defScope sWSe) f cdv A outer s H E) (E := E) rfl rfl rfl rfl
    have pw := passes_of (X := cxOf (L2.CX P w) P w K mg base nWSe qual (defScope sWSe) f cdv A outer s H E) rfl
    (ds_one (ds_ret (de_lstD (da_star (de_fld (de_var 0 rfl)) (da_star (de_fld (de_var 0 rfl)) da_nil)))))) ?_
  · exact FWl.mono
  · exact FWl.len
  · rintro ds μ Q E ⟨d, W, rfl, ⟨m, h⟩, hl, z⟩
    have sz := sizeLine_eq
    have ll := Wl.lens hl
    refine ⟨_, rfl, C_World, _, _, h, cC, na_facts, rfl, W.fa.map .str, rfl, _, rfl, C_World, _, _, h, cC, na_piles, rfl, W.pi.map .str, rfl, by simp only [List.length_append, List.length_map, List.length_nil]; omega, _, _, .refl, ?_⟩
    rw [List.append_nil, ← List.map_append]; exact z
abbrev sWCo : Stmt := inCls (top 40) 5
abbrev nWCo : List Str := ["self"]
theorem scWCo : FnScope nWCo ["self"] (defScope sWCo) := ⟨rfl, rfl, rfl, by decide +kernel, rfl, by decide +kernel, by decide +kernel⟩
theorem met_Wco (na_piles : NoAttr K C_World ("_piles" : Str)) (na_reserves : NoAttr K C_World ("_reserves" : Str)) {f : Addr} {fd : FuncData} {qual : Str} (T : NoB mg) (Fu : FunA K "counters" qual sWCo f fd) (cC : Cls K C_World) (M : Meth K C_World "counters" f) (hb : L2.Binds K fd ["self"] []) : Met P w K mg base 1 C_World "counters" (FWl C_World Wl.cou) [] := by
  have nd := scWCo.nd
  refine met_fun Fu scWCo cC M hb ?_ ?_ (fun cdv A outer s H E hG hr =>
    have hu : (cxOf (L2.CX P w) P w K mg base nWCo qual (defScope sWCo) f cdv A outer s H E).A.units + 64 < cLine := by have := hr.un; show (A.deeper _).units + 64 < _; omega
    have hv : (cxOf (L2.CX P w) P w K mg base nWCo qual (defScope sWCo) f cdv A outer s H E).A.units + 1 < cLine := by omega
    have tk := takes_of (X := cxOf (L2.CX P w) P w K mg base nWCo qual (defScope sWCo) f cdv A outer s H E) (E := E) rfl rfl rfl rfl
    have pw := passes_of (X := cxOf (L2.CX P w) P w K mg base nWCo qual (defScope sWCo) f cdv A outer s H E) rfl
    (ds_one (ds_ret (de_lstD (da_star (de_fld (de_var 0 rfl)) (da_star (de_fld (de_var 0 rfl)) da_nil)))))) ?_
  · exact FWl.mono
  · exact FWl.len
  · rintro ds μ Q E ⟨d, W, rfl, ⟨m, h⟩, hl, z⟩
    have sz := sizeLine_eq
    have ll := Wl.lens hl
    refine ⟨_, rfl, C_World, _, _, h, cC, na_piles, rfl, W.pi.map .str, rfl, _, rfl, C_World, _, _, h, cC, na_reserves, rfl, W.re.map .str, rfl, by simp only [List.length_append, List.length_map, List.length_nil]; omega, _, _, .refl, ?_⟩
    rw [List.append_nil, ← List.map_append]; exact z
/-- what actions a world has, by name -/
def AcAt (C_World : Addr) (W : Wl) (kd : List (Key × D)) (d : D) (μ : Sto) : Prop := ∃ a, asI μ d = some (C_World, wlA W a) ∧ asD μ a = some kd
inductive FWac (C_World : Addr) (ds : List D) (μ : Sto) (Q : QD) (E : XD) : Prop
  | mk (d : D) (W : Wl) (kd : List (Key × D)) (a1 : ds = [d]) (a2 : AcAt C_World W kd d μ) (a3 : kd.length ≤ 1000) (a4 : Q (.lst (kd.map fun q => kOf q.1)) μ) : FWac C_World ds μ Q E
theorem FWac.mono {C_World : Addr} : MonF (FWac C_World) := fun ds μ Q Q' E E' h he q => match q with | .mk d W kd a1 a2 a3 a4 => .mk d W kd a1 a2 a3 (h _ _ a4)
theorem FWac.len {C_World : Addr} : ∀ ds μ Q E, FWac C_World ds μ Q E → ds.length = 1 := fun ds μ Q E q => by obtain ⟨_, _, _, e, _, _, _⟩ := q; rw [e]; rfl
inductive FWln (C_World : Addr) (ds : List D) (μ : Sto) (Q : QD) (E : XD) : Prop
  | mk (d : D) (W : Wl) (kd : List (Key × D)) (a1 : ds = [d]) (a2 : AcAt C_World W kd d μ) (a3 : Q (.int (kd.length : Nat)) μ) : FWln C_World ds μ Q E
theorem FWln.mono {C_World : Addr} : MonF (FWln C_World) := fun ds μ Q Q' E E' h he q => match q with | .mk d W kd a1 a2 a3 => .mk d W kd a1 a2 (h _ _ a3)
theorem FWln.len {C_World : Addr} : ∀ ds μ Q E, FWln C_World ds μ Q E → ds.length = 1 := fun ds μ Q E q => by obtain ⟨_, _, _, e, _, _⟩ := q; rw [e]; rfl
end
end Dl

namespace Dl
open PySem PySem.Spec L2
open PyProof.Rows hiding St Binds
section
variable {P : Program} {w : World} {K : PySem.W.Frag} {mg : Str → Option Value} {base : Heap} {C_BadName C_BadChange C_NameInUse C_Outcome C_Action C_Condition C_World : Addr}
/-! ### what fits into a world -/
abbrev Chr : List Str := ["add", "take"]
def isBlD : D → Bool
  | .bl _ => true
  | _ => false
theorem isCh_flat {d : D} (h : isCh d) : flatD d = true := by cases d <;> first | rfl | exact h.elim
abbrev sFiF : Stmt := top 21
abbrev nFiF : List Str := ["change"]
theorem scFiF : FnScope nFiF ["change"] (defScope sFiF) := ⟨rfl, rfl, rfl, by decide +kernel, rfl, by decide +kernel, by decide +kernel⟩
inductive FFiF (ds : List D) (μ : Sto) (Q : QD) (E : XD) : Prop
  | mk (d : D) (a1 : ds = [d]) (a2 : isCh d) (a3 : Q (.bl (isBlD d)) μ) : FFiF ds μ Q E
theorem FFiF.mono  : MonF (FFiF) := fun ds μ Q Q' E E' h he q => match q with | .mk d a1 a2 a3 => .mk d a1 a2 (h _ _ a3)
theorem FFiF.len  : ∀ ds μ Q E, FFiF ds μ Q E → ds.length = 1 := fun ds μ Q E q => by obtain ⟨_, e, _, _⟩ := q; rw [e]; rfl
theorem cal_fif (kit_bb : PySem.W.kitOne K (.type "bool") (.type "bool") = some true) (kit_sb : PySem.W.kitOne K (.type "str") (.type "bool") = some false) (kit_nb : PySem.W.kitOne K (.type "NoneType") (.type "bool") = some false) {f : Addr} {fd : FuncData} {qual : Str} (T : NoB mg) (Fu : Fun K "fits_fact" qual sFiF f fd) (hm : mg "fits_fact" = some (.ref f)) (hk : PySem.W.keepIn K (.ref f) = true) (hb : L2.Binds K fd ["change"] []) : Cal P w K mg base 1 "fits_fact" FFiF [] := by
  have nd := scFiF.nd
  refine cal_fun Fu scFiF hm hk hb ?_ ?_ (fun cdv A outer s H E hG hr =>
    have hu : (cxOf (L2.CX P w) P w K mg base nFiF qual (defScope sFiF) f cdv A outer s H E).A.units + 64 < cLine := by have := hr.un; show (A.deeper _).units + 64 < _; omega
    have hv : (cxOf (L2.CX P w) P w K mg base nFiF qual (defScope sFiF) f cdv A outer s H E).A.units + 1 < cLine := by omega
    have tk := takes_of (X := cxOf (L2.CX P w) P w K mg base nFiF qual (defScope sFiF) f cdv A outer s H E) (E := E) rfl rfl rfl rfl
    have pw := passes_of (X := cxOf (L2.CX P w) P w K mg base nFiF qual (defScope sFiF) f cdv A outer s H E) rfl
    (ds_one (ds_ret (de_callB cad_isi (by rfl) T.isinstance (by decide +kernel) (da_cons (de_var 0 rfl) (da_cons (de_ty (n := "bool") (by rfl) T.bool (by decide +kernel)) da_nil)))))) ?_
  · exact FFiF.mono
  · exact FFiF.len
  · rintro ds μ Q E ⟨d, rfl, h, z⟩
    cases d with
    | bl b => exact ⟨_, rfl, _, _, _, _, _, rfl, .inr ⟨_, rfl, rfl⟩, .bl b, kit_bb, _, _, .refl, z⟩
    | str s => exact ⟨_, rfl, _, _, _, _, _, rfl, .inr ⟨_, rfl, rfl⟩, .str s, kit_sb, _, _, .refl, z⟩
    | non => exact ⟨_, rfl, _, _, _, _, _, rfl, .inr ⟨_, rfl, rfl⟩, .non, kit_nb, _, _, .refl, z⟩
    | _ => exact h.elim

abbrev sFiP : Stmt := top 22
abbrev nFiP : List Str := ["change"]
theorem scFiP : FnScope nFiP ["change"] (defScope sFiP) := ⟨rfl, rfl, rfl, by decide +kernel, rfl, by decide +kernel, by decide +kernel⟩
inductive FFiP (cs : List Str) (ds : List D) (μ : Sto) (Q : QD) (E : XD) : Prop
  | mk (d : D) (a1 : ds = [d]) (a2 : isCh d) (a3 : Q (.bl (inDD d (cs.map .str))) μ) : FFiP cs ds μ Q E
theorem FFiP.mono {cs : List Str} : MonF (FFiP cs) := fun ds μ Q Q' E E' h he q => match q with | .mk d a1 a2 a3 => .mk d a1 a2 (h _ _ a3)
theorem FFiP.len {cs : List Str} : ∀ ds μ Q E, FFiP cs ds μ Q E → ds.length = 1 := fun ds μ Q E q => by obtain ⟨_, e, _, _⟩ := q; rw [e]; rfl
theorem cal_fip {f : Addr} {fd : FuncData} {qual : Str} (T : NoB mg) (Fu : Fun K "fits_pile" qual sFiP f fd) (hm : mg "fits_pile" = some (.ref f)) (hk : PySem.W.keepIn K (.ref f) = true) (hb : L2.Binds K fd ["change"] []) : Cal P w K mg base 1 "fits_pile" (FFiP Chs) [] := by
  have nd := scFiP.nd
  refine cal_fun Fu scFiP hm hk hb ?_ ?_ (fun cdv A outer s H E hG hr =>
    have hu : (cxOf (L2.CX P w) P w K mg base nFiP qual (defScope sFiP) f cdv A outer s H E).A.units + 64 < cLine := by have := hr.un; show (A.deeper _).units + 64 < _; omega
    have hv : (cxOf (L2.CX P w) P w K mg base nFiP qual (defScope sFiP) f cdv A outer s H E).A.units + 1 < cLine := by omega
    have tk := takes_of (X := cxOf (L2.CX P w) P w K mg base nFiP qual (defScope sFiP) f cdv A outer s H E) (E := E) rfl rfl rfl rfl
    have pw := passes_of (X := cxOf (L2.CX P w) P w K mg base nFiP qual (defScope sFiP) f cdv A outer s H E) rfl
    (ds_one (ds_ret (de_cmp opd_in (de_var 0 rfl) (de_tup (da_cons de_str (da_cons de_str (da_cons de_str da_nil)))))))) ?_
  · exact FFiP.mono
  · exact FFiP.len
  · rintro ds μ Q E ⟨d, rfl, h, z⟩
    have sz := sizeLine_eq
    exact ⟨_, rfl, by show 3 ≤ sizeLine; omega, Chs.map .str, rfl, isCh_flat h, flat_strs _, _, _, .refl, z⟩

abbrev sFiR : Stmt := top 23
abbrev nFiR : List Str := ["change"]
theorem scFiR : FnScope nFiR ["change"] (defScope sFiR) := ⟨rfl, rfl, rfl, by decide +kernel, rfl, by decide +kernel, by decide +kernel⟩
theorem cal_fir {f : Addr} {fd : FuncData} {qual : Str} (T : NoB mg) (Fu : Fun K "fits_reserve" qual sFiR f fd) (hm : mg "fits_reserve" = some (.ref f)) (hk : PySem.W.keepIn K (.ref f) = true) (hb : L2.Binds K fd ["change"] []) : Cal P w K mg base 1 "fits_reserve" (FFiP Chr) [] := by
  have nd := scFiR.nd
  refine cal_fun Fu scFiR hm hk hb ?_ ?_ (fun cdv A outer s H E hG hr =>
    have hu : (cxOf (L2.CX P w) P w K mg base nFiR qual (defScope sFiR) f cdv A outer s H E).A.units + 64 < cLine := by have := hr.un; show (A.deeper _).units + 64 < _; omega
    have hv : (cxOf (L2.CX P w) P w K mg base nFiR qual (defScope sFiR) f cdv A outer s H E).A.units + 1 < cLine := by omega
    have tk := takes_of (X := cxOf (L2.CX P w) P w K mg base nFiR qual (defScope sFiR) f cdv A outer s H E) (E := E) rfl rfl rfl rfl
    have pw := passes_of (X := cxOf (L2.CX P w) P w K mg base nFiR qual (defScope sFiR) f cdv A outer s H E) rfl
    (ds_one (ds_ret (de_cmp opd_in (de_var 0 rfl) (de_tup (da_cons de_str (da_cons de_str da_nil))))))) ?_
  · exact FFiP.mono
  · exact FFiP.len
  · rintro ds μ Q E ⟨d, rfl, h, z⟩
    have sz := sizeLine_eq
    exact ⟨_, rfl, by show 2 ≤ sizeLine; omega, Chr.map .str, rfl, isCh_flat h, flat_strs _, _, _, .refl, z⟩

def hasB (W : Wl) (s : Str) : Bool := decide (s ∈ W.fa) || decide (s ∈ W.cou)
abbrev sHaN : Stmt := top 35
abbrev nHaN : List Str := ["world", "name"]
theorem scHaN : FnScope nHaN ["world", "name"] (defScope sHaN) := ⟨rfl, rfl, rfl, by decide +kernel, rfl, by decide +kernel, by decide +kernel⟩
inductive FHaN (C_World : Addr) (ds : List D) (μ : Sto) (Q : QD) (E : XD) : Prop
  | mk (d : D) (W : Wl) (s : Str) (a1 : ds = [d, .str s]) (a2 : WlAt C_World W d μ) (a3 : W.all.length ≤ 100) (a4 : Q (.bl (hasB W s)) μ) : FHaN C_World ds μ Q E
theorem FHaN.mono {C_World : Addr} : MonF (FHaN C_World) := fun ds μ Q Q' E E' h he q => match q with | .mk d W s a1 a2 a3 a4 => .mk d W s a1 a2 a3 (h _ _ a4)
theorem FHaN.len {C_World : Addr} : ∀ ds μ Q E, FHaN C_World ds μ Q E → ds.length = 2 := fun ds μ Q E q => by obtain ⟨_, _, _, e, _, _, _⟩ := q; rw [e]; rfl
theorem cal_han (cWfa : Met P w K mg base 1 C_World "facts" (FWl C_World Wl.fa) []) (cWco : Met P w K mg base 1 C_World "counters" (FWl C_World Wl.cou) []) {f : Addr} {fd : FuncData} {qual : Str} (T : NoB mg) (Fu : Fun K "has_name" qual sHaN f fd) (hm : mg "has_name" = some (.ref f)) (hk : PySem.W.keepIn K (.ref f) = true) (hb : L2.Binds K fd ["world", "name"] []) : Cal P w K mg base 2 "has_name" (FHaN C_World) [] := by
  have nd := scHaN.nd
  refine cal_fun Fu scHaN hm hk hb ?_ ?_ (fun cdv A outer s H E hG hr =>
    have hu : (cxOf (L2.CX P w) P w K mg base nHaN qual (defScope sHaN) f cdv A outer s H E).A.units + 64 < cLine := by have := hr.un; show (A.deeper _).units + 64 < _; omega
    have hv : (cxOf (L2.CX P w) P w K mg base nHaN qual (defScope sHaN) f cdv A outer s H E).A.units + 1 < cLine := by omega
    have tk := takes_of (X := cxOf (L2.CX P w) P w K mg base nHaN qual (defScope sHaN) f cdv A outer s H E) (E := E) rfl rfl rfl rfl
    have pw := passes_of (X := cxOf (L2.CX P w) P w K mg base nHaN qual (defScope sHaN) f cdv A outer s H E) rfl
    (ds_one (ds_ret (de_or (de_cmp opd_in (de_var 1 rfl) (de_meth0 cWfa hG hr (by decide) tk (de_var 0 rfl))) (de_one (de_cmp opd_in (de_var 1 rfl) (de_meth0 cWco hG hr (by decide) tk (de_var 0 rfl)))))))) ?_
  · exact FHaN.mono
  · exact FHaN.len
  · rintro ds μ Q E ⟨d, W, s, rfl, h, hl, z⟩
    obtain ⟨a, ha⟩ := id h
    unfold hasB at z
    refine ⟨_, rfl, _, rfl, _, ha, rfl, d, W, rfl, h, hl, W.fa.map .str, rfl, rfl, flat_strs _, _, rfl, ?_⟩
    show if inDD (.str s) (W.fa.map D.str) = true then _ else _
    rw [inDD_strs]
    refine ite_c (fun h1 => ?_) (fun h1 => ?_)
    · rw [h1] at z; exact ⟨_, _, .refl, z⟩
    · rw [h1] at z
      refine ⟨_, rfl, _, rfl, _, ha, rfl, d, W, rfl, h, hl, W.cou.map .str, rfl, rfl, flat_strs _, _, _, .refl, ?_⟩
      show Q (.bl (inDD (.str s) (W.cou.map D.str))) μ
      rw [inDD_strs]; exact z

def fitB (W : Wl) (s : Str) (d : D) : Bool := if s ∈ W.fa then isBlD d else if s ∈ W.pi then inDD d (Chs.map .str) else inDD d (Chr.map .str)
abbrev sFit : Stmt := top 36
abbrev nFit : List Str := ["world", "name", "change"]
theorem scFit : FnScope nFit ["world", "name", "change"] (defScope sFit) := ⟨rfl, rfl, rfl, by decide +kernel, rfl, by decide +kernel, by decide +kernel⟩
inductive FFit (C_World : Addr) (ds : List D) (μ : Sto) (Q : QD) (E : XD) : Prop
  | mk (d : D) (W : Wl) (s : Str) (v : D) (a1 : ds = [d, .str s, v]) (a2 : WlAt C_World W d μ) (a3 : W.all.length ≤ 100) (a4 : isCh v) (a5 : Q (.bl (fitB W s v)) μ) : FFit C_World ds μ Q E
theorem FFit.mono {C_World : Addr} : MonF (FFit C_World) := fun ds μ Q Q' E E' h he q => match q with | .mk d W s v a1 a2 a3 a4 a5 => .mk d W s v a1 a2 a3 a4 (h _ _ a5)
theorem FFit.len {C_World : Addr} : ∀ ds μ Q E, FFit C_World ds μ Q E → ds.length = 3 := fun ds μ Q E q => by obtain ⟨_, _, _, _, e, _, _, _, _⟩ := q; rw [e]; rfl
theorem cal_fit (cfif : Cal P w K mg base 1 "fits_fact" FFiF []) (cfip : Cal P w K mg base 1 "fits_pile" (FFiP Chs) []) (cfir : Cal P w K mg base 1 "fits_reserve" (FFiP Chr) []) (cWfa : Met P w K mg base 1 C_World "facts" (FWl C_World Wl.fa) []) (cWpi : Met P w K mg base 1 C_World "piles" (FWl C_World Wl.pi) []) {f : Addr} {fd : FuncData} {qual : Str} (T : NoB mg) (Fu : Fun K "fits" qual sFit f fd) (hm : mg "fits" = some (.ref f)) (hk : PySem.W.keepIn K (.ref f) = true) (hb : L2.Binds K fd ["world", "name", "change"] []) : Cal P w K mg base 2 "fits" (FFit C_World) [] := by
  have nd := scFit.nd
  refine cal_fun Fu scFit hm hk hb ?_ ?_ (fun cdv A outer s H E hG hr =>
    have hu : (cxOf (L2.CX P w) P w K mg base nFit qual (defScope sFit) f cdv A outer s H E).A.units + 64 < cLine := by have := hr.un; show (A.deeper _).units + 64 < _; omega
    have hv : (cxOf (L2.CX P w) P w K mg base nFit qual (defScope sFit) f cdv A outer s H E).A.units + 1 < cLine := by omega
    have tk := takes_of (X := cxOf (L2.CX P w) P w K mg base nFit qual (defScope sFit) f cdv A outer s H E) (E := E) rfl rfl rfl rfl
    have pw := passes_of (X := cxOf (L2.CX P w) P w K mg base nFit qual (defScope sFit) f cdv A outer s H E) rfl
    (ds_cons (ds_if (dt_cmp opd_in (de_var 1 rfl) (de_meth0 cWfa hG hr (by decide) tk (de_var 0 rfl))) (ds_one (ds_ret (de_call cfif hG hr (by decide) (by rfl) tk (da_cons (de_var 2 rfl) da_nil)))) ds_nil)
      (ds_cons (ds_if (dt_cmp opd_in (de_var 1 rfl) (de_meth0 cWpi hG hr (by decide) tk (de_var 0 rfl))) (ds_one (ds_ret (de_call cfip hG hr (by decide) (by rfl) tk (da_cons (de_var 2 rfl) da_nil)))) ds_nil)
      (ds_one (ds_ret (de_call cfir hG hr (by decide) (by rfl) tk (da_cons (de_var 2 rfl) da_nil))))))) ?_
  · exact FFit.mono
  · exact FFit.len
  · rintro ds μ Q E ⟨d, W, s, v, rfl, h, hl, hv', z⟩
    obtain ⟨a, ha⟩ := id h
    unfold fitB at z
    refine ⟨_, rfl, _, rfl, _, ha, rfl, d, W, rfl, h, hl, W.fa.map .str, rfl, rfl, flat_strs _, _, rfl, ?_⟩
    show if inDD (.str s) (W.fa.map D.str) = true then _ else _
    rw [inDD_strs]
    refine ite_b (fun h1 => ?_) (fun h1 => ?_)
    · rw [if_pos h1] at z
      exact ⟨_, rfl, v, rfl, hv', _, _, .refl, z⟩
    · rw [if_neg h1] at z
      refine ⟨_, rfl, _, rfl, _, ha, rfl, d, W, rfl, h, hl, W.pi.map .str, rfl, rfl, flat_strs _, _, rfl, ?_⟩
      show if inDD (.str s) (W.pi.map D.str) = true then _ else _
      rw [inDD_strs]
      refine ite_b (fun h2 => ?_) (fun h2 => ?_)
      · rw [if_pos h2] at z
        exact ⟨_, rfl, v, rfl, hv', _, _, .refl, z⟩
      · rw [if_neg h2] at z
        exact ⟨_, rfl, v, rfl, hv', _, _, .refl, z⟩

theorem valD_mem' : ∀ {es : Es} {s : Str} {d : D}, (es.map (·.1)).Nodup → (s, d) ∈ es → valD (esK es) (.inr s) = some d
  | p :: es, s, d, nd, h => by
    unfold valD
    rw [esK, List.map_cons, List.find?_cons]
    rcases List.mem_cons.mp h with h | h
    · subst h
      simp
    · have ne : p.1 ≠ s := fun e => (List.nodup_cons.mp nd).1 (List.mem_map.mpr ⟨(s, d), h, e.symm⟩)
      have : decide ((Sum.inr p.1 : Key) = .inr s) = false := decide_eq_false fun e => ne (Sum.inr.inj e)
      rw [this]
      exact valD_mem' (List.nodup_cons.mp nd).2 h
/-- an outcome that fits into a world -/
structure OuW (W : Wl) (es : Es) : Prop where
  g : EsG es
  has : ∀ p ∈ es, hasB W p.1 = true
  fit : ∀ p ∈ es, fitB W p.1 p.2 = true
abbrev sCkO : Stmt := top 34
abbrev nCkO : List Str := ["world", "outcome", "name"]
theorem scCkO : FnScope nCkO ["world", "outcome"] (defScope sCkO) := ⟨rfl, rfl, rfl, by decide +kernel, rfl, by decide +kernel, by decide +kernel⟩
inductive FCkO (C_World C_Outcome : Addr) (ds : List D) (μ : Sto) (Q : QD) (E : XD) : Prop
  | mk (d : D) (o : D) (W : Wl) (es : Es) (a1 : ds = [d, o]) (a2 : WlAt C_World W d μ) (a3 : W.all.length ≤ 100) (a4 : OuAt C_Outcome es o μ) (a5 : OuW W es) (a6 : es.length ≤ 100) (a7 : Q .non μ) : FCkO C_World C_Outcome ds μ Q E
theorem FCkO.mono {C_World C_Outcome : Addr} : MonF (FCkO C_World C_Outcome) := fun ds μ Q Q' E E' h he q => match q with | .mk d o W es a1 a2 a3 a4 a5 a6 a7 => .mk d o W es a1 a2 a3 a4 a5 a6 (h _ _ a7)
theorem FCkO.len {C_World C_Outcome : Addr} : ∀ ds μ Q E, FCkO C_World C_Outcome ds μ Q E → ds.length = 2 := fun ds μ Q E q => by obtain ⟨_, _, _, _, e, _, _, _, _, _, _⟩ := q; rw [e]; rfl
theorem cal_cko (cONm : Met P w K mg base 1 C_Outcome "names" (FONm C_Outcome) []) (cOGi : Met P w K mg base 1 C_Outcome "__getitem__" (FOGi C_Outcome) []) (cOGif : ∀ f, Meth K C_Outcome "__getitem__" f → PySem.W.fnIn K f = true) (chan : Cal P w K mg base 2 "has_name" (FHaN C_World) []) (cfit : Cal P w K mg base 2 "fits" (FFit C_World) []) {f : Addr} {fd : FuncData} {qual : Str} (T : NoB mg) (Fu : Fun K "check_outcome" qual sCkO f fd) (hm : mg "check_outcome" = some (.ref f)) (hk : PySem.W.keepIn K (.ref f) = true) (hb : L2.Binds K fd ["world", "outcome"] []) : Cal P w K mg base 3 "check_outcome" (FCkO C_World C_Outcome) [] := by
  have nd := scCkO.nd
  refine cal_fun Fu scCkO hm hk hb ?_ ?_ (fun cdv A outer s H E hG hr =>
    have hu : (cxOf (L2.CX P w) P w K mg base nCkO qual (defScope sCkO) f cdv A outer s H E).A.units + 64 < cLine := by have := hr.un; show (A.deeper _).units + 64 < _; omega
    have hv : (cxOf (L2.CX P w) P w K mg base nCkO qual (defScope sCkO) f cdv A outer s H E).A.units + 1 < cLine := by omega
    have tk := takes_of (X := cxOf (L2.CX P w) P w K mg base nCkO qual (defScope sCkO) f cdv A outer s H E) (E := E) rfl rfl rfl rfl
    have pw := passes_of (X := cxOf (L2.CX P w) P w K mg base nCkO qual (defScope sCkO) f cdv A outer s H E) rfl
    (ds_one (ds_for pw rfl (di_seq (de_meth0 cONm hG hr (by decide) tk (de_var 1 rfl))) (dg_name (i := 2) nd rfl (by first | exact .inl rfl | exact .inr rfl)) (ds_cons (ds_if (dt_not (dt_val (de_call chan hG hr (by decide) (by rfl) tk (da_cons (de_var 0 rfl) (da_cons (de_var 2 rfl) da_nil))))) (ds_one ds_never) ds_nil)
      (ds_one (ds_if (dt_not (dt_val (de_call cfit hG hr (by decide) (by rfl) tk (da_cons (de_var 0 rfl) (da_cons (de_var 2 rfl) (da_cons (de_getO (de_var 1 rfl) (de_var 2 rfl) cOGi cOGif hG hr (by decide)) da_nil)))))) (ds_one ds_never) ds_nil)))))) ?_
  · exact FCkO.mono
  · exact FCkO.len
  · rintro ds μ Q E ⟨d, o, W, es, rfl, h, hl, ho, g, le, z⟩
    refine ⟨_, rfl, _, ho, rfl, o, es, rfl, ho, le, (ordS (es.map (·.1))).map .str, rfl, fun i ρ' μ' => ∃ v2 : Option D, ρ' = [some d, some o, v2] ∧ μ' = μ, ⟨_, rfl, rfl⟩, fun _ _ _ _ => rfl, ?_, ?_⟩
    · rintro i x ρ' μ' hx ⟨v2, rfl, rfl⟩
      rw [List.getElem?_map] at hx
      obtain ⟨s, hs, rfl⟩ := Option.map_eq_some_iff.mp hx
      obtain ⟨p, hp, rfl⟩ := List.mem_map.mp ((ordS_perm _).mem_iff.mp (List.mem_of_getElem? hs))
      refine ⟨_, rfl, _, rfl, d, W, p.1, rfl, h, hl, _, rfl, iff_ (by rw [g.has p hp]; rfl) ?_⟩
      have vv := valD_mem' g.g.nd (s := p.1) (d := p.2) hp
      refine ⟨_, rfl, _, rfl, _, rfl, _, rfl, _, ho, o, p.1, es, rfl, ho, ?_⟩
      rw [vv]
      exact ⟨d, W, p.1, p.2, rfl, h, hl, (g.g.ok p hp).2.2.1, _, rfl, iff_ (by rw [g.fit p hp]; rfl) ⟨_, rfl, rfl⟩⟩
    · rintro ρ' μ' ⟨v2, rfl, rfl⟩
      exact ⟨_, _, .refl, z⟩

def tkV (es : Es) (r : Str) : Bool := PyData.eqv (chP ((valD (esK es) (.inr r)).getD .non)) (.str ("take" : Str))
def tkR (W : Wl) (es : Es) : Bool := (W.re.map (tkV es)).any id
theorem valD_ch {es : Es} (h : ∀ p ∈ es, isCh p.2) (s : Str) : isCh ((valD (esK es) (.inr s)).getD .non) := by
  cases e : valD (esK es) (.inr s) with
  | none => exact trivial
  | some d =>
    unfold valD at e
    obtain ⟨q, hq, rfl⟩ := Option.map_eq_some_iff.mp e
    obtain ⟨p, hp, rfl⟩ := List.mem_map.mp (List.mem_of_find?_eq_some hq)
    exact h p hp
theorem fm_bl (f : Str → Bool) : ∀ ss : List Str, (ss.map D.str).filterMap (fun d => match d with | .str s => some (D.bl (f s)) | _ => none) = (ss.map f).map D.bl
  | [] => rfl
  | s :: ss => by rw [List.map_cons, List.filterMap_cons]; dsimp only; rw [fm_bl f ss]; rfl
abbrev sTkR : Stmt := top 37
abbrev nTkR : List Str := ["world", "outcome", "reserve"]
theorem scTkR : FnScope nTkR ["world", "outcome"] (defScope sTkR) := ⟨rfl, rfl, rfl, by decide +kernel, rfl, by decide +kernel, by decide +kernel⟩
inductive FTkR (C_World C_Outcome : Addr) (ds : List D) (μ : Sto) (Q : QD) (E : XD) : Prop
  | mk (d : D) (o : D) (W : Wl) (es : Es) (a1 : ds = [d, o]) (a2 : WlAt C_World W d μ) (a3 : W.all.length ≤ 100) (a4 : OuAt C_Outcome es o μ) (a5 : EsG es) (a6 : bdS μ.length μ = true) (a7 : Q (.bl (tkR W es)) μ) : FTkR C_World C_Outcome ds μ Q E
theorem FTkR.mono {C_World C_Outcome : Addr} : MonF (FTkR C_World C_Outcome) := fun ds μ Q Q' E E' h he q => match q with | .mk d o W es a1 a2 a3 a4 a5 a6 a7 => .mk d o W es a1 a2 a3 a4 a5 a6 (h _ _ a7)
theorem FTkR.len {C_World C_Outcome : Addr} : ∀ ds μ Q E, FTkR C_World C_Outcome ds μ Q E → ds.length = 2 := fun ds μ Q E q => by obtain ⟨_, _, _, _, e, _, _, _, _, _, _⟩ := q; rw [e]; rfl
theorem cal_tkr (cOGi : Met P w K mg base 1 C_Outcome "__getitem__" (FOGi C_Outcome) []) (cOGif : ∀ f, Meth K C_Outcome "__getitem__" f → PySem.W.fnIn K f = true) (cWre : Met P w K mg base 1 C_World "reserves" (FWl C_World Wl.re) []) {f : Addr} {fd : FuncData} {qual : Str} (T : NoB mg) (Fu : Fun K "takes_from_reserve" qual sTkR f fd) (hm : mg "takes_from_reserve" = some (.ref f)) (hk : PySem.W.keepIn K (.ref f) = true) (hb : L2.Binds K fd ["world", "outcome"] []) : Cal P w K mg base 3 "takes_from_reserve" (FTkR C_World C_Outcome) [] := by
  have nd := scTkR.nd
  refine cal_fun Fu scTkR hm hk hb ?_ ?_ (fun cdv A outer s H E hG hr =>
    have hu : (cxOf (L2.CX P w) P w K mg base nTkR qual (defScope sTkR) f cdv A outer s H E).A.units + 64 < cLine := by have := hr.un; show (A.deeper _).units + 64 < _; omega
    have hv : (cxOf (L2.CX P w) P w K mg base nTkR qual (defScope sTkR) f cdv A outer s H E).A.units + 1 < cLine := by omega
    have tk := takes_of (X := cxOf (L2.CX P w) P w K mg base nTkR qual (defScope sTkR) f cdv A outer s H E) (E := E) rfl rfl rfl rfl
    have pw := passes_of (X := cxOf (L2.CX P w) P w K mg base nTkR qual (defScope sTkR) f cdv A outer s H E) rfl
    (ds_one (ds_ret (de_callB (cad_any rfl) (by rfl) T.any (by decide +kernel) (da_cons (de_lc (own := [("reserve", 2)]) rfl nd (di_seq (de_meth0 cWre hG hr (by decide) tk (de_var 0 rfl))) (blkOk_by (N := nTkR) (sc := defScope sTkR) (by decide +kernel)) (fun _ _ _ _ _ => (dgw_name (i := 2) nd rfl (Or.inl rfl) (by decide))) (fun _ _ _ _ _ => dts_nil) (fun _ _ _ _ _ => (de_cmp (opd_eqPl hu) (de_getO (de_var 1 rfl) (de_var 2 rfl) cOGi cOGif hG hr (by decide)) de_str))) da_nil))))) ?_
  · exact FTkR.mono
  · exact FTkR.len
  · rintro ds μ Q E ⟨d, o, W, es, rfl, h, hl, ho, g, hb', z⟩
    have sz := sizeLine_eq
    obtain ⟨a, ha⟩ := id h
    have lr := Wl.lens hl
    refine ⟨_, rfl, _, ha, rfl, d, W, rfl, h, hl, W.re.map .str, rfl, lc_pure (fun x => match x with | .str s => some (D.bl (tkV es s)) | _ => none) (fun _ => rfl) (fun x hx acc NX N0 n1 n2 => ?_) (by rw [List.length_map]; omega) (by rw [fm_bl]; exact bdL_all.mpr fun x hx => by obtain ⟨b, _, rfl⟩ := List.mem_map.mp hx; rfl) hb' ?_⟩
    · obtain ⟨s, hs, rfl⟩ := List.mem_map.mp hx
      have ho' : OuAt C_Outcome es o (μ ++ [CT.lst acc]) := asI_more ho
      have vc := valD_ch (fun p hp => (g.ok p hp).2.2.1) s
      exact ⟨_, rfl, _, rfl, _, ho', o, s, es, rfl, ho', chP _, .str ("take" : Str), chP_py vc, rfl, (chP_plain vc).1, rfl, by have := (chP_plain vc).2; omega, n1 _ rfl⟩
    · rw [fm_bl]
      exact ⟨_, W.re.map (tkV es), rfl, rfl, _, _, .refl, z⟩

abbrev sCkS : Stmt := top 32
abbrev nCkS : List Str := ["condition", "seen", "name"]
theorem scCkS : FnScope nCkS ["condition", "seen"] (defScope sCkS) := ⟨rfl, rfl, rfl, by decide +kernel, rfl, by decide +kernel, by decide +kernel⟩
inductive FCkSn (C_Condition : Addr) (ds : List D) (μ : Sto) (Q : QD) (E : XD) : Prop
  | mk (t : Tr) (ss : List Str) (a1 : ds = [cD C_Condition t.words, .lst (ss.map .str)]) (a2 : t.ok) (a3 : t.words.length < 1000) (a4 : (∀ s ∈ t.nms, s ∈ ss)) (a5 : ss.length < 64) (a6 : bdS μ.length μ = true) (a7 : Q .non μ) : FCkSn C_Condition ds μ Q E
theorem FCkSn.mono {C_Condition : Addr} : MonF (FCkSn C_Condition) := fun ds μ Q Q' E E' h he q => match q with | .mk t ss a1 a2 a3 a4 a5 a6 a7 => .mk t ss a1 a2 a3 a4 a5 a6 (h _ _ a7)
theorem FCkSn.len {C_Condition : Addr} : ∀ ds μ Q E, FCkSn C_Condition ds μ Q E → ds.length = 2 := fun ds μ Q E q => by obtain ⟨_, _, e, _, _, _, _, _, _⟩ := q; rw [e]; rfl
theorem cal_cksn (cNms : Met P w K mg base 2 C_Condition "names" (FNms C_Condition) []) {f : Addr} {fd : FuncData} {qual : Str} (T : NoB mg) (Fu : Fun K "check_seen" qual sCkS f fd) (hm : mg "check_seen" = some (.ref f)) (hk : PySem.W.keepIn K (.ref f) = true) (hb : L2.Binds K fd ["condition", "seen"] []) : Cal P w K mg base 3 "check_seen" (FCkSn C_Condition) [] := by
  have nd := scCkS.nd
  refine cal_fun Fu scCkS hm hk hb ?_ ?_ (fun cdv A outer s H E hG hr =>
    have hu : (cxOf (L2.CX P w) P w K mg base nCkS qual (defScope sCkS) f cdv A outer s H E).A.units + 64 < cLine := by have := hr.un; show (A.deeper _).units + 64 < _; omega
    have hv : (cxOf (L2.CX P w) P w K mg base nCkS qual (defScope sCkS) f cdv A outer s H E).A.units + 1 < cLine := by omega
    have tk := takes_of (X := cxOf (L2.CX P w) P w K mg base nCkS qual (defScope sCkS) f cdv A outer s H E) (E := E) rfl rfl rfl rfl
    have pw := passes_of (X := cxOf (L2.CX P w) P w K mg base nCkS qual (defScope sCkS) f cdv A outer s H E) rfl
    (ds_one (ds_for pw rfl (di_seq (de_meth0 cNms hG hr (by decide) tk (de_var 0 rfl))) (dg_name (i := 2) nd rfl (by first | exact .inl rfl | exact .inr rfl)) (ds_one (ds_if (dt_cmp opd_notin (de_var 2 rfl) (de_var 1 rfl)) (ds_one ds_never) ds_nil))))) ?_
  · exact FCkSn.mono
  · exact FCkSn.len
  · rintro ds μ Q E ⟨t, ss, rfl, ht, hl, sub, l64, hb', z⟩
    refine ⟨_, rfl, _, rfl, rfl, t, rfl, ht, hl, ⟨ss, l64, sub⟩, hb', fun ys y1 y2 y3 => ?_⟩
    refine ⟨ys.map .str, rfl, fun i ρ' μ' => ∃ v2 : Option D, ρ' = [some (cD C_Condition t.words), some (.lst (ss.map .str)), v2] ∧ μ' = μ, ⟨_, rfl, rfl⟩, fun _ _ _ _ => rfl, ?_, ?_⟩
    · rintro i x ρ' μ' hx ⟨v2, rfl, rfl⟩
      rw [List.getElem?_map] at hx
      obtain ⟨s, hs, rfl⟩ := Option.map_eq_some_iff.mp hx
      have hm := sub s ((y3 s).mp (List.mem_of_getElem? hs))
      refine ⟨_, rfl, _, rfl, ss.map .str, rfl, rfl, flat_strs _, _, rfl, ?_⟩
      show if (!inDD (.str s) (ss.map D.str)) = true then _ else _
      rw [inDD_strs]
      exact iff_ (by rw [decide_eq_true hm]; rfl) ⟨_, rfl, rfl⟩
    · rintro ρ' μ' ⟨v2, rfl, rfl⟩
      exact ⟨_, _, .refl, z⟩

/-- an action that fits into a world -/
structure AcW (W : Wl) (s : Str) (t : Tr) (os : List Es) : Prop where
  nm : nameB s = true
  asc : Asc s
  len : s.length ≤ 100
  ok : t.ok
  wl : t.words.length < 1000
  sub : ∀ n ∈ t.nms, n ∈ W.seen
  fits : ∀ es ∈ os, OuW W es ∧ es.length ≤ 100
  pos : 0 < os.length
  most : os.length ≤ 1000
  free : ∃ es ∈ os, tkR W es = false
def unK (kd : List (Key × D)) : Es := kd.map fun q => (match q.1 with | .inr s => s | .inl _ => Str.empty, q.2)
theorem unK_es (es : Es) : unK (esK es) = es := by
  unfold unK esK
  rw [List.map_map]
  exact List.map_id es
def pTk (W : Wl) : D → Option D := fun x => match x with
  | .ins _ [(_, .dct kd)] => some (.bl (tkR W (unK kd)))
  | _ => none
theorem pTk_os {C : Addr} (W : Wl) : ∀ os : List Es, (osD C os).filterMap (pTk W) = (os.map (tkR W)).map D.bl
  | [] => rfl
  | es :: os => by
    have e : pTk W (ouD C es) = some (.bl (tkR W es)) := by show some (D.bl (tkR W (unK (esK es)))) = _; rw [unK_es]
    rw [osD, List.map_cons, List.filterMap_cons, e, List.map_cons, List.map_cons, ← pTk_os (C := C) W os]
theorem bdL_bls {n : Nat} (bs : List Bool) : bdL n (bs.map D.bl) = true := bdL_all.mpr fun x hx => by obtain ⟨b, _, rfl⟩ := List.mem_map.mp hx; rfl
abbrev sCkA : Stmt := top 33
abbrev nCkA : List Str := ["world", "name", "action", "outcomes", "outcome"]
theorem scCkA : FnScope nCkA ["world", "name", "action"] (defScope sCkA) := ⟨rfl, rfl, rfl, by decide +kernel, rfl, by decide +kernel, by decide +kernel⟩
inductive FCkA (C_World C_Outcome C_Action C_Condition : Addr) (ds : List D) (μ : Sto) (Q : QD) (E : XD) : Prop
  | mk (d : D) (a : D) (W : Wl) (s : Str) (t : Tr) (os : List Es) (a1 : ds = [d, .str s, a]) (a2 : WlAt C_World W d μ) (a3 : W.all.length ≤ 60) (a4 : ActAt C_Outcome C_Action (cD C_Condition t.words) os a μ) (a5 : AcW W s t os) (a6 : bdS μ.length μ = true) (a7 : Q .non μ) : FCkA C_World C_Outcome C_Action C_Condition ds μ Q E
theorem FCkA.mono {C_World C_Outcome C_Action C_Condition : Addr} : MonF (FCkA C_World C_Outcome C_Action C_Condition) := fun ds μ Q Q' E E' h he q => match q with | .mk d a W s t os a1 a2 a3 a4 a5 a6 a7 => .mk d a W s t os a1 a2 a3 a4 a5 a6 (h _ _ a7)
theorem FCkA.len {C_World C_Outcome C_Action C_Condition : Addr} : ∀ ds μ Q E, FCkA C_World C_Outcome C_Action C_Condition ds μ Q E → ds.length = 3 := fun ds μ Q E q => by obtain ⟨_, _, _, _, _, _, e, _, _, _, _, _, _⟩ := q; rw [e]; rfl
theorem cal_cka (na_need : NoAttr K C_Action ("need" : Str)) (cls_Action : Cls K C_Action) (cChE : Cal P w K mg base 3 "check_name" (FChE C_BadName) []) (cWse : Met P w K mg base 1 C_World "seen" (FWl C_World Wl.seen) []) (ccksn : Cal P w K mg base 3 "check_seen" (FCkSn C_Condition) []) (coso : Cal P w K mg base 9 "outcomes_of" (FOsO C_Outcome C_Action) []) (ccko : Cal P w K mg base 3 "check_outcome" (FCkO C_World C_Outcome) []) (ctkr : Cal P w K mg base 3 "takes_from_reserve" (FTkR C_World C_Outcome) []) {f : Addr} {fd : FuncData} {qual : Str} (T : NoB mg) (Fu : Fun K "check_action" qual sCkA f fd) (hm : mg "check_action" = some (.ref f)) (hk : PySem.W.keepIn K (.ref f) = true) (hb : L2.Binds K fd ["world", "name", "action"] []) : Cal P w K mg base 10 "check_action" (FCkA C_World C_Outcome C_Action C_Condition) [] := by
  have nd := scCkA.nd
  refine cal_fun Fu scCkA hm hk hb ?_ ?_ (fun cdv A outer s H E hG hr =>
    have hu : (cxOf (L2.CX P w) P w K mg base nCkA qual (defScope sCkA) f cdv A outer s H E).A.units + 64 < cLine := by have := hr.un; show (A.deeper _).units + 64 < _; omega
    have hv : (cxOf (L2.CX P w) P w K mg base nCkA qual (defScope sCkA) f cdv A outer s H E).A.units + 1 < cLine := by omega
    have tk := takes_of (X := cxOf (L2.CX P w) P w K mg base nCkA qual (defScope sCkA) f cdv A outer s H E) (E := E) rfl rfl rfl rfl
    have pw := passes_of (X := cxOf (L2.CX P w) P w K mg base nCkA qual (defScope sCkA) f cdv A outer s H E) rfl
    (ds_cons (ds_expr (de_call cChE hG hr (by decide) (by rfl) tk (da_cons (de_var 1 rfl) da_nil)))
      (ds_cons (ds_expr (de_call ccksn hG hr (by decide) (by rfl) tk (da_cons (de_fld (de_var 2 rfl)) (da_cons (de_meth0 cWse hG hr (by decide) tk (de_var 0 rfl)) da_nil))))
      (ds_cons (ds_set (i := 3) nd rfl (by first | exact .inl rfl | exact .inr rfl) (de_call coso hG hr (by decide) (by rfl) tk (da_cons (de_var 2 rfl) da_nil)))
      (ds_cons (ds_for pw rfl (di_seq (de_var 3 rfl)) (dg_name (i := 4) nd rfl (by first | exact .inl rfl | exact .inr rfl)) (ds_one (ds_expr (de_call ccko hG hr (by decide) (by rfl) tk (da_cons (de_var 0 rfl) (da_cons (de_var 4 rfl) da_nil))))))
      (ds_one (ds_if (dt_val (de_callB (cad_all rfl) (by rfl) T.all (by decide +kernel) (da_cons (de_lc (own := [("outcome", 4)]) rfl nd (di_seq (de_var 3 rfl)) (blkOk_by (N := nCkA) (sc := defScope sCkA) (by decide +kernel)) (fun _ _ _ _ _ => (dgw_name (i := 4) nd rfl (Or.inl rfl) (by decide))) (fun _ _ _ _ _ => dts_nil) (fun _ _ _ _ _ => (de_call ctkr hG hr (by decide) (by rfl) takesNW (da_cons (de_var 0 rfl) (da_cons (de_var 4 rfl) da_nil))))) da_nil))) (ds_one ds_never) ds_nil))))))) ?_
  · exact FCkA.mono
  · exact FCkA.len
  · rintro ds μ Q E ⟨d, a, W, s, t, os, rfl, h, hl, ha, g, hb', z⟩
    have sz := sizeLine_eq
    obtain ⟨x, hx⟩ := id h
    have hl1 : W.all.length ≤ 100 := by omega
    have lr := Wl.lens hl1
    have ls : W.seen.length < 64 := by have : W.all.length = W.fa.length + (W.pi.length + W.re.length) := by unfold Wl.all; simp
                                       unfold Wl.seen; rw [List.length_append]; omega
    refine ⟨_, rfl, s, rfl, g.asc, g.len, hb', fun _ => ?_, fun h => (by rw [g.nm] at h; cases h)⟩
    refine ⟨_, rfl, C_Action, _, _, ha, cls_Action, na_need, rfl, _, rfl, _, hx, rfl, d, W, rfl, h, hl1, t, W.seen, rfl, g.ok, g.wl, g.sub, ls, hb', ?_⟩
    refine ⟨_, rfl, a, _, os, rfl, ha, fun es he => (g.fits es he).1.g, g.most, hb', ?_⟩
    refine ⟨_, rfl, osD C_Outcome os, rfl, fun i ρ' μ' => ∃ v4 : Option D, ρ' = [some d, some (.str s), some a, some (.lst (osD C_Outcome os)), v4] ∧ μ' = μ, ⟨_, rfl, rfl⟩, fun _ _ _ _ => rfl, ?_, ?_⟩
    · rintro i y ρ' μ' hy ⟨v4, rfl, rfl⟩
      rw [List.getElem?_map] at hy
      obtain ⟨es, he, rfl⟩ := Option.map_eq_some_iff.mp hy
      obtain ⟨f1, f2⟩ := g.fits es (List.mem_of_getElem? he)
      exact ⟨_, rfl, _, rfl, d, _, W, es, rfl, h, hl1, rfl, f1, f2, _, rfl, rfl⟩
    · rintro ρ' μ' ⟨v4, rfl, rfl⟩
      refine ⟨_, rfl, osD C_Outcome os, rfl, lc_pureB (pTk W) (fun _ => rfl) (fun x hx2 acc bm NX N0 n1 n2 => ?_) (by rw [List.length_map]; have := g.most; omega) (by rw [pTk_os]; exact bdL_bls _) hb' ?_⟩
      · obtain ⟨es, he, rfl⟩ := List.mem_map.mp hx2
        obtain ⟨f1, f2⟩ := g.fits es he
        exact ⟨_, rfl, _, rfl, d, _, W, es, rfl, h.app, hl1, rfl, f1.g, bm, n1 _ (by show some (D.bl (tkR W (unK (esK es)))) = _; rw [unK_es])⟩
      · rw [pTk_os]
        obtain ⟨es, he, hf⟩ := g.free
        refine ⟨_, os.map (tkR W), rfl, rfl, _, rfl, iff_ ?_ ⟨_, _, .refl, z⟩⟩
        exact Bool.eq_false_iff.mpr fun hall => by
          have := List.all_eq_true.mp hall (tkR W es) (List.mem_map.mpr ⟨es, he, rfl⟩)
          rw [hf] at this; cases this

abbrev sWSi : Stmt := inCls (top 40) 8
abbrev nWSi : List Str := ["self", "name", "action"]
theorem scWSi : FnScope nWSi ["self", "name", "action"] (defScope sWSi) := ⟨rfl, rfl, rfl, by decide +kernel, rfl, by decide +kernel, by decide +kernel⟩
inductive FWSi (C_World C_Outcome C_Action C_Condition : Addr) (ds : List D) (μ : Sto) (Q : QD) (E : XD) : Prop
  | mk (n : Nat) (m : Nat) (a : D) (W : Wl) (kd : List (Key × D)) (s : Str) (t : Tr) (os : List Es) (a1 : ds = [.cell n, .str s, a]) (a2 : μ[n]? = some (.ins C_World (wlF W m))) (a3 : μ[m]? = some (.dct kd)) (a4 : W.all.length ≤ 60) (a5 : ActAt C_Outcome C_Action (cD C_Condition t.words) os a μ) (a6 : AcW W s t os) (a7 : kd.length ≤ 1000) (a8 : bdS μ.length μ = true) (a9 : Q .non (μ.set m (.dct (putKD kd (.inr s) (acD C_Outcome C_Action (cD C_Condition t.words) os))))) : FWSi C_World C_Outcome C_Action C_Condition ds μ Q E
theorem FWSi.mono {C_World C_Outcome C_Action C_Condition : Addr} : MonF (FWSi C_World C_Outcome C_Action C_Condition) := fun ds μ Q Q' E E' h he q => match q with | .mk n m a W kd s t os a1 a2 a3 a4 a5 a6 a7 a8 a9 => .mk n m a W kd s t os a1 a2 a3 a4 a5 a6 a7 a8 (h _ _ a9)
theorem FWSi.len {C_World C_Outcome C_Action C_Condition : Addr} : ∀ ds μ Q E, FWSi C_World C_Outcome C_Action C_Condition ds μ Q E → ds.length = 3 := fun ds μ Q E q => by obtain ⟨_, _, _, _, _, _, _, _, e, _, _, _, _, _, _, _, _⟩ := q; rw [e]; rfl
theorem cD_bd {C : Addr} {ws : List Str} {n : Nat} : (cD C ws).bd n = true := by
  show (bdL n (ws.map D.str) && true) = true
  rw [bdL_strs]; rfl
theorem met_WSi (na_actions : NoAttr K C_World ("_actions" : Str)) (cls_World : Cls K C_World) (ccka : Cal P w K mg base 10 "check_action" (FCkA C_World C_Outcome C_Action C_Condition) []) (ccpo : Cal P w K mg base 10 "copy_of" (FCpO C_Outcome C_Action) []) {f : Addr} {fd : FuncData} {qual : Str} (T : NoB mg) (Fu : FunA K "__setitem__" qual sWSi f fd) (cC : Cls K C_World) (M : Meth K C_World "__setitem__" f) (hb : L2.Binds K fd ["self", "name", "action"] []) : Met P w K mg base 11 C_World "__setitem__" (FWSi C_World C_Outcome C_Action C_Condition) [] := by
  have nd := scWSi.nd
  refine met_fun Fu scWSi cC M hb ?_ ?_ (fun cdv A outer s H E hG hr =>
    have hu : (cxOf (L2.CX P w) P w K mg base nWSi qual (defScope sWSi) f cdv A outer s H E).A.units + 64 < cLine := by have := hr.un; show (A.deeper _).units + 64 < _; omega
    have hv : (cxOf (L2.CX P w) P w K mg base nWSi qual (defScope sWSi) f cdv A outer s H E).A.units + 1 < cLine := by omega
    have tk := takes_of (X := cxOf (L2.CX P w) P w K mg base nWSi qual (defScope sWSi) f cdv A outer s H E) (E := E) rfl rfl rfl rfl
    have pw := passes_of (X := cxOf (L2.CX P w) P w K mg base nWSi qual (defScope sWSi) f cdv A outer s H E) rfl
    (ds_cons (ds_expr (de_call ccka hG hr (by decide) (by rfl) tk (da_cons (de_var 0 rfl) (da_cons (de_var 1 rfl) (da_cons (de_var 2 rfl) da_nil)))))
      (ds_one (ds_dput hv (de_fld (de_var 0 rfl)) (de_var 1 rfl) (de_call ccpo hG hr (by decide) (by rfl) tk (da_cons (de_var 2 rfl) da_nil)))))) ?_
  · exact FWSi.mono
  · exact FWSi.len
  · rintro ds μ Q E ⟨n, m, a, W, kd, s, t, os, rfl, hn, hm', hl, ha, g, hk, hb', z⟩
    have sz := sizeLine_eq
    have hi : asI μ (.cell n) = some (C_World, wlF W m) := by simp only [asI, hn]
    refine ⟨_, rfl, _, rfl, _, rfl, .cell n, a, W, s, t, os, rfl, ⟨.cell m, hi⟩, hl, ha, g, hb', ?_⟩
    refine ⟨_, rfl, a, _, os, rfl, ha, cD_bd, fun es he => (g.fits es he).1.g, g.pos, g.most, hb', ?_⟩
    refine ⟨_, rfl, C_World, _, _, hi, cls_World, na_actions, rfl, _, rfl, m, kd, .inr s, rfl, hm', rfl, by omega, _, _, .refl, z⟩
end
end Dl

namespace Dl
open PySem PySem.Spec L2
open PyProof.Rows hiding St Binds
section
variable {P : Program} {w : World} {K : PySem.W.Frag} {mg : Str → Option Value} {base : Heap} {C_Condition : Addr}

abbrev sAnd : Stmt := inCls (top 52) 7
abbrev nAnd : List Str := ["self", "other"]
theorem scAnd : FnScope nAnd ["self", "other"] (defScope sAnd) := ⟨rfl, rfl, rfl, by decide +kernel, rfl, by decide +kernel, by decide +kernel⟩
inductive FBin (C_Condition : Addr) (x : Str) (ds : List D) (μ : Sto) (Q : QD) (E : XD) : Prop
  | mk (ws : List Str) (vs : List Str) (a1 : ds = [Dl.cD C_Condition ws, Dl.cD C_Condition vs]) (a2 : ws.length + vs.length ≤ 10000) (a3 : bdS μ.length μ = true) (a4 : Q (Dl.cD C_Condition (ws ++ vs ++ [x])) μ) : FBin C_Condition x ds μ Q E
theorem FBin.mono {C_Condition : Addr} {x : Str} : MonF (FBin C_Condition x) := fun ds μ Q Q' E E' h he q => match q with | .mk ws vs a1 a2 a3 a4 => .mk ws vs a1 a2 a3 (h _ _ a4)
theorem FBin.len {C_Condition : Addr} {x : Str} : ∀ ds μ Q E, FBin C_Condition x ds μ Q E → ds.length = 2 := fun ds μ Q E q => by obtain ⟨_, _, e, _, _, _⟩ := q; rw [e]; rfl
theorem met_And (hm_Condition : mg "Condition" = some (.ref C_Condition)) (isC_Condition : IsC K C_Condition) (kit_Condition : PySem.W.kitOne K (.ref C_Condition) (.ref C_Condition) = some true) (na_words : NoAttr K C_Condition ("_words" : Str)) (cCo : Mak P w K mg base 1 "Condition" C_Condition (FIni C_Condition) []) {f : Addr} {fd : FuncData} {qual : Str} (T : NoB mg) (Fu : FunA K "__and__" qual sAnd f fd) (cC : Cls K C_Condition) (M : Meth K C_Condition "__and__" f) (hb : L2.Binds K fd ["self", "other"] []) : Met P w K mg base 3 C_Condition "__and__" (FBin C_Condition ("and" : Str)) [] := by
  have nd := scAnd.nd
  refine met_fun Fu scAnd cC M hb ?_ ?_ (fun cdv A outer s H E hG hr =>
    have hu : (cxOf (L2.CX P w) P w K mg base nAnd qual (defScope sAnd) f cdv A outer s H E).A.units + 64 < cLine := by have := hr.un; show (A.deeper _).units + 64 < _; omega
    have hv : (cxOf (L2.CX P w) P w K mg base nAnd qual (defScope sAnd) f cdv A outer s H E).A.units + 1 < cLine := by omega
    have tk := takes_of (X := cxOf (L2.CX P w) P w K mg base nAnd qual (defScope sAnd) f cdv A outer s H E) (E := E) rfl rfl rfl rfl
    have pw := passes_of (X := cxOf (L2.CX P w) P w K mg base nAnd qual (defScope sAnd) f cdv A outer s H E) rfl
    (ds_cons (ds_if (dt_not (dt_val (de_callB cad_isi (by rfl) T.isinstance (by decide +kernel) (da_cons (de_var 1 rfl) (da_cons (de_cls (by rfl) hm_Condition) da_nil))))) (ds_one ds_never) ds_nil)
      (ds_one (ds_ret (de_make cCo hG hr (by decide) (by rfl) tk (da_cons (de_lstD (da_star (de_fld (de_var 0 rfl)) (da_star (de_fld (de_var 1 rfl)) (da_cons de_str da_nil)))) da_nil)))))) ?_
  · exact FBin.mono
  · exact FBin.len
  · rintro ds μ Q E ⟨ws, vs, rfl, hl, hb', z⟩
    have sz := sizeLine_eq
    refine ⟨_, rfl, _, _, _, _, true, rfl, .inl ⟨C_Condition, rfl, rfl⟩, .ins _ _ _ rfl isC_Condition, kit_Condition, _, rfl, ?_⟩
    refine ⟨_, rfl, C_Condition, wdF ws, _, rfl, cC, na_words, rfl, _, rfl, _, rfl, C_Condition, wdF vs, _, rfl, cC, na_words, rfl, _, rfl, ?_⟩
    have e1 : ws.map D.str ++ (vs.map D.str ++ [D.str ("and" : Str)]) = (ws ++ vs ++ [("and" : Str)]).map D.str := by simp
    refine ⟨by simp; omega, ?_⟩
    exact ⟨_, _, ws ++ vs ++ [("and" : Str)], rfl, cond_get, congrArg some e1, cond_bd hb', rfl, _, _, cond_fz hb', _, _, .refl, z⟩
abbrev sOr : Stmt := inCls (top 52) 8
abbrev nOr : List Str := ["self", "other"]
theorem scOr : FnScope nOr ["self", "other"] (defScope sOr) := ⟨rfl, rfl, rfl, by decide +kernel, rfl, by decide +kernel, by decide +kernel⟩
theorem met_Or (hm_Condition : mg "Condition" = some (.ref C_Condition)) (isC_Condition : IsC K C_Condition) (kit_Condition : PySem.W.kitOne K (.ref C_Condition) (.ref C_Condition) = some true) (na_words : NoAttr K C_Condition ("_words" : Str)) (cCo : Mak P w K mg base 1 "Condition" C_Condition (FIni C_Condition) []) {f : Addr} {fd : FuncData} {qual : Str} (T : NoB mg) (Fu : FunA K "__or__" qual sOr f fd) (cC : Cls K C_Condition) (M : Meth K C_Condition "__or__" f) (hb : L2.Binds K fd ["self", "other"] []) : Met P w K mg base 3 C_Condition "__or__" (FBin C_Condition ("or" : Str)) [] := by
  have nd := scOr.nd
  refine met_fun Fu scOr cC M hb ?_ ?_ (fun cdv A outer s H E hG hr =>
    have hu : (cxOf (L2.CX P w) P w K mg base nOr qual (defScope sOr) f cdv A outer s H E).A.units + 64 < cLine := by have := hr.un; show (A.deeper _).units + 64 < _; omega
    have hv : (cxOf (L2.CX P w) P w K mg base nOr qual (defScope sOr) f cdv A outer s H E).A.units + 1 < cLine := by omega
    have tk := takes_of (X := cxOf (L2.CX P w) P w K mg base nOr qual (defScope sOr) f cdv A outer s H E) (E := E) rfl rfl rfl rfl
    have pw := passes_of (X := cxOf (L2.CX P w) P w K mg base nOr qual (defScope sOr) f cdv A outer s H E) rfl
    (ds_cons (ds_if (dt_not (dt_val (de_callB cad_isi (by rfl) T.isinstance (by decide +kernel) (da_cons (de_var 1 rfl) (da_cons (de_cls (by rfl) hm_Condition) da_nil))))) (ds_one ds_never) ds_nil)
      (ds_one (ds_ret (de_make cCo hG hr (by decide) (by rfl) tk (da_cons (de_lstD (da_star (de_fld (de_var 0 rfl)) (da_star (de_fld (de_var 1 rfl)) (da_cons de_str da_nil)))) da_nil)))))) ?_
  · exact FBin.mono
  · exact FBin.len
  · rintro ds μ Q E ⟨ws, vs, rfl, hl, hb', z⟩
    have sz := sizeLine_eq
    refine ⟨_, rfl, _, _, _, _, true, rfl, .inl ⟨C_Condition, rfl, rfl⟩, .ins _ _ _ rfl isC_Condition, kit_Condition, _, rfl, ?_⟩
    refine ⟨_, rfl, C_Condition, wdF ws, _, rfl, cC, na_words, rfl, _, rfl, _, rfl, C_Condition, wdF vs, _, rfl, cC, na_words, rfl, _, rfl, ?_⟩
    have e1 : ws.map D.str ++ (vs.map D.str ++ [D.str ("or" : Str)]) = (ws ++ vs ++ [("or" : Str)]).map D.str := by simp
    refine ⟨by simp; omega, ?_⟩
    exact ⟨_, _, ws ++ vs ++ [("or" : Str)], rfl, cond_get, congrArg some e1, cond_bd hb', rfl, _, _, cond_fz hb', _, _, .refl, z⟩
abbrev sInv : Stmt := inCls (top 52) 9
abbrev nInv : List Str := ["self"]
theorem scInv : FnScope nInv ["self"] (defScope sInv) := ⟨rfl, rfl, rfl, by decide +kernel, rfl, by decide +kernel, by decide +kernel⟩
inductive FInv (C_Condition : Addr) (ds : List D) (μ : Sto) (Q : QD) (E : XD) : Prop
  | mk (ws : List Str) (a1 : ds = [Dl.cD C_Condition ws]) (a2 : ws.length ≤ 10000) (a3 : bdS μ.length μ = true) (a4 : Q (Dl.cD C_Condition (ws ++ [("not" : Str)])) μ) : FInv C_Condition ds μ Q E
theorem FInv.mono {C_Condition : Addr} : MonF (FInv C_Condition) := fun ds μ Q Q' E E' h he q => match q with | .mk ws a1 a2 a3 a4 => .mk ws a1 a2 a3 (h _ _ a4)
theorem FInv.len {C_Condition : Addr} : ∀ ds μ Q E, FInv C_Condition ds μ Q E → ds.length = 1 := fun ds μ Q E q => by obtain ⟨_, e, _, _, _⟩ := q; rw [e]; rfl
theorem met_Inv (na_words : NoAttr K C_Condition ("_words" : Str)) (cCo : Mak P w K mg base 1 "Condition" C_Condition (FIni C_Condition) []) {f : Addr} {fd : FuncData} {qual : Str} (T : NoB mg) (Fu : FunA K "__invert__" qual sInv f fd) (cC : Cls K C_Condition) (M : Meth K C_Condition "__invert__" f) (hb : L2.Binds K fd ["self"] []) : Met P w K mg base 3 C_Condition "__invert__" (FInv C_Condition) [] := by
  have nd := scInv.nd
  refine met_fun Fu scInv cC M hb ?_ ?_ (fun cdv A outer s H E hG hr =>
    have hu : (cxOf (L2.CX P w) P w K mg base nInv qual (defScope sInv) f cdv A outer s H E).A.units + 64 < cLine := by have := hr.un; show (A.deeper _).units + 64 < _; omega
    have hv : (cxOf (L2.CX P w) P w K mg base nInv qual (defScope sInv) f cdv A outer s H E).A.units + 1 < cLine := by omega
    have tk := takes_of (X := cxOf (L2.CX P w) P w K mg base nInv qual (defScope sInv) f cdv A outer s H E) (E := E) rfl rfl rfl rfl
    have pw := passes_of (X := cxOf (L2.CX P w) P w K mg base nInv qual (defScope sInv) f cdv A outer s H E) rfl
    (ds_one (ds_ret (de_make cCo hG hr (by decide) (by rfl) tk (da_cons (de_lstD (da_star (de_fld (de_var 0 rfl)) (da_cons de_str da_nil))) da_nil))))) ?_
  · exact FInv.mono
  · exact FInv.len
  · rintro ds μ Q E ⟨ws, rfl, hl, hb', z⟩
    have sz := sizeLine_eq
    refine ⟨_, rfl, C_Condition, wdF ws, _, rfl, cC, na_words, rfl, _, rfl, ?_⟩
    have e1 : ws.map D.str ++ [D.str ("not" : Str)] = (ws ++ [("not" : Str)]).map D.str := by simp
    refine ⟨by simp; omega, ?_⟩
    exact ⟨_, _, ws ++ [("not" : Str)], rfl, cond_get, congrArg some e1, cond_bd hb', rfl, _, _, cond_fz hb', _, _, .refl, z⟩
end
end Dl

namespace Dl
open PySem PySem.Spec L2
open PyProof.Rows hiding St Binds
section
variable {P : Program} {w : World} {K : PySem.W.Frag} {mg : Str → Option Value} {base : Heap}
abbrev sMixed : Stmt := top 59
abbrev nMixed : List Str := ["_law_stream", "_law_some", "_law_left", "_law_k"]
theorem scMixed : FnScope nMixed ["_law_stream", "_law_some"] (defScope sMixed) := ⟨rfl, rfl, rfl, by decide +kernel, rfl, by decide +kernel, by decide +kernel⟩
inductive FMixed (ds : List D) (μ : Sto) (Q : QD) (E : XD) : Prop
  | mk (S : Dr) (xs : List D) (rest : Sto) (a1 : ds = [.cell 1, .lst xs]) (a2 : xs.length ≤ 1000) (a3 : bdL 2 xs = true) (a4 : S.ok) (a5 : S.t + xs.length < 1000000) (a6 : okRest rest) (a7 : μ = S.sto rest) (a8 : ∀ (ys : List D) (S' : Dr), ys.Perm xs → S'.ok → S'.t = S.t + xs.length → Q (.lst ys) (S'.sto rest)) : FMixed ds μ Q E
theorem FMixed.mono  : MonF (FMixed) := fun ds μ Q Q' E E' h he q => match q with | .mk S xs rest a1 a2 a3 a4 a5 a6 a7 a8 => .mk S xs rest a1 a2 a3 a4 a5 a6 a7 (by intros; apply h; apply a8 <;> assumption)
theorem FMixed.len  : ∀ ds μ Q E, FMixed ds μ Q E → ds.length = 2 := fun ds μ Q E q => by obtain ⟨_, _, _, e, _, _, _, _, _, _, _⟩ := q; rw [e]; rfl
theorem cal_mixed (cD : Cal P w K mg base 1 "_law_draw" FDraw []) {f : Addr} {fd : FuncData} {qual : Str} (T : NoB mg) (Fu : Fun K "_law_mixed" qual sMixed f fd) (hm : mg "_law_mixed" = some (.ref f)) (hk : PySem.W.keepIn K (.ref f) = true) (hb : L2.Binds K fd ["_law_stream", "_law_some"] []) : Cal P w K mg base 2 "_law_mixed" FMixed [] := by
  have nd := scMixed.nd
  refine cal_fun Fu scMixed hm hk hb ?_ ?_ (fun cdv A outer s H E hG hr =>
    have hu : (cxOf (L2.CX P w) P w K mg base nMixed qual (defScope sMixed) f cdv A outer s H E).A.units + 64 < cLine := by have := hr.un; show (A.deeper _).units + 64 < _; omega
    have hv : (cxOf (L2.CX P w) P w K mg base nMixed qual (defScope sMixed) f cdv A outer s H E).A.units + 1 < cLine := by omega
    have tk := takes_of (X := cxOf (L2.CX P w) P w K mg base nMixed qual (defScope sMixed) f cdv A outer s H E) (E := E) rfl rfl rfl rfl
    have pw := passes_of (X := cxOf (L2.CX P w) P w K mg base nMixed qual (defScope sMixed) f cdv A outer s H E) rfl
    (ds_cons (ds_set (i := 2) nd rfl (by first | exact .inl rfl | exact .inr rfl) (de_callTy cad_listC' (by rfl) T.list (by decide +kernel) (da_cons (de_var 1 rfl) da_nil)))
      (ds_one (ds_ret (de_lc (own := [("_law_k", 3)]) rfl nd (di_rng1 (by rfl) T.range (da_cons (de_callB cad_len (by rfl) T.len (by decide +kernel) (da_cons (de_var 2 rfl) da_nil)) da_nil)) (blkOk_by (N := nMixed) (sc := defScope sMixed) (by decide +kernel)) (fun _ _ _ _ _ => (dgw_name (i := 3) nd rfl (Or.inl rfl) (by decide))) (fun _ _ _ _ _ => dts_nil) (fun _ _ _ _ _ => (de_bmL PySem.F.plainAttrs_list PySem.F.slot_list_pop PySem.F.type_list_pop mtd_popAt (de_var 2 rfl) (da_cons (de_call cD hG hr (by decide) (by rfl) takesNW (da_cons (de_var 0 rfl) (da_cons (de_callB cad_len (by rfl) T.len (by decide +kernel) (da_cons (de_var 2 rfl) da_nil)) da_nil))) da_nil)))))))) ?_
  · exact FMixed.mono
  · exact FMixed.len
  · rintro ds μ Q E ⟨S, xs, rest, rfl, hl, hb, ok, tl, okr, rfl, z⟩
    have sz := sizeLine_eq
    refine ⟨_, rfl, _, xs, rfl, rfl, by omega, ?_⟩
    rw [sto_app]
    refine ⟨_, rfl, .inr ⟨_, xs, rfl, asS_of (get_a rfl), _, rfl, by omega, by omega, fun i μ' => ∃ (S' : Dr) (acc left : List D), S'.ok ∧ S'.t = S.t + i ∧ i + left.length = xs.length ∧ acc.length = i ∧ (acc ++ left).Perm xs ∧ μ' = S'.sto (rest ++ [.lst left, .lst acc]), ?_, fun _ _ _ => trivial, ?_, ?_⟩⟩
    · exact ⟨S, [], xs, ok, by simp, by simp, rfl, .refl _, sto_app2⟩
    · rintro i x μ' hx ⟨S', acc, left, ok', t', l1, l2, pm, rfl⟩
      have hi : i < xs.length := by
        have := (List.getElem?_eq_some_iff.mp hx).1
        simpa using this
      refine ⟨_, rfl, ⟨left, asL_of (get_ab rfl)⟩, _, rfl, _, rfl, .inr ⟨_, left, rfl, asS_of (get_ab rfl), S', _, _, rfl, by omega, by omega, ok', by omega, rfl, fun r S2 r0 r1 ok2 t2 => ?_⟩⟩
      have hr : r.toNat < left.length := by omega
      refine ⟨_, left, r, r.toNat, left[r.toNat], rfl, rfl, get_ab rfl, by omega, by omega, ix_nn r0 r1, List.getElem?_eq_getElem hr, ?_⟩
      have s1 := set_ab (S := S2) (a := .lst left) (b := .lst acc) (c := .lst (left.eraseIdx r.toNat)) (n := (S.sto rest).length) sto_len
      have nl : (S.sto (rest ++ [CT.lst xs])).length = rest.length + 3 := by rw [sto_len]; simp
      rw [s1]
      refine ⟨acc, get_bb nl, by omega, ?_⟩
      have s2 := set_bb (S := S2) (a := .lst (left.eraseIdx r.toNat)) (b := .lst acc) (c := .lst (acc ++ [left[r.toNat]])) nl
      rw [s2]
      refine ⟨S2, acc ++ [left[r.toNat]], left.eraseIdx r.toNat, ok2, by omega, ?_, by simp [l2], ?_, rfl⟩
      · rw [List.length_eraseIdx_of_lt hr]; omega
      · rw [List.append_assoc]
        exact (List.Perm.append_left acc (perm_erase left r.toNat hr)).trans pm
    · rintro μ' ⟨S', acc, left, ok', t', l1, l2, pm, rfl⟩
      have le : left = [] := by have := l1; simp at this; first | exact this | exact List.eq_nil_of_length_eq_zero (by omega)
      have pmx : acc.Perm xs := by have := pm; rw [le, List.append_nil] at this; exact this
      have bacc : bdL 2 acc = true := bdL_all.mpr fun d h => bdL_all.mp hb d (pm.mem_iff.mp (List.mem_append_left _ h))
      have bleft : bdL 2 left = true := bdL_all.mpr fun d h => bdL_all.mp hb d (pm.mem_iff.mp (List.mem_append_right _ h))
      have okr1 : okRest (rest ++ [.lst left]) := okr.add (bdL_mono (by omega) bleft)
      refine ⟨_, S'.sto (rest ++ [.lst left]), ?_, _, S'.sto rest, .drop (μ := S'.sto rest) (by rw [sto_len, sto_len]; omega) (bd_lst (bdL_mono (by rw [sto_len]; omega) bacc)) okr.sto .refl, z acc S' pmx ok' (by simp at t'; omega)⟩
      have e : (S.sto (rest ++ [CT.lst xs])).length = (S'.sto (rest ++ [CT.lst left])).length := by rw [sto_len, sto_len]; simp
      rw [e, ← sto_app2]
      exact .lst (Nat.le_refl _) (bdL_mono (by rw [sto_len]; omega) bacc) okr1.sto .refl

end
end Dl

namespace Dl
open PySem PySem.Spec L2
open PyProof.Rows hiding St Binds
section
variable {P : Program} {w : World} {K : PySem.W.Frag} {mg : Str → Option Value} {base : Heap} {C_Condition C_BadName : Addr}
/-- a promise of nothing -/
theorem fng_no {f : Addr} {fd : FuncData} {ps : List Str} {F : FD} {k : Nat} (h : ∀ ds μ Q E, ¬ F ds μ Q E) : FnG P w K mg base (L2.CX P w) k f fd ps (spD K F) :=
  ⟨fun vs H Q E z => by obtain ⟨ι, μ, ds, _, _, z⟩ := z; exact (h _ _ _ _ z).elim, fun A outer s H args us vs Q E _ _ _ _ _ z => by obtain ⟨ι, μ, ds, _, _, z⟩ := z; exact (h _ _ _ _ z).elim⟩
theorem cal_no {x : Str} {f : Addr} {fd : FuncData} {ps : List Str} {F : FD} {k : Nat} (hm : mg x = some (.ref f)) (hk : PySem.W.keepIn K (.ref f) = true) (hb : L2.Binds K fd ps []) (h : ∀ ds μ Q E, ¬ F ds μ Q E) : Cal P w K mg base k x F [] :=
  ⟨fun ds μ Q Q' E E' _ _ z => (h _ _ _ _ z).elim, f, fd, ps, [], [], fng_no h, hm, hk, hb, .nil, fun _ _ => Ats.nil⟩
theorem ok_name {s : Str} (h : NameOk s) : PyData.strOk s = true := by
  unfold PyData.strOk
  rw [← Array.all_toList, List.all_eq_true]
  intro c hc
  have := (h.low c hc).2
  rw [decide_eq_true_eq]
  omega
theorem lay_strs : ∀ {ns : List Str}, (∀ s ∈ ns, PyData.strOk s = true) → PyData.canLayAll0 (ns.map PyData.str) = true ∧ PyData.depthAll (ns.map PyData.str) ≤ 1
  | [], _ => ⟨rfl, by decide⟩
  | s :: ns, h => by
    obtain ⟨h1, h2⟩ := lay_strs (ns := ns) fun x hx => h x (List.mem_cons_of_mem _ hx)
    refine ⟨?_, ?_⟩
    · simp only [List.map_cons, PyData.canLayAll0, PyData.canLay0, h1, Bool.and_true]
      exact h s List.mem_cons_self
    · simp only [List.map_cons, PyData.depthAll, PyData.depth]
      omega
theorem sh_strs {ns : List Str} (h : ∀ s ∈ ns, PyData.strOk s = true) : SeqAt.shaped (.list (ns.map PyData.str)) = true := by
  obtain ⟨h1, h2⟩ := lay_strs h
  unfold SeqAt.shaped
  rw [show (PyData.list (ns.map PyData.str)).canLay0 = true by simp only [PyData.canLay0]; exact h1, Bool.true_and, decide_eq_true_eq]
  show PyData.depthAll _ + 1 ≤ 64
  omega
theorem nil_eqv {μ : Sto} {ns : List Str} (h : ∀ s ∈ ns, NameOk s) : ∃ p, pyS μ (.lst (ns.map .str)) = some p ∧ SeqAt.shaped p = true ∧ PyData.eqv p (.list []) = ns.isEmpty := by
  refine ⟨.list (ns.map .str), by simp [pyS, D.py, py_strs], sh_strs fun s hs => ok_name (h s hs), ?_⟩
  cases ns <;> rfl



abbrev sCnd : Stmt := top 63
abbrev nCnd : List Str := ["_law_stream", "_law_names_here", "_law_deep", "_law_way", "_law_name_here", "_law_one"]
theorem scCnd : FnScope nCnd ["_law_stream", "_law_names_here", "_law_deep"] (defScope sCnd) := ⟨rfl, rfl, rfl, by decide +kernel, rfl, by decide +kernel, by decide +kernel⟩
/-- trees below the depth n -/
inductive FCnd (n : Nat) (ds : List D) (μ : Sto) (Q : QD) (E : XD) : Prop
  | mk (S : Dr) (ns : List Str) (k : Nat) (rest : Sto) (a1 : ds = [.cell 1, .lst (ns.map .str), .int k]) (a2 : k < n) (a3 : ns.length ≤ 15) (a4 : (∀ s ∈ ns, NameOk s)) (a5 : S.ok) (a6 : S.t + ((4 * 2 ^ n : Nat) : Int) < 1000000) (a7 : okRest rest) (a8 : μ = S.sto rest) (a9 : ∀ (t : Tr) (S' : Dr), t.ok → t.dep ≤ k + 1 → (∀ s ∈ t.nms, s ∈ ns) → S'.ok → S.t ≤ S'.t → S'.t ≤ S.t + ((3 * (2 ^ (k + 1) - 1) : Nat) : Int) → Q t.d (S'.sto rest)) : FCnd n ds μ Q E
theorem FCnd.mono {n : Nat} : MonF (FCnd n) := fun ds μ Q Q' E E' h he q => match q with | .mk S ns k rest a1 a2 a3 a4 a5 a6 a7 a8 a9 => .mk S ns k rest a1 a2 a3 a4 a5 a6 a7 a8 (by intros; apply h; apply a9 <;> assumption)
theorem FCnd.len {n : Nat} : ∀ ds μ Q E, FCnd n ds μ Q E → ds.length = 3 := fun ds μ Q E q => by obtain ⟨_, _, _, _, e, _, _, _, _, _, _, _, _⟩ := q; rw [e]; rfl
theorem cal_cnd (n : Nat) (cD : Cal P w K mg base 1 "_law_draw" FDraw []) (cP : Cal P w K mg base 2 "_law_pick" FPick []) (cC : Cal P w K mg base (n + 2) "_law_condition" (FCnd n) []) {f : Addr} {fd : FuncData} {qual : Str} (T : NoB mg) (Fu : Fun K "_law_condition" qual sCnd f fd) (hm : mg "_law_condition" = some (.ref f)) (hk : PySem.W.keepIn K (.ref f) = true) (hb : L2.Binds K fd ["_law_stream", "_law_names_here", "_law_deep"] []) : Cal P w K mg base (n + 3) "_law_condition" (FCnd (n + 1)) [] := by
  have nd := scCnd.nd
  refine cal_fun Fu scCnd hm hk hb ?_ ?_ (fun cdv A outer s H E hG hr =>
    have hu : (cxOf (L2.CX P w) P w K mg base nCnd qual (defScope sCnd) f cdv A outer s H E).A.units + 64 < cLine := by have := hr.un; show (A.deeper _).units + 64 < _; omega
    have hv : (cxOf (L2.CX P w) P w K mg base nCnd qual (defScope sCnd) f cdv A outer s H E).A.units + 1 < cLine := by omega
    have tk := takes_of (X := cxOf (L2.CX P w) P w K mg base nCnd qual (defScope sCnd) f cdv A outer s H E) (E := E) rfl rfl rfl rfl
    have pw := passes_of (X := cxOf (L2.CX P w) P w K mg base nCnd qual (defScope sCnd) f cdv A outer s H E) rfl
    (ds_cons (ds_set (i := 3) nd rfl (by first | exact .inl rfl | exact .inr rfl) (de_call cD hG hr (by omega) (by rfl) tk (da_cons (de_var 0 rfl) (da_cons de_int da_nil))))
      (ds_cons (ds_if (DW.pt (dw_or (dt_cmp (opd_eqP' hu) (de_var 1 rfl) (de_lstD da_nil)) (dw_or1 (dt_cmp opd_eqI (de_var 3 rfl) de_int)))) (ds_one (ds_ret (de_ixL (de_lstD (da_cons (de_tup (da_cons de_str da_nil)) (da_cons (de_tup (da_cons de_str da_nil)) da_nil))) (de_call cD hG hr (by omega) (by rfl) tk (da_cons (de_var 0 rfl) (da_cons de_int da_nil)))))) ds_nil)
      (ds_cons (ds_if (DW.pt (dw_or (dt_cmp opd_eqI (de_var 2 rfl) de_int) (dw_or1 (dt_cmp opd_lt (de_var 3 rfl) de_int)))) (ds_cons (ds_set (i := 4) nd rfl (by first | exact .inl rfl | exact .inr rfl) (de_call cP hG hr (by omega) (by rfl) tk (da_cons (de_var 0 rfl) (da_cons (de_var 1 rfl) da_nil))))
      (ds_one (ds_ret (de_ifx (dt_cmp opd_eqI (de_call cD hG hr (by omega) (by rfl) tk (da_cons (de_var 0 rfl) (da_cons de_int da_nil))) de_int) (de_tup (da_cons de_str (da_cons (de_var 4 rfl) da_nil))) (de_tup (da_cons de_str (da_cons (de_tup (da_cons de_str (da_cons (de_var 4 rfl) da_nil))) da_nil))))))) ds_nil)
      (ds_cons (ds_if (dt_cmp opd_eqI (de_var 3 rfl) de_int) (ds_one (ds_ret (de_tup (da_cons de_str (da_cons (de_call cC hG hr (by omega) (by rfl) tk (da_cons (de_var 0 rfl) (da_cons (de_var 1 rfl) (da_cons (de_op opd_sub (de_var 2 rfl) de_int) da_nil)))) da_nil))))) ds_nil)
      (ds_cons (ds_set (i := 5) nd rfl (by first | exact .inl rfl | exact .inr rfl) (de_call cC hG hr (by omega) (by rfl) tk (da_cons (de_var 0 rfl) (da_cons (de_var 1 rfl) (da_cons (de_op opd_sub (de_var 2 rfl) de_int) da_nil)))))
      (ds_one (ds_ret (de_tup (da_cons (de_ixL (de_lstD (da_cons de_str (da_cons de_str da_nil))) (de_op opd_mod (de_var 3 rfl) de_int)) (da_cons (de_var 5 rfl) (da_cons (de_call cC hG hr (by omega) (by rfl) tk (da_cons (de_var 0 rfl) (da_cons (de_var 1 rfl) (da_cons (de_op opd_sub (de_var 2 rfl) de_int) da_nil)))) da_nil)))))))))))) ?_
  · exact FCnd.mono
  · exact FCnd.len
  · rintro ds μ Q E ⟨S, ns, k, rest, rfl, hk, hl, hs, ok, tl, okr, rfl, z⟩
    have sz := sizeLine_eq
    have pw0 : 2 ^ (k + 1) = 2 * 2 ^ k := by rw [Nat.pow_succ]; omega
    have pw1 : 1 ≤ 2 ^ k := Nat.one_le_two_pow
    have pwn : 2 ^ (k + 1) ≤ 2 ^ (n + 1) := Nat.pow_le_pow_right (by decide) (by omega)
    rw [pw0] at z
    rw [pw0] at pwn
    have t0 := ok.t0
    refine ⟨_, rfl, S, 9, rest, rfl, by decide, by decide, ok, by omega, rfl, fun r S1 r0 r1 ok1 t1 => ?_⟩
    obtain ⟨p, hp, sh, ev⟩ := nil_eqv (μ := S1.sto rest) hs
    refine ⟨_, rfl, by show 0 ≤ sizeLine; omega, p, .list [], hp, rfl, sh, rfl, _, rfl, ?_⟩
    have leaf : ∀ (S1 : Dr), S1.ok → S1.t = S.t + 1 → ∀ (r : Int) (S2 : Dr), 0 ≤ r → r < 2 → S2.ok → S2.t = S1.t + 1 → ∃ ds i d, asS (S2.sto rest) (.lst [.tup [.str ("always" : Str)], .tup [.str ("never" : Str)]]) = some ds ∧ D.int r = .int i ∧ atI ds i = some d ∧ Q d (S2.sto rest) := fun S1 ok1 t1 r S2 r0 r1 ok2 t2 => by
      have : r = 0 ∨ r = 1 := by omega
      rcases this with rfl | rfl
      · exact ⟨_, 0, _, rfl, rfl, rfl, z .al S2 trivial (Nat.zero_le _) (fun _ h => nomatch h) ok2 (by omega) (by omega)⟩
      · exact ⟨_, 1, _, rfl, rfl, rfl, z .nv S2 trivial (Nat.zero_le _) (fun _ h => nomatch h) ok2 (by omega) (by omega)⟩
    rw [ev]
    refine ite_c (fun he => ?_) (fun he => ?_)
    · refine ⟨by show 1 ≤ sizeLine; omega, by show 1 ≤ sizeLine; omega, by show 2 ≤ sizeLine; omega, _, rfl, S1, 2, rest, rfl, by decide, by decide, ok1, by omega, rfl, fun r2 S2 r20 r21 ok2 t2 => ?_⟩
      obtain ⟨ds, i, d, h1, h2, h3, h4⟩ := leaf S1 ok1 t1 r2 S2 r20 r21 ok2 t2
      exact ⟨ds, i, d, h1, h2, h3, _, _, .refl, h4⟩
    · have hne : ns.map D.str ≠ [] := by
        intro e
        rw [List.map_eq_nil_iff] at e
        rw [e] at he
        cases he
      refine ⟨_, rfl, _, _, rfl, rfl, _, rfl, ite_b (fun h => ?_) (fun h => ?_)⟩
      · refine ⟨by show 1 ≤ sizeLine; omega, by show 1 ≤ sizeLine; omega, by show 2 ≤ sizeLine; omega, _, rfl, S1, 2, rest, rfl, by decide, by decide, ok1, by omega, rfl, fun r2 S2 r20 r21 ok2 t2 => ?_⟩
        obtain ⟨ds, i, d, h1, h2, h3, h4⟩ := leaf S1 ok1 t1 r2 S2 r20 r21 ok2 t2
        exact ⟨ds, i, d, h1, h2, h3, _, _, .refl, h4⟩
      · refine ⟨_, rfl, _, _, rfl, rfl, _, rfl, ?_⟩
        have picks : ∀ (x : D), x ∈ ns.map D.str → ∃ s, x = .str s ∧ s ∈ ns := fun x hx => by
          obtain ⟨s, hs', rfl⟩ := List.mem_map.mp hx
          exact ⟨s, rfl, hs'⟩
        refine ite_b (fun hd => ?_) (fun hd => ?_)
        · refine ⟨_, rfl, _, rfl, S1, ns.map .str, rest, rfl, hne, by rw [List.length_map]; omega, ok1, by omega, rfl, fun x S2 hx ok2 t2 => ?_⟩
          obtain ⟨s, rfl, hs'⟩ := picks x hx
          refine ⟨_, rfl, S2, 2, rest, rfl, by decide, by decide, ok2, by omega, rfl, fun r3 S3 r30 r31 ok3 t3 => ⟨_, _, rfl, rfl, _, rfl, ite_b (fun h4 => ?_) (fun h4 => ?_)⟩⟩
          · exact ⟨_, rfl, by show 2 ≤ sizeLine; omega, _, _, .refl, z (.is s) S3 (hs s hs') (Nat.zero_le _) (fun y hy => (List.mem_singleton.mp hy) ▸ hs') ok3 (by omega) (by omega)⟩
          · exact ⟨_, rfl, by show 2 ≤ sizeLine; omega, by show 2 ≤ sizeLine; omega, _, _, .refl, z (.no (.is s)) S3 (hs s hs') (by show 0 + 1 ≤ _; omega) (fun y hy => (List.mem_singleton.mp hy) ▸ hs') ok3 (by omega) (by omega)⟩
        · refine ⟨_, rfl, _, rfl, ite_b (fun hw => ?_) (fun hw => ?_)⟩
          · refine ⟨_, rfl, _, rfl, S1, ns.map .str, rest, rfl, hne, by rw [List.length_map]; omega, ok1, by omega, rfl, fun x S2 hx ok2 t2 => ?_⟩
            obtain ⟨s, rfl, hs'⟩ := picks x hx
            refine ⟨_, rfl, S2, 2, rest, rfl, by decide, by decide, ok2, by omega, rfl, fun r3 S3 r30 r31 ok3 t3 => ⟨_, _, rfl, rfl, _, rfl, ite_b (fun h4 => ?_) (fun h4 => ?_)⟩⟩
            · exact ⟨_, rfl, by show 2 ≤ sizeLine; omega, _, _, .refl, z (.is s) S3 (hs s hs') (Nat.zero_le _) (fun y hy => (List.mem_singleton.mp hy) ▸ hs') ok3 (by omega) (by omega)⟩
            · exact ⟨_, rfl, by show 2 ≤ sizeLine; omega, by show 2 ≤ sizeLine; omega, _, _, .refl, z (.no (.is s)) S3 (hs s hs') (by show 0 + 1 ≤ _; omega) (fun y hy => (List.mem_singleton.mp hy) ▸ hs') ok3 (by omega) (by omega)⟩
          · obtain ⟨m, rfl⟩ : ∃ m, k = m + 1 := ⟨k - 1, by omega⟩
            have hm1 : (((m + 1 : Nat) : Int) - 1) = ((m : Nat) : Int) := by omega
            have pm : 2 ^ (m + 1) ≤ 2 ^ n := Nat.pow_le_pow_right (by decide) (by omega)
            have pn2 : 2 ^ (n + 1) = 2 * 2 ^ n := by rw [Nat.pow_succ]; omega
            refine ⟨_, rfl, _, _, rfl, rfl, _, rfl, ite_b (fun h4 => ?_) (fun h4 => ?_)⟩
            · refine ⟨_, rfl, _, rfl, _, rfl, _, _, rfl, rfl, ?_⟩
              rw [hm1]
              refine ⟨S1, ns, m, rest, rfl, by omega, hl, hs, ok1, by omega, okr, rfl, fun t S2 ht dt nt ok2 t2 t2' => ?_⟩
              exact ⟨by show 2 ≤ sizeLine; omega, _, _, .refl, z (.no t) S2 ht (by show t.dep + 1 ≤ _; omega) nt ok2 (by omega) (by omega)⟩
            · refine ⟨_, rfl, _, rfl, _, rfl, _, _, rfl, rfl, ?_⟩
              rw [hm1]
              refine ⟨S1, ns, m, rest, rfl, by omega, hl, hs, ok1, by omega, okr, rfl, fun t S2 ht dt nt ok2 t2 t2' => ?_⟩
              have hr2 : r % 2 = 0 ∨ r % 2 = 1 := by omega
              refine ⟨by show 2 ≤ sizeLine; omega, _, rfl, _, _, rfl, rfl, by decide, ?_⟩
              rcases hr2 with e | e
              · rw [e]
                refine ⟨_, 0, _, rfl, rfl, rfl, _, rfl, _, rfl, _, rfl, _, rfl, _, _, rfl, rfl, ?_⟩
                rw [hm1]
                refine ⟨S2, ns, m, rest, rfl, by omega, hl, hs, ok2, by omega, okr, rfl, fun u S3 hu du nu ok3 t3 t3' => ?_⟩
                exact ⟨by show 3 ≤ sizeLine; omega, _, _, .refl, z (.an t u) S3 ⟨ht, hu⟩ (by show max t.dep u.dep + 1 ≤ _; omega) (fun y hy => (List.mem_append.mp hy).elim (nt y) (nu y)) ok3 (by omega) (by omega)⟩
              · rw [e]
                refine ⟨_, 1, _, rfl, rfl, rfl, _, rfl, _, rfl, _, rfl, _, rfl, _, _, rfl, rfl, ?_⟩
                rw [hm1]
                refine ⟨S2, ns, m, rest, rfl, by omega, hl, hs, ok2, by omega, okr, rfl, fun u S3 hu du nu ok3 t3 t3' => ?_⟩
                exact ⟨by show 3 ≤ sizeLine; omega, _, _, .refl, z (.or t u) S3 ⟨ht, hu⟩ (by show max t.dep u.dep + 1 ≤ _; omega) (fun y hy => (List.mem_append.mp hy).elim (nt y) (nu y)) ok3 (by omega) (by omega)⟩
theorem ite_t {p : Prop} [Decidable p] {a b : Prop} (hp : p) (ha : a) : if decide p = true then a else b := by rw [if_pos (decide_eq_true hp)]; exact ha
theorem ite_f {p : Prop} [Decidable p] {a b : Prop} (hp : ¬ p) (hb : b) : if decide p = true then a else b := by rw [if_neg (by simp [hp])]; exact hb

abbrev sBlt : Stmt := top 64
abbrev nBlt : List Str := ["_law_tree"]
theorem scBlt : FnScope nBlt ["_law_tree"] (defScope sBlt) := ⟨rfl, rfl, rfl, by decide +kernel, rfl, by decide +kernel, by decide +kernel⟩
inductive FBlt (C_Condition : Addr) (n : Nat) (ds : List D) (μ : Sto) (Q : QD) (E : XD) : Prop
  | mk (t : Tr) (a1 : ds = [t.d]) (a2 : t.ok) (a3 : t.dep < n) (a4 : t.dep ≤ 8) (a5 : bdS μ.length μ = true) (a6 : Q (Dl.cD C_Condition t.words) μ) : FBlt C_Condition n ds μ Q E
theorem FBlt.mono {C_Condition : Addr} {n : Nat} : MonF (FBlt C_Condition n) := fun ds μ Q Q' E E' h he q => match q with | .mk t a1 a2 a3 a4 a5 a6 => .mk t a1 a2 a3 a4 a5 (h _ _ a6)
theorem FBlt.len {C_Condition : Addr} {n : Nat} : ∀ ds μ Q E, FBlt C_Condition n ds μ Q E → ds.length = 1 := fun ds μ Q E q => by obtain ⟨_, e, _, _, _, _, _⟩ := q; rw [e]; rfl
theorem cal_blt (n : Nat) (hm_Condition : mg "Condition" = some (.ref C_Condition)) (isC_Condition : IsC K C_Condition) (sf_Condition : PySem.W.selfFirst K C_Condition = true) (cOf : Sta P w K mg base 4 C_Condition "of" (FOf C_Condition C_BadName) []) (cAl : Sta P w K mg base 3 C_Condition "always" (FCon C_Condition ("always" : Str)) []) (cNv : Sta P w K mg base 3 C_Condition "never" (FCon C_Condition ("never" : Str)) [])
    (cAnd : Met P w K mg base 3 C_Condition "__and__" (FBin C_Condition ("and" : Str)) []) (cOr : Met P w K mg base 3 C_Condition "__or__" (FBin C_Condition ("or" : Str)) []) (cInv : Met P w K mg base 3 C_Condition "__invert__" (FInv C_Condition) [])
    (cB : Cal P w K mg base (n + 4) "_law_built" (FBlt C_Condition n) []) {f : Addr} {fd : FuncData} {qual : Str} (T : NoB mg) (Fu : Fun K "_law_built" qual sBlt f fd) (hm : mg "_law_built" = some (.ref f)) (hk : PySem.W.keepIn K (.ref f) = true) (hb : L2.Binds K fd ["_law_tree"] []) : Cal P w K mg base (n + 5) "_law_built" (FBlt C_Condition (n + 1)) [] := by
  have nd := scBlt.nd
  refine cal_fun Fu scBlt hm hk hb ?_ ?_ (fun cdv A outer s H E hG hr =>
    have hu : (cxOf (L2.CX P w) P w K mg base nBlt qual (defScope sBlt) f cdv A outer s H E).A.units + 64 < cLine := by have := hr.un; show (A.deeper _).units + 64 < _; omega
    have hv : (cxOf (L2.CX P w) P w K mg base nBlt qual (defScope sBlt) f cdv A outer s H E).A.units + 1 < cLine := by omega
    have tk := takes_of (X := cxOf (L2.CX P w) P w K mg base nBlt qual (defScope sBlt) f cdv A outer s H E) (E := E) rfl rfl rfl rfl
    have pw := passes_of (X := cxOf (L2.CX P w) P w K mg base nBlt qual (defScope sBlt) f cdv A outer s H E) rfl
    (ds_cons (ds_if (dt_cmp opd_eqS (de_ixL (de_var 0 rfl) de_int) de_str) (ds_one (ds_ret (de_stat cOf hm_Condition hG hr (by omega) (by rfl) tk (da_cons (de_ixL (de_var 0 rfl) de_int) da_nil)))) ds_nil)
      (ds_cons (ds_if (dt_cmp opd_eqS (de_ixL (de_var 0 rfl) de_int) de_str) (ds_one (ds_ret (de_inv cInv hG hr (by omega) (de_call cB hG hr (by omega) (by rfl) tk (da_cons (de_ixL (de_var 0 rfl) de_int) da_nil))))) ds_nil)
      (ds_cons (ds_if (dt_cmp opd_eqS (de_ixL (de_var 0 rfl) de_int) de_str) (ds_one (ds_ret (de_op (opd_bin isC_Condition sf_Condition cAnd hG hr (by omega)) (de_call cB hG hr (by omega) (by rfl) tk (da_cons (de_ixL (de_var 0 rfl) de_int) da_nil)) (de_call cB hG hr (by omega) (by rfl) tk (da_cons (de_ixL (de_var 0 rfl) de_int) da_nil))))) ds_nil)
      (ds_cons (ds_if (dt_cmp opd_eqS (de_ixL (de_var 0 rfl) de_int) de_str) (ds_one (ds_ret (de_op (opd_bin isC_Condition sf_Condition cOr hG hr (by omega)) (de_call cB hG hr (by omega) (by rfl) tk (da_cons (de_ixL (de_var 0 rfl) de_int) da_nil)) (de_call cB hG hr (by omega) (by rfl) tk (da_cons (de_ixL (de_var 0 rfl) de_int) da_nil))))) ds_nil)
      (ds_one (ds_ret (de_ifx (dt_cmp opd_eqS (de_ixL (de_var 0 rfl) de_int) de_str) (de_stat0 cAl hm_Condition hG hr (by omega) (by rfl) tk) (de_stat0 cNv hm_Condition hG hr (by omega) (by rfl) tk))))))))) ?_
  · exact FBlt.mono
  · exact FBlt.len
  · rintro ds μ Q E ⟨t, rfl, ht, hd, h8, hb', z⟩
    have sz := sizeLine_eq
    cases t with
    | is s =>
      refine ⟨_, rfl, _, 0, _, rfl, rfl, rfl, _, _, rfl, rfl, _, rfl, ite_t rfl ?_⟩
      exact ⟨_, rfl, _, 1, _, rfl, rfl, rfl, s, rfl, asc_name ht, Nat.le_trans ht.len (by decide), hb', fun _ => ⟨_, _, .refl, z⟩, fun h => absurd h (by rw [NameOk.nameB ht]; simp)⟩
    | al =>
      refine ⟨_, rfl, _, 0, _, rfl, rfl, rfl, _, _, rfl, rfl, _, rfl, ite_f (by decide +kernel) ?_⟩
      refine ⟨_, rfl, _, 0, _, rfl, rfl, rfl, _, _, rfl, rfl, _, rfl, ite_f (by decide +kernel) ?_⟩
      refine ⟨_, rfl, _, 0, _, rfl, rfl, rfl, _, _, rfl, rfl, _, rfl, ite_f (by decide +kernel) ?_⟩
      refine ⟨_, rfl, _, 0, _, rfl, rfl, rfl, _, _, rfl, rfl, _, rfl, ite_f (by decide +kernel) ?_⟩
      exact ⟨_, rfl, _, 0, _, rfl, rfl, rfl, _, _, rfl, rfl, _, rfl, ite_t rfl ⟨rfl, hb', _, _, .refl, z⟩⟩
    | nv =>
      refine ⟨_, rfl, _, 0, _, rfl, rfl, rfl, _, _, rfl, rfl, _, rfl, ite_f (by decide +kernel) ?_⟩
      refine ⟨_, rfl, _, 0, _, rfl, rfl, rfl, _, _, rfl, rfl, _, rfl, ite_f (by decide +kernel) ?_⟩
      refine ⟨_, rfl, _, 0, _, rfl, rfl, rfl, _, _, rfl, rfl, _, rfl, ite_f (by decide +kernel) ?_⟩
      refine ⟨_, rfl, _, 0, _, rfl, rfl, rfl, _, _, rfl, rfl, _, rfl, ite_f (by decide +kernel) ?_⟩
      exact ⟨_, rfl, _, 0, _, rfl, rfl, rfl, _, _, rfl, rfl, _, rfl, ite_f (by decide +kernel) ⟨rfl, hb', _, _, .refl, z⟩⟩
    | no t =>
      have d1 : t.dep + 1 < n + 1 := hd
      have d8 : t.dep + 1 ≤ 8 := h8
      have sm := Tr.small (t := t) ht (by omega)
      refine ⟨_, rfl, _, 0, _, rfl, rfl, rfl, _, _, rfl, rfl, _, rfl, ite_f (by decide +kernel) ?_⟩
      refine ⟨_, rfl, _, 0, _, rfl, rfl, rfl, _, _, rfl, rfl, _, rfl, ite_t rfl ?_⟩
      exact ⟨_, rfl, _, 1, _, rfl, rfl, rfl, t, rfl, ht, by omega, by omega, hb', wdF t.words, rfl, t.words, rfl, by omega, hb', _, _, .refl, z⟩
    | an a b =>
      have d1 : max a.dep b.dep + 1 < n + 1 := hd
      have d8 : max a.dep b.dep + 1 ≤ 8 := h8
      have s1 := Tr.small (t := a) ht.1 (by omega)
      have s2 := Tr.small (t := b) ht.2 (by omega)
      refine ⟨_, rfl, _, 0, _, rfl, rfl, rfl, _, _, rfl, rfl, _, rfl, ite_f (by decide +kernel) ?_⟩
      refine ⟨_, rfl, _, 0, _, rfl, rfl, rfl, _, _, rfl, rfl, _, rfl, ite_f (by decide +kernel) ?_⟩
      refine ⟨_, rfl, _, 0, _, rfl, rfl, rfl, _, _, rfl, rfl, _, rfl, ite_t rfl ?_⟩
      exact ⟨_, rfl, _, 1, _, rfl, rfl, rfl, a, rfl, ht.1, by omega, by omega, hb', _, rfl, _, 2, _, rfl, rfl, rfl, b, rfl, ht.2, by omega, by omega, hb', wdF a.words, wdF b.words, rfl, rfl, a.words, b.words, rfl, by omega, hb', _, _, .refl, z⟩
    | or a b =>
      have d1 : max a.dep b.dep + 1 < n + 1 := hd
      have d8 : max a.dep b.dep + 1 ≤ 8 := h8
      have s1 := Tr.small (t := a) ht.1 (by omega)
      have s2 := Tr.small (t := b) ht.2 (by omega)
      refine ⟨_, rfl, _, 0, _, rfl, rfl, rfl, _, _, rfl, rfl, _, rfl, ite_f (by decide +kernel) ?_⟩
      refine ⟨_, rfl, _, 0, _, rfl, rfl, rfl, _, _, rfl, rfl, _, rfl, ite_f (by decide +kernel) ?_⟩
      refine ⟨_, rfl, _, 0, _, rfl, rfl, rfl, _, _, rfl, rfl, _, rfl, ite_f (by decide +kernel) ?_⟩
      refine ⟨_, rfl, _, 0, _, rfl, rfl, rfl, _, _, rfl, rfl, _, rfl, ite_t rfl ?_⟩
      exact ⟨_, rfl, _, 1, _, rfl, rfl, rfl, a, rfl, ht.1, by omega, by omega, hb', _, rfl, _, 2, _, rfl, rfl, rfl, b, rfl, ht.2, by omega, by omega, hb', wdF a.words, wdF b.words, rfl, rfl, a.words, b.words, rfl, by omega, hb', _, _, .refl, z⟩
end
end Dl

/-! a, b, .. = a list -/
namespace Dl
open PySem PySem.Spec L2
open PyProof.Rows hiding St Binds
section
variable {X : Cx} {pos : Pos}
def tgTupL (n : Nat) (h : FGs) : FG := fun d ρ μ N => ∃ ds, asL μ d = some ds ∧ ds.length = n ∧ h ds ρ μ N
theorem dg_tupL {ts : List Expr} {k n : Nat} {h : FGs} (hc : X.calm = true) (hh : DGs X ts h)
    (hn : (assignEach ts X.env).length = n := by rfl) (hst : (assignEach ts X.env).findIdx? (·.1) = none := by rfl) : DG X (.Tuple ts k pos) (tgTupL n h) := by
  obtain ⟨t, p, kk⟩ := hh.run
  refine ⟨fun d ρ μ N N' m ⟨ds, e, c, q⟩ => ⟨ds, e, c, hh.mono _ _ _ _ _ m q⟩, _, pg_unl hc p hn hst, fun ι H σ ρ μ v d N r l a ⟨ds, e, c, q⟩ => ?_⟩
  obtain ⟨b, vs, rfl, h1, h2⟩ := asL_at r a e
  exact ⟨b, vs, rfl, .inl (.inl h1), by rw [h2.1]; exact c, kk ι H σ ρ μ vs ds N r l h2 q⟩
end
end Dl

namespace Dl
open PySem PySem.Spec L2
open PyProof.Rows hiding St Binds
section
variable {P : Program} {w : World} {K : PySem.W.Frag} {mg : Str → Option Value} {base : Heap} {C_BadName C_BadChange C_NameInUse C_Outcome C_Action C_Condition C_World : Addr}
/-! ### the law's own worlds: a dict of four lists, that of the actions a cell -/
def lwK (W : Wl) (b : D) : List (Key × D) := [(.inr ("facts" : Str), .lst (W.fa.map .str)), (.inr ("piles" : Str), .lst (W.pi.map .str)), (.inr ("reserves" : Str), .lst (W.re.map .str)), (.inr ("actions" : Str), b)]
theorem merge_nilL {kd : List (Key × D)} (nd : (kd.map (·.1)).Nodup) : mergeKD [] kd = kd := by
  have gen : ∀ (l acc : List (Key × D)), ((acc ++ l).map (·.1)).Nodup → mergeKD acc l = acc ++ l := by
    intro l
    induction l with
    | nil => intro acc _; simp [mergeKD]
    | cons q r ih =>
      intro acc h
      have e : putKD acc q.1 q.2 = acc ++ [q] := by
        unfold putKD
        rw [if_neg]
        intro e
        obtain ⟨p, hp, e2⟩ := List.any_eq_true.mp e
        rw [List.map_append, List.nodup_append] at h
        exact h.2.2 p.1 (List.mem_map.mpr ⟨p, hp, rfl⟩) q.1 (by simp) (of_decide_eq_true e2)
      show mergeKD (putKD acc q.1 q.2) r = _
      rw [e, ih (acc ++ [q]) (by rw [List.append_assoc]; exact h)]
      simp
  exact gen kd [] (by simpa using nd)
theorem lwK_merge (W : Wl) (b : D) : mergeKD [] (lwK W b) = lwK W b := merge_nilL (by show ([.inr ("facts" : Str), .inr ("piles" : Str), .inr ("reserves" : Str), .inr ("actions" : Str)] : List Key).Nodup; decide +kernel)
theorem lwK_fa (W : Wl) (b : D) : valD (lwK W b) (.inr ("facts" : Str)) = some (.lst (W.fa.map .str)) := rfl
theorem key_ne {a b : Str} (h : decide (a = b) = false) : decide ((Sum.inr a : Key) = .inr b) = false := decide_eq_false fun e => of_decide_eq_false h (Sum.inr.inj e)
theorem lwK_pi (W : Wl) (b : D) : valD (lwK W b) (.inr ("piles" : Str)) = some (.lst (W.pi.map .str)) := by
  unfold valD lwK
  simp only [List.find?_cons, key_ne (a := ("facts" : Str)) (b := ("piles" : Str)) (by decide +kernel)]
  rfl
theorem lwK_re (W : Wl) (b : D) : valD (lwK W b) (.inr ("reserves" : Str)) = some (.lst (W.re.map .str)) := by
  unfold valD lwK
  simp only [List.find?_cons, key_ne (a := ("facts" : Str)) (b := ("reserves" : Str)) (by decide +kernel), key_ne (a := ("piles" : Str)) (b := ("reserves" : Str)) (by decide +kernel)]
  rfl
theorem lwK_ac (W : Wl) (b : D) : valD (lwK W b) (.inr ("actions" : Str)) = some b := by
  unfold valD lwK
  simp only [List.find?_cons, key_ne (a := ("facts" : Str)) (b := ("actions" : Str)) (by decide +kernel), key_ne (a := ("piles" : Str)) (b := ("actions" : Str)) (by decide +kernel), key_ne (a := ("reserves" : Str)) (b := ("actions" : Str)) (by decide +kernel)]
  rfl
theorem lwK_bd {W : Wl} {k n : Nat} (h : k < n) : bdK n (lwK W (.cell k)) = true := by
  show (bdL n (W.fa.map D.str) && (bdL n (W.pi.map D.str) && (bdL n (W.re.map D.str) && (decide (k < n) && true)))) = true
  rw [bdL_strs, bdL_strs, bdL_strs, decide_eq_true h]; rfl
theorem cut_lo (ds : List D) {i : Nat} (h : i ≤ ds.length) : cutD ds (some (i : Nat)) none = ds.drop i := by
  have e : HT.sIx ds.length 0 (some (i : Nat)) = i := by simp only [HT.sIx]; rw [if_neg (by omega)]; omega
  have e2 : HT.sIx ds.length ds.length none = ds.length := rfl
  unfold cutD
  rw [e, e2, List.take_of_length_le (by rw [List.length_drop]; exact Nat.le_refl _)]
theorem cut_mid (ds : List D) {i j : Nat} (h : i + j ≤ ds.length) : cutD ds (some (i : Nat)) (some ((i : Int) + (j : Int))) = (ds.drop i).take j := by
  have e : HT.sIx ds.length 0 (some (i : Nat)) = i := by simp only [HT.sIx]; rw [if_neg (by omega)]; omega
  have e2 : HT.sIx ds.length ds.length (some ((i : Int) + (j : Int))) = i + j := by simp only [HT.sIx]; rw [if_neg (by omega)]; omega
  unfold cutD
  rw [e, e2, Nat.add_sub_cancel_left]
structure WlN (W : Wl) : Prop where
  ok : ∀ s ∈ W.all, NameOk s
  nd : W.all.Nodup
abbrev sLLi : Stmt := top 68
abbrev nLLi : List Str := ["_law_stream", "_law_facts", "_law_piles", "_law_reserves", "_law_names_here"]
theorem scLLi : FnScope nLLi ["_law_stream", "_law_facts", "_law_piles", "_law_reserves"] (defScope sLLi) := ⟨rfl, rfl, rfl, by decide +kernel, rfl, by decide +kernel, by decide +kernel⟩
inductive FLLi (ds : List D) (μ : Sto) (Q : QD) (E : XD) : Prop
  | mk (S : Dr) (f : Nat) (p : Nat) (r : Nat) (rest : Sto) (a1 : ds = [.cell 1, .int f, .int p, .int r]) (a2 : f + p + r ≤ 14) (a3 : S.ok) (a4 : S.t + 300 < 1000000) (a5 : okRest rest) (a6 : μ = S.sto rest) (a7 : ∀ (W : Wl) (S' : Dr), WlN W → W.fa.length = f → W.pi.length = p → W.re.length = r → S'.ok → S.t ≤ S'.t → S'.t ≤ S.t + 130 → Q (.cell (rest.length + 2)) (S'.sto (rest ++ [.dct (lwK W (.cell (rest.length + 3))), .lst []]))) : FLLi ds μ Q E
theorem FLLi.mono  : MonF (FLLi) := fun ds μ Q Q' E E' h he q => match q with | .mk S f p r rest a1 a2 a3 a4 a5 a6 a7 => .mk S f p r rest a1 a2 a3 a4 a5 a6 (by intros; apply h; apply a7 <;> assumption)
theorem FLLi.len  : ∀ ds μ Q E, FLLi ds μ Q E → ds.length = 4 := fun ds μ Q E q => by obtain ⟨_, _, _, _, _, e, _, _, _, _, _, _⟩ := q; rw [e]; rfl
theorem cal_lli (cNs : Cal P w K mg base 3 "_law_names" FNames []) {f : Addr} {fd : FuncData} {qual : Str} (T : NoB mg) (Fu : Fun K "_law_lists" qual sLLi f fd) (hm : mg "_law_lists" = some (.ref f)) (hk : PySem.W.keepIn K (.ref f) = true) (hb : L2.Binds K fd ["_law_stream", "_law_facts", "_law_piles", "_law_reserves"] []) : Cal P w K mg base 4 "_law_lists" FLLi [] := by
  have nd := scLLi.nd
  refine cal_fun Fu scLLi hm hk hb ?_ ?_ (fun cdv A outer s H E hG hr =>
    have hu : (cxOf (L2.CX P w) P w K mg base nLLi qual (defScope sLLi) f cdv A outer s H E).A.units + 64 < cLine := by have := hr.un; show (A.deeper _).units + 64 < _; omega
    have hv : (cxOf (L2.CX P w) P w K mg base nLLi qual (defScope sLLi) f cdv A outer s H E).A.units + 1 < cLine := by omega
    have tk := takes_of (X := cxOf (L2.CX P w) P w K mg base nLLi qual (defScope sLLi) f cdv A outer s H E) (E := E) rfl rfl rfl rfl
    have pw := passes_of (X := cxOf (L2.CX P w) P w K mg base nLLi qual (defScope sLLi) f cdv A outer s H E) rfl
    (ds_cons (ds_set (i := 4) nd rfl (by first | exact .inl rfl | exact .inr rfl) (de_call cNs hG hr (by decide) (by rfl) tk (da_cons (de_var 0 rfl) (da_cons (de_op opd_addI (de_op opd_addI (de_var 1 rfl) (de_var 2 rfl)) (de_var 3 rfl)) (da_cons (de_lstD da_nil) da_nil)))))
      (ds_one (ds_ret (de_disp (DPs.cons de_str (de_slD (de_var 4 rfl) do_none (do_some (de_var 1 rfl))) (DPs.cons de_str (de_slD (de_var 4 rfl) (do_some (de_var 1 rfl)) (do_some (de_op opd_addI (de_var 1 rfl) (de_var 2 rfl)))) (DPs.cons de_str (de_slD (de_var 4 rfl) (do_some (de_op opd_addI (de_var 1 rfl) (de_var 2 rfl))) do_none) (DPs.cons de_str (de_lstC da_nil) DPs.nil))))))))) ?_
  · exact FLLi.mono
  · exact FLLi.len
  · rintro ds μ Q E ⟨S, f, p, r, rest, rfl, hl, ok, tl, okr, rfl, z⟩
    have sz := sizeLine_eq
    have eN : ((f : Int) + (p : Int) + (r : Int)) = ((f + p + r : Nat) : Int) := by omega
    refine ⟨_, rfl, _, rfl, _, rfl, _, _, rfl, rfl, _, rfl, _, _, rfl, rfl, by show 0 ≤ sizeLine; omega, ?_⟩
    rw [eN]
    refine ⟨S, f + p + r, [], rest, rfl, by show f + p + r + 0 ≤ 15; omega, ok, by omega, okr, rfl, fun ns S1 ln hns nd _ ok1 t1 t1' => ?_⟩
    let W : Wl := ⟨ns.take f, (ns.drop f).take p, ns.drop (f + p)⟩
    have eW : W.all = ns := by
      show ns.take f ++ ((ns.drop f).take p ++ ns.drop (f + p)) = ns
      rw [← List.drop_drop, List.take_append_drop, List.take_append_drop]
    have wn : WlN W := ⟨by rw [eW]; exact hns, by rw [eW]; exact nd⟩
    have l1 : W.fa.length = f := by show (ns.take f).length = f; rw [List.length_take]; omega
    have l2 : W.pi.length = p := by show ((ns.drop f).take p).length = p; rw [List.length_take, List.length_drop]; omega
    have l3 : W.re.length = r := by show (ns.drop (f + p)).length = r; rw [List.length_drop]; omega
    have c1 : cutD (ns.map D.str) none (some (f : Nat)) = W.fa.map .str := by rw [cut_to _ (by rw [List.length_map]; omega), ← List.map_take]
    have c2 : cutD (ns.map D.str) (some (f : Nat)) (some ((f : Int) + (p : Int))) = W.pi.map .str := by rw [cut_mid _ (by rw [List.length_map]; omega), ← List.map_drop, ← List.map_take]
    have c3 : cutD (ns.map D.str) (some ((f : Int) + (p : Int))) none = W.re.map .str := by
      have e : ((f : Int) + (p : Int)) = ((f + p : Nat) : Int) := by omega
      rw [e, cut_lo _ (by rw [List.length_map]; omega), ← List.map_drop]
    have len : ∀ (o1 o2 : Option Int), (cutD (ns.map D.str) o1 o2).length ≤ sizeLine := fun o1 o2 => by
      unfold cutD
      rw [List.length_take, List.length_drop, List.length_map]; omega
    refine ⟨_, rfl, _, rfl, _, rfl, _, rfl, len _ _, ?_⟩
    rw [c1]
    refine ⟨_, rfl, _, rfl, _, rfl, _, rfl, _, rfl, _, _, rfl, rfl, _, rfl, _, rfl, len _ _, ?_⟩
    rw [c2]
    refine ⟨_, rfl, _, rfl, _, rfl, _, _, rfl, rfl, _, rfl, _, rfl, len _ _, ?_⟩
    rw [c3]
    have e3 : (S1.sto rest ++ [CT.dct []]).length = rest.length + 3 := by rw [List.length_append, sto_len]; rfl
    refine ⟨by show 0 ≤ sizeLine; omega, ?_, lwK W (.cell (rest.length + 3)), by rw [e3]; rfl, by show 4 ≤ 15; omega, _, _, .refl, _, _, .refl, ?_⟩
    · exact ga_app ap_get
    · rw [lwK_merge]
      have eS : ((S1.sto rest ++ [CT.dct []]) ++ [CT.lst []]).set (S1.sto rest).length (.dct (lwK W (.cell (rest.length + 3)))) = S1.sto (rest ++ [.dct (lwK W (.cell (rest.length + 3))), .lst []]) := by
        rw [List.set_append_left _ _ (by simp), ap_set, List.append_assoc]; rfl
      have := z W S1 wn l1 l2 l3 ok1 t1 (by omega)
      rw [← eS] at this
      exact this

abbrev sLSe : Stmt := top 65
abbrev nLSe : List Str := ["_law_w"]
theorem scLSe : FnScope nLSe ["_law_w"] (defScope sLSe) := ⟨rfl, rfl, rfl, by decide +kernel, rfl, by decide +kernel, by decide +kernel⟩
inductive FLSe (ds : List D) (μ : Sto) (Q : QD) (E : XD) : Prop
  | mk (a : Nat) (b : D) (W : Wl) (a1 : ds = [.cell a]) (a2 : μ[a]? = some (.dct (lwK W b))) (a3 : W.all.length ≤ 100) (a4 : Q (.lst (W.seen.map .str)) μ) : FLSe ds μ Q E
theorem FLSe.mono  : MonF (FLSe) := fun ds μ Q Q' E E' h he q => match q with | .mk a b W a1 a2 a3 a4 => .mk a b W a1 a2 a3 (h _ _ a4)
theorem FLSe.len  : ∀ ds μ Q E, FLSe ds μ Q E → ds.length = 1 := fun ds μ Q E q => by obtain ⟨_, _, _, e, _, _, _⟩ := q; rw [e]; rfl
theorem cal_lse {f : Addr} {fd : FuncData} {qual : Str} (T : NoB mg) (Fu : Fun K "_law_seen" qual sLSe f fd) (hm : mg "_law_seen" = some (.ref f)) (hk : PySem.W.keepIn K (.ref f) = true) (hb : L2.Binds K fd ["_law_w"] []) : Cal P w K mg base 1 "_law_seen" FLSe [] := by
  have nd := scLSe.nd
  refine cal_fun Fu scLSe hm hk hb ?_ ?_ (fun cdv A outer s H E hG hr =>
    have hu : (cxOf (L2.CX P w) P w K mg base nLSe qual (defScope sLSe) f cdv A outer s H E).A.units + 64 < cLine := by have := hr.un; show (A.deeper _).units + 64 < _; omega
    have hv : (cxOf (L2.CX P w) P w K mg base nLSe qual (defScope sLSe) f cdv A outer s H E).A.units + 1 < cLine := by omega
    have tk := takes_of (X := cxOf (L2.CX P w) P w K mg base nLSe qual (defScope sLSe) f cdv A outer s H E) (E := E) rfl rfl rfl rfl
    have pw := passes_of (X := cxOf (L2.CX P w) P w K mg base nLSe qual (defScope sLSe) f cdv A outer s H E) rfl
    (ds_one (ds_ret (de_op opd_catD (de_dget hv (de_var 0 rfl) de_str (fun _ _ => rfl)) (de_dget hv (de_var 0 rfl) de_str (fun _ _ => rfl)))))) ?_
  · exact FLSe.mono
  · exact FLSe.len
  · rintro ds μ Q E ⟨a, b, W, rfl, ha, hl, z⟩
    have sz := sizeLine_eq
    have lr := Wl.lens hl
    have hd : asD μ (.cell a) = some (lwK W b) := by simp only [asD, ha]
    refine ⟨_, rfl, lwK W b, _, _, hd, rfl, lwK_fa W b, _, rfl, lwK W b, _, _, hd, rfl, lwK_pi W b, W.fa.map .str, W.pi.map .str, rfl, rfl, by rw [List.length_append, List.length_map, List.length_map]; omega, _, _, .refl, ?_⟩
    rw [← List.map_append]; exact z

theorem putE_mem {es : Es} {s : Str} {v : D} {p : Str × D} (h : p ∈ putE es s v) : p = (s, v) ∨ (p ∈ es ∧ p.1 ≠ s) := by
  unfold putE at h
  split at h
  · obtain ⟨q, hq, rfl⟩ := List.mem_map.mp h
    by_cases e : q.1 = s
    · rw [if_pos e]; exact .inl (by rw [e])
    · rw [if_neg e]; exact .inr ⟨hq, e⟩
  · rename_i hn
    rcases List.mem_append.mp h with h1 | h1
    · exact .inr ⟨h1, fun e => hn (List.any_eq_true.mpr ⟨p, h1, decide_eq_true e⟩)⟩
    · exact .inl (List.mem_singleton.mp h1)
theorem OuW.put {W : Wl} {es : Es} {s : Str} {v : D} (h : OuW W es) (hs : NameOk s) (hv : isCh v) (hc : chB v = true) (hh : hasB W s = true) (hf : fitB W s v = true) : OuW W (putE es s v) := by
  refine ⟨h.g.put (asc_name hs) (Nat.le_trans hs.len (by decide)) (NameOk.nameB hs) hv hc, fun p hp => ?_, fun p hp => ?_⟩
  · rcases putE_mem hp with rfl | ⟨h1, _⟩
    · exact hh
    · exact h.has p h1
  · rcases putE_mem hp with rfl | ⟨h1, _⟩
    · exact hf
    · exact h.fit p h1
theorem OuW.nil (W : Wl) : OuW W [] := ⟨⟨fun p h => absurd h (by simp), List.nodup_nil⟩, fun p h => absurd h (by simp), fun p h => absurd h (by simp)⟩
/-- nothing is taken from a reserve -/
def NTk (W : Wl) (es : Es) : Prop := ∀ p ∈ es, p.1 ∈ W.re → p.2 ≠ .str ("take" : Str)
theorem NTk.put {W : Wl} {es : Es} {s : Str} {v : D} (h : NTk W es) (hv : s ∈ W.re → v ≠ .str ("take" : Str)) : NTk W (putE es s v) := fun p hp hr => by
  rcases putE_mem hp with rfl | ⟨h1, _⟩
  · exact hv hr
  · exact h p h1 hr
theorem NTk.tk {W : Wl} {es : Es} (h : NTk W es) (c : ∀ p ∈ es, isCh p.2) : tkR W es = false := by
  unfold tkR
  rw [List.any_map, List.any_eq_false]
  intro r hr
  show ¬ tkV es r = true
  unfold tkV
  cases e : valD (esK es) (.inr r) with
  | none => simp [chP, PyData.eqv]
  | some d =>
    unfold valD at e
    obtain ⟨q, hq, rfl⟩ := Option.map_eq_some_iff.mp e
    have hk := List.find?_some hq
    obtain ⟨p, hp, rfl⟩ := List.mem_map.mp (List.mem_of_find?_eq_some hq)
    have hpr : p.1 = r := Sum.inr.inj (of_decide_eq_true hk)
    have ne := h p hp (by rw [hpr]; exact hr)
    have cc := c p hp
    show ¬ PyData.eqv (chP p.2) (.str ("take" : Str)) = true
    cases hd : p.2 with
    | bl b => simp [chP, PyData.eqv]
    | non => simp [chP, PyData.eqv]
    | str s =>
      rw [hd] at ne
      intro e2
      have : s = ("take" : Str) := by simpa [chP, PyData.eqv] using e2
      exact ne (by rw [this])
    | _ => rw [hd] at cc; exact cc.elim
theorem WlN.fa {W : Wl} (h : WlN W) {s : Str} (hs : s ∈ W.fa) : NameOk s ∧ hasB W s = true ∧ ∀ b : Bool, fitB W s (.bl b) = true :=
  ⟨h.ok s (List.mem_append_left _ hs), by simp [hasB, hs], fun b => by simp [fitB, hs, isBlD]⟩
theorem WlN.pi {W : Wl} (h : WlN W) {s : Str} (hs : s ∈ W.pi) : NameOk s ∧ hasB W s = true ∧ s ∉ W.re ∧ ∀ v : D, fitB W s v = inDD v (Chs.map .str) := by
  have nd := List.nodup_append.mp h.nd
  have nd2 := List.nodup_append.mp nd.2.1
  have nf : s ∉ W.fa := fun hf => nd.2.2 s hf s (List.mem_append_left _ hs) rfl
  exact ⟨h.ok s (List.mem_append_right _ (List.mem_append_left _ hs)), by simp [hasB, Wl.cou, hs], fun hr => nd2.2.2 s hs s hr rfl, fun v => by simp [fitB, nf, hs]⟩
theorem WlN.re {W : Wl} (h : WlN W) {s : Str} (hs : s ∈ W.re) : NameOk s ∧ hasB W s = true ∧ ∀ v : D, fitB W s v = inDD v (Chr.map .str) := by
  have nd := List.nodup_append.mp h.nd
  have nd2 := List.nodup_append.mp nd.2.1
  have nf : s ∉ W.fa := fun hf => nd.2.2 s hf s (List.mem_append_right _ hs) rfl
  have np : s ∉ W.pi := fun hp => nd2.2.2 s hp s hs rfl
  exact ⟨h.ok s (List.mem_append_right _ (List.mem_append_right _ hs)), by simp [hasB, Wl.cou, hs], fun v => by simp [fitB, nf, np]⟩
theorem chs_str {s : Str} (h : s ∈ Chs) : isCh (.str s) ∧ chB (.str s) = true ∧ inDD (.str s) (Chs.map .str) = true := by
  refine ⟨?_, decide_eq_true h, by rw [inDD_strs]; exact decide_eq_true h⟩
  simp only [List.mem_cons, List.not_mem_nil, or_false] at h
  rcases h with rfl | rfl | rfl
  · exact ⟨asc_of (by decide +kernel), by decide⟩
  · exact ⟨asc_of (by decide +kernel), by decide⟩
  · exact ⟨asc_of (by decide +kernel), by decide⟩
abbrev sLCh : Stmt := top 66
abbrev nLCh : List Str := ["_law_stream", "_law_w", "_law_free", "_law_changes_here", "_law_name_here", "_law_way"]
theorem scLCh : FnScope nLCh ["_law_stream", "_law_w", "_law_free"] (defScope sLCh) := ⟨rfl, rfl, rfl, by decide +kernel, rfl, by decide +kernel, by decide +kernel⟩
inductive FLCh (ds : List D) (μ : Sto) (Q : QD) (E : XD) : Prop
  | mk (S : Dr) (a : Nat) (b : D) (W : Wl) (fr : Bool) (rest : Sto) (a1 : ds = [.cell 1, .cell (a + 2), .bl fr]) (a2 : rest[a]? = some (.dct (lwK W b))) (a3 : WlN W) (a4 : W.all.length ≤ 14) (a5 : S.ok) (a6 : S.t + 100 < 1000000) (a7 : okRest rest) (a8 : μ = S.sto rest) (a9 : ∀ (es : Es) (S' : Dr), OuW W es → es.length ≤ 14 → (fr = true → tkR W es = false) → S'.ok → S.t ≤ S'.t → S'.t ≤ S.t + 42 → Q (.dct (esK es)) (S'.sto rest)) : FLCh ds μ Q E
theorem FLCh.mono  : MonF (FLCh) := fun ds μ Q Q' E E' h he q => match q with | .mk S a b W fr rest a1 a2 a3 a4 a5 a6 a7 a8 a9 => .mk S a b W fr rest a1 a2 a3 a4 a5 a6 a7 a8 (by intros; apply h; apply a9 <;> assumption)
theorem FLCh.len  : ∀ ds μ Q E, FLCh ds μ Q E → ds.length = 3 := fun ds μ Q E q => by obtain ⟨_, _, _, _, _, _, e, _, _, _, _, _, _, _, _⟩ := q; rw [e]; rfl
theorem cal_lch (cD : Cal P w K mg base 1 "_law_draw" FDraw []) (cM : Cal P w K mg base 2 "_law_mixed" FMixed []) {f : Addr} {fd : FuncData} {qual : Str} (T : NoB mg) (Fu : Fun K "_law_changes" qual sLCh f fd) (hm : mg "_law_changes" = some (.ref f)) (hk : PySem.W.keepIn K (.ref f) = true) (hb : L2.Binds K fd ["_law_stream", "_law_w", "_law_free"] []) : Cal P w K mg base 3 "_law_changes" FLCh [] := by
  have nd := scLCh.nd
  refine cal_fun Fu scLCh hm hk hb ?_ ?_ (fun cdv A outer s H E hG hr =>
    have hu : (cxOf (L2.CX P w) P w K mg base nLCh qual (defScope sLCh) f cdv A outer s H E).A.units + 64 < cLine := by have := hr.un; show (A.deeper _).units + 64 < _; omega
    have hv : (cxOf (L2.CX P w) P w K mg base nLCh qual (defScope sLCh) f cdv A outer s H E).A.units + 1 < cLine := by omega
    have tk := takes_of (X := cxOf (L2.CX P w) P w K mg base nLCh qual (defScope sLCh) f cdv A outer s H E) (E := E) rfl rfl rfl rfl
    have pw := passes_of (X := cxOf (L2.CX P w) P w K mg base nLCh qual (defScope sLCh) f cdv A outer s H E) rfl
    (ds_cons (ds_set (i := 3) nd rfl (by first | exact .inl rfl | exact .inr rfl) de_dict0)
      (ds_cons (ds_for pw rfl (di_seq (de_call cM hG hr (by decide) (by rfl) tk (da_cons (de_var 0 rfl) (da_cons (de_dget hv (de_var 1 rfl) de_str (fun _ _ => rfl)) da_nil)))) (dg_name (i := 4) nd rfl (by first | exact .inl rfl | exact .inr rfl)) (ds_cons (ds_set (i := 5) nd rfl (by first | exact .inl rfl | exact .inr rfl) (de_call cD hG hr (by decide) (by rfl) tk (da_cons (de_var 0 rfl) (da_cons de_int da_nil))))
      (ds_one (ds_if (dt_cmp opd_lt (de_var 5 rfl) de_int) (ds_one (ds_dput hv (de_var 3 rfl) (de_var 4 rfl) (de_cmp opd_eqI (de_var 5 rfl) de_int))) ds_nil))))
      (ds_cons (ds_for pw rfl (di_seq (de_call cM hG hr (by decide) (by rfl) tk (da_cons (de_var 0 rfl) (da_cons (de_dget hv (de_var 1 rfl) de_str (fun _ _ => rfl)) da_nil)))) (dg_name (i := 4) nd rfl (by first | exact .inl rfl | exact .inr rfl)) (ds_cons (ds_set (i := 5) nd rfl (by first | exact .inl rfl | exact .inr rfl) (de_call cD hG hr (by decide) (by rfl) tk (da_cons (de_var 0 rfl) (da_cons de_int da_nil))))
      (ds_one (ds_if (dt_cmp opd_lt (de_var 5 rfl) de_int) (ds_one (ds_dput hv (de_var 3 rfl) (de_var 4 rfl) (de_ixL (de_lstD (da_cons de_str (da_cons de_str (da_cons de_str (da_cons de_str da_nil))))) (de_var 5 rfl)))) ds_nil))))
      (ds_cons (ds_for pw rfl (di_seq (de_dget hv (de_var 1 rfl) de_str (fun _ _ => rfl))) (dg_name (i := 4) nd rfl (by first | exact .inl rfl | exact .inr rfl)) (ds_cons (ds_set (i := 5) nd rfl (by first | exact .inl rfl | exact .inr rfl) (de_call cD hG hr (by decide) (by rfl) tk (da_cons (de_var 0 rfl) (da_cons de_int da_nil))))
      (ds_one (ds_if (DW.pt (dw_and (dt_cmp opd_eqI (de_var 5 rfl) de_int) (dw_and1 (dt_not (dt_val (de_var 2 rfl)))))) (ds_one (ds_dput hv (de_var 3 rfl) (de_var 4 rfl) de_str)) (ds_one (ds_if (dt_cmp opd_eqI (de_var 5 rfl) de_int) (ds_one (ds_dput hv (de_var 3 rfl) (de_var 4 rfl) de_str)) ds_nil))))))
      (ds_one (ds_ret (de_var 3 rfl)))))))) ?_
  · exact FLCh.mono
  · exact FLCh.len
  · rintro ds μ Q E ⟨S, a, b, W, fr, rest, rfl, ha, wn, hl, ok, tl, okr, rfl, z⟩
    have sz := sizeLine_eq
    have lr : W.fa.length + (W.pi.length + W.re.length) ≤ 14 := by have := hl; unfold Wl.all at this; rw [List.length_append, List.length_append] at this; exact this
    let rs : Es → Sto := fun es => rest ++ [.dct (esK es)]
    have okd : ∀ es, OuW W es → okRest (rs es) := fun es h => okr.add (esK_bd h.g.es)
    have gD : ∀ (S : Dr) (es : Es), asD (S.sto (rs es)) (.cell (a + 2)) = some (lwK W b) := fun S es => by
      have : (S.sto (rs es))[a + 2]? = some (.dct (lwK W b)) := ga_app ha
      simp only [asD, this]
    have gE : ∀ (S : Dr) (es : Es), (S.sto (rs es))[rest.length + 2]? = some (.dct (esK es)) := fun S es => get_a rfl
    have sE : ∀ (S : Dr) (es : Es) (s : Str) (v : D), (S.sto (rs es)).set (rest.length + 2) (.dct (putKD (esK es) (.inr s) v)) = S.sto (rs (putE es s v)) := fun S es s v => by rw [put_es]; exact set_a rfl
    let R : Option D → Option D → Rho := fun v4 v5 => [some (.cell 1), some (.cell (a + 2)), some (.bl fr), some (.cell (rest.length + 2)), v4, v5]
    refine .inr ?_
    refine ⟨_, rfl, _, rfl, lwK W b, _, _, gD S [], rfl, lwK_fa W b, S, W.fa.map .str, rs [], rfl, by rw [List.length_map]; omega, bdL_strs _, ok, by rw [List.length_map]; omega, okd [] (OuW.nil W), rfl, fun ys S1 pm ok1 t1 => ?_⟩
    rw [List.length_map] at t1
    have hy : ∀ y ∈ ys, ∃ s, y = .str s ∧ s ∈ W.fa := fun y h => by obtain ⟨s, hs, rfl⟩ := List.mem_map.mp (pm.mem_iff.mp h); exact ⟨s, rfl, hs⟩
    have ly : ys.length = W.fa.length := by rw [pm.length_eq, List.length_map]
    refine ⟨ys, rfl, fun i ρ' μ' => ∃ (v4 v5 : Option D) (S' : Dr) (es : Es), ρ' = R v4 v5 ∧ OuW W es ∧ es.length ≤ i ∧ NTk W es ∧ S'.ok ∧ S1.t ≤ S'.t ∧ S'.t ≤ S1.t + i ∧ μ' = S'.sto (rs es), ⟨_, _, S1, [], rfl, OuW.nil W, Nat.le_refl _, fun p h => absurd h (by simp), ok1, Int.le_refl _, by omega, rfl⟩, fun _ _ _ _ => rfl, ?_, ?_⟩
    · rintro i x ρ' μ' hx ⟨v4, v5, S2, es, rfl, ow, el, nt, ok2, t2, t2', rfl⟩
      have hi : i < 14 := by have := (List.getElem?_eq_some_iff.mp hx).1; omega
      obtain ⟨s, rfl, hs⟩ := hy x (List.mem_of_getElem? hx)
      obtain ⟨w1, w2, w3⟩ := wn.fa hs
      refine ⟨_, rfl, S2, 4, _, rfl, by decide, by decide, ok2, by omega, rfl, fun r S3 r0 r1 ok3 t3 => ?_⟩
      refine ⟨_, rfl, _, rfl, ite_b (fun h => ?_) (fun h => ?_)⟩
      · refine ⟨_, rfl, _, _, rfl, rfl, _, rfl, _, rfl, rest.length + 2, esK es, .inr s, rfl, gE S3 es, rfl, by rw [List.length_map]; omega, ?_⟩
        dsimp only
        rw [sE]
        exact ⟨_, _, S3, _, rfl, ow.put w1 (v := .bl _) trivial rfl w2 (w3 _), Nat.le_trans putE_len (by omega), nt.put (fun _ => nofun), ok3, by omega, by omega, rfl⟩
      · exact ⟨_, _, S3, es, rfl, ow, by omega, nt, ok3, by omega, by omega, rfl⟩
    rintro ρ' μ' ⟨v4, v5, S2, es1, rfl, ow1, el1, nt1, ok2, t2, t2', rfl⟩
    rw [ly] at el1 t2'
    refine ⟨_, rfl, _, rfl, lwK W b, _, _, gD S2 es1, rfl, lwK_pi W b, S2, W.pi.map .str, rs es1, rfl, by rw [List.length_map]; omega, bdL_strs _, ok2, by rw [List.length_map]; omega, okd es1 ow1, rfl, fun zs S3 pm2 ok3 t3 => ?_⟩
    rw [List.length_map] at t3
    have hz : ∀ y ∈ zs, ∃ s, y = .str s ∧ s ∈ W.pi := fun y h => by obtain ⟨s, hs, rfl⟩ := List.mem_map.mp (pm2.mem_iff.mp h); exact ⟨s, rfl, hs⟩
    have lz : zs.length = W.pi.length := by rw [pm2.length_eq, List.length_map]
    refine ⟨zs, rfl, fun i ρ' μ' => ∃ (v4 v5 : Option D) (S' : Dr) (es : Es), ρ' = R v4 v5 ∧ OuW W es ∧ es.length ≤ W.fa.length + i ∧ NTk W es ∧ S'.ok ∧ S3.t ≤ S'.t ∧ S'.t ≤ S3.t + i ∧ μ' = S'.sto (rs es), ⟨_, _, S3, es1, rfl, ow1, el1, nt1, ok3, Int.le_refl _, by omega, rfl⟩, fun _ _ _ _ => rfl, ?_, ?_⟩
    · rintro i x ρ' μ' hx ⟨v4, v5, S2, es, rfl, ow, el, nt, ok2, t2, t2', rfl⟩
      have hi : i < W.pi.length := by have := (List.getElem?_eq_some_iff.mp hx).1; omega
      obtain ⟨s, rfl, hs⟩ := hz x (List.mem_of_getElem? hx)
      obtain ⟨w1, w2, w3, w4⟩ := wn.pi hs
      refine ⟨_, rfl, S2, 7, _, rfl, by decide, by decide, ok2, by omega, rfl, fun r S3 r0 r1 ok3 t3 => ?_⟩
      refine ⟨_, rfl, _, rfl, ite_b (fun h => ?_) (fun h => ?_)⟩
      · obtain ⟨c, hc, e⟩ := at_strs (ss := ["take", "take", "add", "empty"]) r0 (by show r < 4; omega)
        have hc' : c ∈ Chs := by
          simp only [List.mem_cons, List.not_mem_nil, or_false] at hc ⊢
          rcases hc with rfl | rfl | rfl | rfl
          · exact .inr (.inl rfl)
          · exact .inr (.inl rfl)
          · exact .inl rfl
          · exact .inr (.inr rfl)
        obtain ⟨c1, c2, c3⟩ := chs_str hc'
        refine ⟨by show 4 ≤ sizeLine; omega, _, rfl, _, _, _, rfl, rfl, e, _, rfl, _, rfl, rest.length + 2, esK es, .inr s, rfl, gE S3 es, rfl, by rw [List.length_map]; omega, ?_⟩
        dsimp only
        rw [sE]
        exact ⟨_, _, S3, _, rfl, ow.put w1 c1 c2 w2 (by rw [w4]; exact c3), Nat.le_trans putE_len (by omega), nt.put (fun hr => absurd hr w3), ok3, by omega, by omega, rfl⟩
      · exact ⟨_, _, S3, es, rfl, ow, by omega, nt, ok3, by omega, by omega, rfl⟩
    rintro ρ' μ' ⟨v4, v5, S4, es2, rfl, ow2, el2, nt2, ok4, t4, t4', rfl⟩
    rw [lz] at el2 t4'
    refine ⟨_, rfl, lwK W b, _, _, gD S4 es2, rfl, lwK_re W b, W.re.map .str, rfl, fun i ρ' μ' => ∃ (v4 v5 : Option D) (S' : Dr) (es : Es), ρ' = R v4 v5 ∧ OuW W es ∧ es.length ≤ W.fa.length + W.pi.length + i ∧ (fr = true → NTk W es) ∧ S'.ok ∧ S4.t ≤ S'.t ∧ S'.t ≤ S4.t + i ∧ μ' = S'.sto (rs es), ⟨_, _, S4, es2, rfl, ow2, el2, fun _ => nt2, ok4, Int.le_refl _, by omega, rfl⟩, fun _ _ _ _ => rfl, ?_, ?_⟩
    · rintro i x ρ' μ' hx ⟨v4, v5, S2, es, rfl, ow, el, nt, ok2, t2, t2', rfl⟩
      have hi : i < W.re.length := by have := (List.getElem?_eq_some_iff.mp hx).1; rw [List.length_map] at this; exact this
      obtain ⟨s, hs, rfl⟩ := List.mem_map.mp (List.mem_of_getElem? hx)
      obtain ⟨w1, w2, w4⟩ := wn.re hs
      obtain ⟨c1, c2, c3⟩ := chs_str (s := ("take" : Str)) (by decide +kernel)
      obtain ⟨d1, d2, d3⟩ := chs_str (s := ("add" : Str)) (by decide +kernel)
      refine ⟨_, rfl, S2, 4, _, rfl, by decide, by decide, ok2, by omega, rfl, fun r S3 r0 r1 ok3 t3 => ?_⟩
      have other : ∃ (v4 v5 : Option D) (S' : Dr) (es' : Es), R (some (.str s)) (some (.int r)) = R v4 v5 ∧ OuW W es' ∧ es'.length ≤ W.fa.length + W.pi.length + (i + 1) ∧ (fr = true → NTk W es') ∧ S'.ok ∧ S4.t ≤ S'.t ∧ S'.t ≤ S4.t + (i + 1 : Nat) ∧ S3.sto (rs es) = S'.sto (rs es') := ⟨_, _, S3, es, rfl, ow, by omega, nt, ok3, by omega, by omega, rfl⟩
      refine ⟨_, rfl, _, _, rfl, rfl, _, rfl, ite_b (fun h => ⟨_, rfl, _, rfl, ?_⟩) (fun h => iff_ rfl ?_)⟩
      · cases fr with
        | false =>
          refine ift_ rfl ⟨_, rfl, _, rfl, rest.length + 2, esK es, .inr s, rfl, gE S3 es, rfl, by rw [List.length_map]; omega, ?_⟩
          dsimp only
          rw [sE]
          exact ⟨_, _, S3, _, rfl, ow.put w1 c1 c2 w2 (by rw [w4, inDD_strs]; decide +kernel), Nat.le_trans putE_len (by omega), (fun h => nomatch h), ok3, by omega, by omega, rfl⟩
        | true =>
          refine iff_ rfl ?_
          exact ⟨_, rfl, _, _, rfl, rfl, _, rfl, ite_b (fun h2 => absurd (h.symm.trans h2) (by decide)) (fun _ => other)⟩
      · refine ⟨_, rfl, _, _, rfl, rfl, _, rfl, ite_b (fun h2 => ?_) (fun _ => other)⟩
        refine ⟨_, rfl, _, rfl, rest.length + 2, esK es, .inr s, rfl, gE S3 es, rfl, by rw [List.length_map]; omega, ?_⟩
        dsimp only
        rw [sE]
        exact ⟨_, _, S3, _, rfl, ow.put w1 d1 d2 w2 (by rw [w4, inDD_strs]; decide +kernel), Nat.le_trans putE_len (by omega), fun hf => (nt hf).put (fun _ e => by cases e), ok3, by omega, by omega, rfl⟩
    rintro ρ' μ' ⟨v4, v5, S5, es, rfl, ow, el, nt, ok5, t5, t5', rfl⟩
    rw [List.length_map] at el t5'
    refine ⟨_, rfl, _, _, .dct (μ := S5.sto rest) (by rw [sto_len, sto_len]; exact Nat.le_refl _) (esK_bd ow.g.es) okr.sto .refl, z es S5 ow (by omega) (fun hf => (nt hf).tk fun p hp => (ow.g.ok p hp).2.2.1) ok5 (by omega) (by omega)⟩

/-- an action as the law draws it -/
abbrev laD (s : Str) (t : Tr) (os : List Es) : D := .lst [.str s, t.d, .lst (os.map fun es => .dct (esK es))]
structure LaOk (W : Wl) (t : Tr) (os : List Es) : Prop where
  ok : t.ok
  dep : t.dep ≤ 2
  sub : ∀ n ∈ t.nms, n ∈ W.seen
  fits : ∀ es ∈ os, OuW W es ∧ es.length ≤ 14
  pos : 0 < os.length
  free : ∃ es ∈ os, tkR W es = false
theorem esK_bdL {W : Wl} {os : List Es} {n : Nat} (h : ∀ es ∈ os, OuW W es ∧ es.length ≤ 14) : bdL n (os.map fun es => D.dct (esK es)) = true := bdL_all.mpr fun d hd => by
  obtain ⟨es, he, rfl⟩ := List.mem_map.mp hd
  exact esK_bd (h es he).1.g.es
abbrev sLAc : Stmt := top 67
abbrev nLAc : List Str := ["_law_stream", "_law_w", "_law_name_here", "_law_most", "_law_many", "_law_free", "_law_need", "_law_k"]
theorem scLAc : FnScope nLAc ["_law_stream", "_law_w", "_law_name_here", "_law_most"] (defScope sLAc) := ⟨rfl, rfl, rfl, by decide +kernel, rfl, by decide +kernel, by decide +kernel⟩
inductive FLAc (ds : List D) (μ : Sto) (Q : QD) (E : XD) : Prop
  | mk (S : Dr) (a : Nat) (b : D) (W : Wl) (s : Str) (m : Nat) (rest : Sto) (a1 : ds = [.cell 1, .cell (a + 2), .str s, .int m]) (a2 : rest[a]? = some (.dct (lwK W b))) (a3 : WlN W) (a4 : W.all.length ≤ 14) (a5 : 0 < m) (a6 : m ≤ 5) (a7 : S.ok) (a8 : S.t + 500 < 1000000) (a9 : okRest rest) (a10 : μ = S.sto rest) (a11 : ∀ (t : Tr) (os : List Es) (S' : Dr), LaOk W t os → os.length ≤ m → S'.ok → S.t ≤ S'.t → S'.t ≤ S.t + 250 → Q (laD s t os) (S'.sto rest)) : FLAc ds μ Q E
theorem FLAc.mono  : MonF (FLAc) := fun ds μ Q Q' E E' h he q => match q with | .mk S a b W s m rest a1 a2 a3 a4 a5 a6 a7 a8 a9 a10 a11 => .mk S a b W s m rest a1 a2 a3 a4 a5 a6 a7 a8 a9 a10 (by intros; apply h; apply a11 <;> assumption)
theorem FLAc.len  : ∀ ds μ Q E, FLAc ds μ Q E → ds.length = 4 := fun ds μ Q E q => by obtain ⟨_, _, _, _, _, _, _, e, _, _, _, _, _, _, _, _, _, _⟩ := q; rw [e]; rfl
theorem cal_lac (cD : Cal P w K mg base 1 "_law_draw" FDraw []) (cLSe : Cal P w K mg base 1 "_law_seen" FLSe []) (cC5 : Cal P w K mg base 7 "_law_condition" (FCnd 5) []) (cLCh : Cal P w K mg base 3 "_law_changes" FLCh []) {f : Addr} {fd : FuncData} {qual : Str} (T : NoB mg) (Fu : Fun K "_law_action" qual sLAc f fd) (hm : mg "_law_action" = some (.ref f)) (hk : PySem.W.keepIn K (.ref f) = true) (hb : L2.Binds K fd ["_law_stream", "_law_w", "_law_name_here", "_law_most"] []) : Cal P w K mg base 8 "_law_action" FLAc [] := by
  have nd := scLAc.nd
  refine cal_fun Fu scLAc hm hk hb ?_ ?_ (fun cdv A outer s H E hG hr =>
    have hu : (cxOf (L2.CX P w) P w K mg base nLAc qual (defScope sLAc) f cdv A outer s H E).A.units + 64 < cLine := by have := hr.un; show (A.deeper _).units + 64 < _; omega
    have hv : (cxOf (L2.CX P w) P w K mg base nLAc qual (defScope sLAc) f cdv A outer s H E).A.units + 1 < cLine := by omega
    have tk := takes_of (X := cxOf (L2.CX P w) P w K mg base nLAc qual (defScope sLAc) f cdv A outer s H E) (E := E) rfl rfl rfl rfl
    have pw := passes_of (X := cxOf (L2.CX P w) P w K mg base nLAc qual (defScope sLAc) f cdv A outer s H E) rfl
    (ds_cons (ds_set (i := 4) nd rfl (by first | exact .inl rfl | exact .inr rfl) (de_op opd_addI de_int (de_call cD hG hr (by decide) (by rfl) tk (da_cons (de_var 0 rfl) (da_cons (de_var 3 rfl) da_nil)))))
      (ds_cons (ds_set (i := 5) nd rfl (by first | exact .inl rfl | exact .inr rfl) (de_call cD hG hr (by decide) (by rfl) tk (da_cons (de_var 0 rfl) (da_cons (de_var 4 rfl) da_nil))))
      (ds_cons (ds_set (i := 6) nd rfl (by first | exact .inl rfl | exact .inr rfl) (de_call cC5 hG hr (by decide) (by rfl) tk (da_cons (de_var 0 rfl) (da_cons (de_call cLSe hG hr (by decide) (by rfl) tk (da_cons (de_var 1 rfl) da_nil)) (da_cons de_int da_nil)))))
      (ds_one (ds_ret (de_lstD (da_cons (de_var 2 rfl) (da_cons (de_var 6 rfl) (da_cons (de_lc (own := [("_law_k", 7)]) rfl nd (di_rng1 (by rfl) T.range (da_cons (de_var 4 rfl) da_nil)) (blkOk_by (N := nLAc) (sc := defScope sLAc) (by decide +kernel)) (fun _ _ _ _ _ => (dgw_name (i := 7) nd rfl (Or.inl rfl) (by decide))) (fun _ _ _ _ _ => dts_nil) (fun _ _ _ _ _ => (de_call cLCh hG hr (by decide) (by rfl) takesNW (da_cons (de_var 0 rfl) (da_cons (de_var 1 rfl) (da_cons (de_cmp opd_eqI (de_var 7 rfl) (de_var 5 rfl)) da_nil)))))) da_nil)))))))))) ?_
  · exact FLAc.mono
  · exact FLAc.len
  · rintro ds μ Q E ⟨S, a, b, W, s, m, rest, rfl, ha, wn, hl, m0, m1, ok, tl, okr, rfl, z⟩
    have sz := sizeLine_eq
    have lr : W.fa.length + (W.pi.length + W.re.length) ≤ 14 := by have := hl; unfold Wl.all at this; rw [List.length_append, List.length_append] at this; exact this
    refine ⟨_, rfl, _, rfl, S, m, rest, rfl, by omega, by omega, ok, by omega, rfl, fun r S1 r0 r1 ok1 t1 => ?_⟩
    obtain ⟨k, rfl⟩ : ∃ k : Nat, r = k := ⟨r.toNat, by omega⟩
    refine ⟨_, _, rfl, rfl, ?_⟩
    refine ⟨_, rfl, _, rfl, S1, _, rest, rfl, by omega, by omega, ok1, by omega, rfl, fun fr S2 f0 f1 ok2 t2 => ?_⟩
    refine ⟨_, rfl, _, rfl, a + 2, b, W, rfl, ha, by omega, ?_⟩
    have ws : ∀ s ∈ W.seen, NameOk s := fun s hs => wn.ok s (by
      unfold Wl.seen at hs
      unfold Wl.all
      rcases List.mem_append.mp hs with h | h
      · exact List.mem_append_left _ h
      · exact List.mem_append_right _ (List.mem_append_left _ h))
    refine ⟨S2, W.seen, 1, rest, rfl, by decide, by unfold Wl.seen; rw [List.length_append]; omega, ws, ok2, by show S2.t + 128 < _; omega, okr, rfl, fun t S3 ht td tn ok3 t3 t3' => ?_⟩
    have t3' : S3.t ≤ S2.t + 9 := t3'
    let dk : Es → D := fun es => .dct (esK es)
    have xl : ((List.range (Int.toNat (1 + (k : Int)))).map fun (i : Nat) => D.int (0 + (i : Int))).length = 1 + k := by simp; omega
    refine ⟨_, rfl, _, rfl, _, rfl, _, rfl, by omega, by omega, lc_draw 42 (fun i acc => ∃ os : List Es, acc = os.map dk ∧ os.length = i ∧ (∀ es ∈ os, OuW W es ∧ es.length ≤ 14) ∧ (fr.toNat < i → ∃ es ∈ os, tkR W es = false)) ok3 okr (fun _ _ => trivial) ⟨[], rfl, rfl, fun es h => absurd h (by simp), fun h => absurd h (by omega)⟩ ?_ (fun i acc ⟨os, e, l, _⟩ => by rw [e, List.length_map, l]; exact Nat.le_refl _) (by rw [xl]; omega) (fun acc ⟨os, e, l, g, _⟩ => by rw [e]; exact esK_bdL g) ?_⟩
    · rintro i x acc S' hx hi ok' u1 u2 ⟨os, rfl, l, g, fre⟩ NX N0 hN hN0
      rw [xl] at hi
      rw [List.getElem?_map] at hx
      obtain ⟨j, hj, rfl⟩ := Option.map_eq_some_iff.mp hx
      have ej : j = i := by
        have := List.getElem?_eq_some_iff.mp hj
        obtain ⟨h1, h2⟩ := this
        simpa using h2.symm
      subst ej
      have ok2r : okRest (rest ++ [.lst (os.map dk)]) := okr.add (esK_bdL g)
      refine ⟨_, rfl, _, rfl, _, rfl, _, rfl, _, _, rfl, rfl, S', a, b, W, _, rest ++ [.lst (os.map dk)], rfl, ga_app ha, wn, hl, ok', by omega, ok2r, rfl, fun es S5 ow el nf ok5 t5 t5' => hN _ S5 ok5 t5 t5' ⟨os ++ [es], by rw [List.map_append]; rfl, by rw [List.length_append, l]; rfl, fun e he => ?_, fun hlt => ?_⟩⟩
      · rcases List.mem_append.mp he with h | h
        · exact g e h
        · rw [List.mem_singleton.mp h]; exact ⟨ow, el⟩
      · by_cases hjf : (j : Int) = fr
        · exact ⟨es, List.mem_append_right _ (List.mem_singleton.mpr rfl), nf (decide_eq_true (by omega))⟩
        · obtain ⟨e, he, h⟩ := fre (by omega)
          exact ⟨e, List.mem_append_left _ he, h⟩
    · rintro acc S' ⟨os, rfl, l, g, fre⟩ ok' u1 u2
      rw [xl] at l u2 fre
      exact ⟨by show 3 ≤ sizeLine; omega, _, _, .refl, z t os S' ⟨ht, td, tn, g, by omega, fre (by omega)⟩ (by omega) ok' (by omega) (by omega)⟩

theorem fdup_nd : ∀ {l seen : List Str}, l.Nodup → (∀ s ∈ l, s ∉ seen) → fdup seen l = none
  | [], _, _, _ => rfl
  | s :: l, seen, nd, h => by
    unfold fdup
    rw [if_neg (h s (List.mem_cons_self ..))]
    refine fdup_nd (List.nodup_cons.mp nd).2 fun t ht hm => ?_
    rcases List.mem_append.mp hm with hm | hm
    · exact h t (List.mem_cons_of_mem _ ht) hm
    · rw [List.mem_singleton.mp hm] at ht; exact (List.nodup_cons.mp nd).1 ht
/-- the law's world, whole: its lists, its actions by name -/
abbrev La := Str × Tr × List Es
abbrev laL (as : List La) : List D := as.map fun q => laD q.1 q.2.1 q.2.2
abbrev acK (C_Outcome C_Action C_Condition : Addr) (as : List La) : List (Key × D) := as.map fun q => (.inr q.1, acD C_Outcome C_Action (cD C_Condition q.2.1.words) q.2.2)
structure LwOk (W : Wl) (as : List La) : Prop where
  wn : WlN W
  len : W.all.length ≤ 14
  ok : ∀ q ∈ as, nameB q.1 = true ∧ Asc q.1 ∧ q.1.length ≤ 100 ∧ LaOk W q.2.1 q.2.2 ∧ q.2.2.length ≤ 5
  nd : (as.map (·.1)).Nodup
theorem LwOk.acw {W : Wl} {as : List La} (h : LwOk W as) {q : La} (hq : q ∈ as) : AcW W q.1 q.2.1 q.2.2 := by
  obtain ⟨h1, h2, h3, h4, h5⟩ := h.ok q hq
  exact ⟨h1, h2, h3, h4.ok, Nat.lt_of_le_of_lt (Tr.small h4.ok (by have := h4.dep; omega)).2 (by decide), h4.sub, fun es he => ⟨(h4.fits es he).1, by have := (h4.fits es he).2; omega⟩, h4.pos, by omega, h4.free⟩
theorem winiC {μ : Sto} {a b c : D} {W : Wl} {Q : QD} {E : XD} (ha : asS (μ ++ [.ins C_World []]) a = some (W.fa.map .str)) (hb : asS (μ ++ [.ins C_World []]) b = some (W.pi.map .str)) (hc : asS (μ ++ [.ins C_World []]) c = some (W.re.map .str))
    (hs : ∀ s ∈ W.all, Asc s ∧ s.length ≤ 100) (hl : W.all.length ≤ 100) (hb' : bdS μ.length μ = true) (g1 : fbad W.all = none) (g2 : fdup [] W.all = none)
    (z : Q .non (μ ++ [.ins C_World (wlF W (μ.length + 1)), .dct []])) : FWIni C_BadName C_NameInUse C_World [.cell μ.length, a, b, c] (μ ++ [.ins C_World []]) Q E := by
  refine .mk μ.length a b c W rfl ap_get ha hb hc hs hl ?_ (fun _ _ => ?_) (fun s h => by rw [g1] at h; cases h) (fun s _ h => by rw [g2] at h; cases h)
  · rw [bdS_app, bdS_mono (by simp) hb']; rfl
  · rw [ap_set, List.length_append, List.append_assoc]; exact z
def pDk (C_Outcome : Addr) : D → Option D := fun x => match x with
  | .dct kd => some (ouD C_Outcome (unK kd))
  | _ => none
theorem pDk_os {C : Addr} : ∀ os : List Es, (os.map fun es => D.dct (esK es)).filterMap (pDk C) = osD C os
  | [] => rfl
  | es :: os => by
    have e : pDk C (.dct (esK es)) = some (ouD C es) := by show some (ouD C (unK (esK es))) = _; rw [unK_es]
    rw [List.map_cons, List.filterMap_cons, e, pDk_os os]; rfl
theorem putKD_fresh {kd : List (Key × D)} {k : Key} {d : D} (h : ∀ q ∈ kd, q.1 ≠ k) : putKD kd k d = kd ++ [(k, d)] := by
  unfold putKD
  rw [if_neg]
  intro e
  obtain ⟨q, hq, e2⟩ := List.any_eq_true.mp e
  exact h q hq (of_decide_eq_true e2)
theorem acK_bd {C1 C2 C3 : Addr} {n : Nat} {as : List La} {W : Wl} (h : LwOk W as) {bs : List La} (hs : ∀ q ∈ bs, q ∈ as) : bdK n (acK C1 C2 C3 bs) = true := by
  induction bs with
  | nil => rfl
  | cons q bs ih =>
    show ((acD C1 C2 (cD C3 q.2.1.words) q.2.2).bd n && bdK n (acK C1 C2 C3 bs)) = true
    rw [acD_bd cD_bd (fun es he => ((h.acw (hs q (List.mem_cons_self ..))).fits es he).1.g), ih fun x hx => hs x (List.mem_cons_of_mem _ hx)]; rfl
theorem set2 {μ : Sto} {c d e : CT} : (μ ++ [c, d]).set (μ.length + 1) e = μ ++ [c, e] := by
  rw [List.set_append_right _ _ (by omega), Nat.add_sub_cancel_left]; rfl
theorem get2a {μ : Sto} {c d : CT} : (μ ++ [c, d])[μ.length]? = some c := by simp
theorem get2b {μ : Sto} {c d : CT} : (μ ++ [c, d])[μ.length + 1]? = some d := by rw [List.getElem?_append_right (by omega), Nat.add_sub_cancel_left]; rfl
abbrev sLMa : Stmt := top 69
abbrev nLMa : List Str := ["_law_w", "_law_world", "_law_name_here", "_law_need", "_law_outcomes", "_law_changes_here"]
theorem scLMa : FnScope nLMa ["_law_w"] (defScope sLMa) := ⟨rfl, rfl, rfl, by decide +kernel, rfl, by decide +kernel, by decide +kernel⟩
inductive FLMa (C_World C_Outcome C_Action C_Condition : Addr) (ds : List D) (μ : Sto) (Q : QD) (E : XD) : Prop
  | mk (a : Nat) (b : Nat) (W : Wl) (as : List La) (a1 : ds = [.cell a]) (a2 : μ[a]? = some (.dct (lwK W (.cell b)))) (a3 : μ[b]? = some (.lst (laL as))) (a4 : LwOk W as) (a5 : as.length ≤ 100) (a6 : bdS μ.length μ = true) (a7 : Q (.cell μ.length) (μ ++ [.ins C_World (wlF W (μ.length + 1)), .dct (acK C_Outcome C_Action C_Condition as)])) : FLMa C_World C_Outcome C_Action C_Condition ds μ Q E
theorem FLMa.mono {C_World C_Outcome C_Action C_Condition : Addr} : MonF (FLMa C_World C_Outcome C_Action C_Condition) := fun ds μ Q Q' E E' h he q => match q with | .mk a b W as a1 a2 a3 a4 a5 a6 a7 => .mk a b W as a1 a2 a3 a4 a5 a6 (h _ _ a7)
theorem FLMa.len {C_World C_Outcome C_Action C_Condition : Addr} : ∀ ds μ Q E, FLMa C_World C_Outcome C_Action C_Condition ds μ Q E → ds.length = 1 := fun ds μ Q E q => by obtain ⟨_, _, _, _, e, _, _, _, _, _, _⟩ := q; rw [e]; rfl
theorem cal_lma (hnq : PySem.W.noSeq K C_World = true) (cWo : Mak P w K mg base 5 "World" C_World (FWIni C_BadName C_NameInUse C_World) []) (cAc : Mak P w K mg base 8 "Action" C_Action (FAIni C_Outcome C_Action) []) (couD : Mak P w K mg base 5 "Outcome" C_Outcome (FOIniD C_Outcome) []) (cB : Cal P w K mg base 12 "_law_built" (FBlt C_Condition 8) []) (cWSi : Met P w K mg base 11 C_World "__setitem__" (FWSi C_World C_Outcome C_Action C_Condition) []) {f : Addr} {fd : FuncData} {qual : Str} (T : NoB mg) (Fu : Fun K "_law_made" qual sLMa f fd) (hm : mg "_law_made" = some (.ref f)) (hk : PySem.W.keepIn K (.ref f) = true) (hb : L2.Binds K fd ["_law_w"] []) : Cal P w K mg base 13 "_law_made" (FLMa C_World C_Outcome C_Action C_Condition) [] := by
  have nd := scLMa.nd
  refine cal_fun Fu scLMa hm hk hb ?_ ?_ (fun cdv A outer s H E hG hr =>
    have hu : (cxOf (L2.CX P w) P w K mg base nLMa qual (defScope sLMa) f cdv A outer s H E).A.units + 64 < cLine := by have := hr.un; show (A.deeper _).units + 64 < _; omega
    have hv : (cxOf (L2.CX P w) P w K mg base nLMa qual (defScope sLMa) f cdv A outer s H E).A.units + 1 < cLine := by omega
    have tk := takes_of (X := cxOf (L2.CX P w) P w K mg base nLMa qual (defScope sLMa) f cdv A outer s H E) (E := E) rfl rfl rfl rfl
    have pw := passes_of (X := cxOf (L2.CX P w) P w K mg base nLMa qual (defScope sLMa) f cdv A outer s H E) rfl
    (ds_cons (ds_set (i := 1) nd rfl (by first | exact .inl rfl | exact .inr rfl) (de_make cWo hG hr (by decide) (by rfl) tk (da_cons (de_dget hv (de_var 0 rfl) de_str (fun _ _ => rfl)) (da_cons (de_callTy cad_tuple (by rfl) T.tuple (by decide +kernel) (da_cons (de_dget hv (de_var 0 rfl) de_str (fun _ _ => rfl)) da_nil)) (da_cons (de_dget hv (de_var 0 rfl) de_str (fun _ _ => rfl)) da_nil)))))
      (ds_cons (ds_for pw rfl (di_seq (de_dget hv (de_var 0 rfl) de_str (fun _ _ => rfl))) (dg_tupL (n := 3) rfl (dgs_cons (dg_name (i := 2) nd rfl (by first | exact .inl rfl | exact .inr rfl)) (dgs_cons (dg_name (i := 3) nd rfl (by first | exact .inl rfl | exact .inr rfl)) (dgs_cons (dg_name (i := 4) nd rfl (by first | exact .inl rfl | exact .inr rfl)) dgs_nil)))) (ds_one (ds_setO cWSi hnq hG hr (by decide) tk (de_var 1 rfl) (de_var 2 rfl) (de_make cAc hG hr (by decide) (by rfl) tk (da_cons (de_call cB hG hr (by decide) (by rfl) tk (da_cons (de_var 3 rfl) da_nil)) (da_cons (de_lc (own := [("_law_changes_here", 5)]) rfl nd (di_seq (de_var 4 rfl)) (blkOk_by (N := nLMa) (sc := defScope sLMa) (by decide +kernel)) (fun _ _ _ _ _ => (dgw_name (i := 5) nd rfl (Or.inl rfl) (by decide))) (fun _ _ _ _ _ => dts_nil) (fun _ _ _ _ _ => (de_make couD hG hr (by decide) (by rfl) takesNW (da_cons (de_callTy cad_dictD (by rfl) T.dict (by decide +kernel) (da_cons (de_var 5 rfl) da_nil)) da_nil)))) da_nil))))))
      (ds_one (ds_ret (de_var 1 rfl)))))) ?_
  · exact FLMa.mono
  · exact FLMa.len
  · rintro ds μ Q E ⟨a, b, W, as, rfl, ha, hb2, lw, la, hb', z⟩
    have sz := sizeLine_eq
    have hd : asD μ (.cell a) = some (lwK W (.cell b)) := by simp only [asD, ha]
    have lr : W.fa.length + (W.pi.length + W.re.length) ≤ 14 := by have := lw.len; unfold Wl.all at this; rw [List.length_append, List.length_append] at this; exact this
    have wb : fbad W.all = none := List.find?_eq_none.mpr fun s hs => by rw [NameOk.nameB (lw.wn.ok s hs)]; simp
    have wd : fdup [] W.all = none := fdup_nd lw.wn.nd (fun s _ h => by cases h)
    have wa : ∀ s ∈ W.all, Asc s ∧ s.length ≤ 100 := fun s hs => ⟨asc_name (lw.wn.ok s hs), Nat.le_trans (lw.wn.ok s hs).len (by decide)⟩
    refine ⟨_, rfl, lwK W (.cell b), _, _, hd, rfl, lwK_fa W _, _, rfl, lwK W (.cell b), _, _, hd, rfl, lwK_pi W _, ?_⟩
    refine ⟨_, _, rfl, rfl, _, rfl, lwK W (.cell b), _, _, hd, rfl, lwK_re W _, ?_⟩
    refine winiC rfl rfl rfl wa (by have := lw.len; omega) hb' wb wd ⟨rfl, _, _, .refl, ?_⟩
    have hd2 : ∀ x : Sto, asD (μ ++ x) (.cell a) = some (lwK W (.cell b)) := fun x => by simp only [asD, ga_app ha]
    let M : Nat → Sto := fun i => μ ++ [.ins C_World (wlF W (μ.length + 1)), .dct (acK C_Outcome C_Action C_Condition (as.take i))]
    have bM : ∀ i, bdS (M i).length (M i) = true := fun i => by
      rw [bdS_app, bdS_mono (by rw [List.length_append]; omega) hb', Bool.true_and]
      show (bdF _ (wlF W (μ.length + 1)) && (bdK _ (acK C_Outcome C_Action C_Condition (as.take i)) && true)) = true
      rw [acK_bd lw (fun q hq => List.mem_of_mem_take hq)]
      show ((bdL _ (W.fa.map D.str) && (bdL _ (W.pi.map D.str) && (bdL _ (W.re.map D.str) && (decide (μ.length + 1 < _) && true)))) && true) = true
      rw [bdL_strs, bdL_strs, bdL_strs, decide_eq_true (by rw [List.length_append]; show μ.length + 1 < μ.length + 2; omega)]; rfl
    refine ⟨_, rfl, lwK W (.cell b), _, _, hd2 _, rfl, lwK_ac W _, laL as, asS_of (ga_app hb2), fun i ρ' μ' => ∃ v2 v3 v4 v5 : Option D, ρ' = [some (.cell a), some (.cell μ.length), v2, v3, v4, v5] ∧ μ' = M i, ⟨_, _, _, _, rfl, rfl⟩, fun i ρ' μ' ⟨_, _, _, _, _, e⟩ => by rw [e]; exact asS_of (ga_app hb2), ?_, ?_⟩
    · rintro i x ρ' μ' hx ⟨v2, v3, v4, v5, rfl, rfl⟩
      rw [List.getElem?_map] at hx
      obtain ⟨⟨s, t, os⟩, hq, rfl⟩ := Option.map_eq_some_iff.mp hx
      have hq2 := hq
      have hm' := List.mem_of_getElem? hq
      obtain ⟨q1, q2, q3, q4, q5⟩ := lw.ok _ hm'
      have acw := lw.acw hm'
      refine ⟨[.str s, t.d, .lst (os.map fun es => .dct (esK es))], rfl, rfl, _, _, rfl, _, _, rfl, _, _, rfl, rfl, ?_⟩
      refine ⟨_, rfl, t, rfl, q4.ok, by have : t.dep ≤ 2 := q4.dep; omega, by have : t.dep ≤ 2 := q4.dep; omega, bM i, ?_⟩
      refine ⟨_, rfl, os.map (fun es => .dct (esK es)), rfl, lc_pureB (m := M i) (pDk C_Outcome) (fun _ => rfl) (fun x hx2 acc bm NX N0 n1 n2 => ?_) (by rw [List.length_map]; have : os.length ≤ 5 := q5; omega) (by rw [pDk_os]; exact osD_bd fun es he => (q4.fits es he).1.g) (bM i) ?_⟩
      · obtain ⟨es, he, rfl⟩ := List.mem_map.mp hx2
        have g := (q4.fits es he).1.g
        refine ⟨_, rfl, _, esK es, rfl, rfl, .inl ?_⟩
        refine ⟨_, es, rfl, ap_get, g, by rw [bdS_app, bdS_mono (by simp) bm]; rfl, ?_⟩
        rw [ap_set]
        exact ⟨rfl, _, _, .ins (Nat.le_refl _) (ouD_bd (C := C_Outcome) g) bm .refl, n1 _ (by show some (ouD C_Outcome (unK (esK es))) = _; rw [unK_es])⟩
      · rw [pDk_os]
        have gE : ∀ es ∈ os, EsG es := fun es he => (q4.fits es he).1.g
        refine ⟨(M i).length, cD C_Condition t.words, os, rfl, ap_get, cD_bd, gE, q4.pos, by have : os.length ≤ 5 := q5; omega, by rw [bdS_app, bdS_mono (by simp) (bM i)]; rfl, ?_⟩
        rw [ap_set]
        refine ⟨rfl, _, _, .ins (Nat.le_refl _) (acD_bd (A := C_Action) cD_bd gE) (bM i) .refl, ?_⟩
        have gW : (M i)[μ.length]? = some (.ins C_World (wlF W (μ.length + 1))) := get2a
        have gA : (M i)[μ.length + 1]? = some (.dct (acK C_Outcome C_Action C_Condition (as.take i))) := get2b
        refine ⟨_, rfl, _, rfl, wlF W (μ.length + 1), by simp only [asI, gW], μ.length, μ.length + 1, _, W, _, s, t, os, rfl, gW, gA, by have := lw.len; omega, rfl, acw, by rw [List.length_map, List.length_take]; omega, bM i, ?_⟩
        refine ⟨_, _, _, _, rfl, ?_⟩
        have fresh : ∀ q ∈ acK C_Outcome C_Action C_Condition (as.take i), q.1 ≠ .inr s := fun q hq e => by
          obtain ⟨y, hy, rfl⟩ := List.mem_map.mp hq
          have e' : y.1 = s := Sum.inr.inj e
          obtain ⟨j, hj⟩ := List.getElem?_of_mem hy
          have hj1 : j < i := by have := (List.getElem?_eq_some_iff.mp hj).1; rw [List.length_take] at this; omega
          rw [List.getElem?_take_of_lt hj1] at hj
          have k1 : (as.map (·.1))[j]? = some s := by rw [List.getElem?_map, hj, ← e']; rfl
          have k2 : (as.map (·.1))[i]? = some s := by rw [List.getElem?_map, hq2]; rfl
          have := idx_inj lw.nd k1 k2
          omega
        rw [putKD_fresh fresh]
        show (μ ++ [CT.ins C_World (wlF W (μ.length + 1)), .dct (acK C_Outcome C_Action C_Condition (as.take i))]).set (μ.length + 1) _ = μ ++ [.ins C_World (wlF W (μ.length + 1)), .dct (acK C_Outcome C_Action C_Condition (as.take (i + 1)))]
        have eA : acK C_Outcome C_Action C_Condition (as.take i ++ [(s, t, os)]) = acK C_Outcome C_Action C_Condition (as.take i) ++ [(.inr s, acD C_Outcome C_Action (cD C_Condition t.words) os)] := List.map_append
        have eT : as.take (i + 1) = as.take i ++ [(s, t, os)] := by rw [List.take_add_one, hq2]; rfl
        rw [set2, eT, eA]
    · rintro ρ' μ' ⟨v2, v3, v4, v5, rfl, rfl⟩
      refine ⟨_, rfl, _, _, .refl, ?_⟩
      have e : M (laL as).length = μ ++ [.ins C_World (wlF W (μ.length + 1)), .dct (acK C_Outcome C_Action C_Condition as)] := by
        show μ ++ [CT.ins C_World (wlF W (μ.length + 1)), .dct (acK C_Outcome C_Action C_Condition (as.take (laL as).length))] = _
        rw [List.length_map, List.take_length]
      rw [e]; exact z

end
end Dl

/-! len(set(texts)) -/
namespace Dl
open PySem PySem.Spec L2
open PyProof.Rows hiding St Binds
section
variable {P : Program} {w : World} {A : Around} {E : Value → Shared → Prop} {s : Shared}
/-- set(xs), xs a tuple of texts -/
theorem tx_callT {l : Addr} {items : Array Value} {xs : List Str} {Q : Value → Shared → Prop} (hh : A.handled = none) (hl : s.heap.IsTuple l items) (hi : StrsAre items.toList xs) (few : xs.length < 1000)
    (k : ∀ (h' : Heap) (tk : Nat) (ks : List Str), TxAt P w h' s.heap.objs.size ks → ks.length ≤ xs.length → (∀ y, y ∈ ks ↔ y ∈ xs) → (∀ b o, s.heap.get? b = some o → h'.get? b = some o) → Q (.ref s.heap.objs.size) { s with heap := h', toks := tk }) :
    wpAny (model P w) A (call (.type "set") [.ref l]) Q E s := by
  have m1 := PySem.F.called_set.mro
  obtain ⟨c, tl, m1⟩ := m1
  have m2 := PySem.F.called_set.made; have m3 := PySem.F.called_set.sub; have m4 := PySem.F.called_set.notType; have m5 := PySem.F.called_set.canCreate; have m6 := PySem.F.typeCall_set_1 (.ref l)
  refine wpAny_call (codeAny_of_tree ?_); show wpAny _ _ (callAny (.type "set") _) _ _ _
  refine wpAny_pure ⟨Code.quiet_builtin _ (by decide +kernel), codeAny_builtin PySem.F.entry_type_call ?_⟩; rw [Around.under_plain (weight_type_call_type "set" [.ref l] []) rfl]
  repeat (any_goals (first | assumption | wp_step))
  refine codeAny_mono (L2.code_set_led1 (.ref l) (E := E) (Q₁ := fun v z => v = .ref s.heap.objs.size ∧ z = { s with heap := s.heap.push (setNew w) }) ⟨rfl, rfl⟩) fun r z hr => ?_
  match r, hr with
  | .error e, hr => exact hr
  | .ok .next, hr => exact hr.elim
  | .ok .brk, hr => exact hr.elim
  | .ok .cont, hr => exact hr.elim
  | .ok (.ret v), ⟨e1, e2⟩ =>
  subst e1 e2
  have hS : (s.heap.push (setNew w)).get? s.heap.objs.size = some (setNew w) := Heap.get?_push_size _ rfl
  have hT : Shared.TypeIs { s with heap := s.heap.push (setNew w) } (.ref s.heap.objs.size) "set" := ⟨_, hS, rfl⟩
  have n1 := PySem.F.called_set.init.lookup; have n2 := PySem.F.called_set.init.bind (.ref s.heap.objs.size)
  repeat (any_goals (first | assumption | wp_step))
  refine codeAny_mono (codeAny_call_builtin (R := wants (fun r z => r = .none ∧ ∃ h' tk ks, z = { s with heap := h', toks := tk } ∧ TxAt P w h' s.heap.objs.size ks ∧ ks.length ≤ xs.length ∧ (∀ y, y ∈ ks ↔ y ∈ xs) ∧ ∀ b o, s.heap.get? b = some o → h'.get? b = some o) E) PySem.F.called_set.init.plain PySem.F.entry_set_init (check_set_init_1 hT ?_)) fun r2 z2 hr2 => ?_
  · obtain ⟨⟨oc, od, odata, osl⟩, hol, hcl, nl, hdl⟩ := hl
    simp only at hcl hdl; subst hcl; subst hdl
    have hl1 : (s.heap.push (setNew w)).IsTuple l items := ⟨_, Heap.get?_push_of_some _ hol, rfl, nl, rfl⟩
    have hol' : (s.heap.push (setNew w)).get? l = some ⟨.type "tuple", od, .seq items nl, osl⟩ := Heap.get?_push_of_some _ hol
    have b1 := PySem.F.sub_tuple_set; have b2 := PySem.F.sub_tuple_frozenset; have b3 : (Value.type "tuple" == Value.type "dict") = false := by decide
    unfold Builtin.«set.__init__» noKeywords Builtin.Frozenset.updateFrom
    generalize hit : pyIter = it
    wp_walk
    subst hit
    have z1 : (s.heap.push (setNew w)).objs.size = s.heap.objs.size + 1 := Heap.size_push ..
    have hlS : l < s.heap.objs.size := Heap.lt_size hol
    have nI : l ≠ (s.heap.push (setNew w)).objs.size := by rw [z1]; exact Nat.ne_of_lt (Nat.lt_succ_of_lt hlS)
    have nS : s.heap.objs.size ∉ [(s.heap.push (setNew w)).objs.size, l] := by
      rw [z1]; simp only [List.mem_cons, List.not_mem_nil, or_false, not_or]; exact ⟨Nat.ne_of_lt (Nat.lt_succ_self _), Nat.ne_of_gt hlS⟩
    have sz : xs.length = items.size := by rw [← StrsAre.len_eq hi, Array.length_toList]
    have hd3 : A.in1.in1.in1.handled = none := by simp [hh]
    refine wpAny_pyIter_tuple hl1 (wpAny_bind (wpAny_runValue (tx_loop ((Walks.tuple hd3 _ l nI items).toS) s.heap.objs.size nS xs sz (by rw [← sz]; exact few) (fun i v hv => ?_) (items.size - 0) 0 _ (by omega) (Nat.zero_le _)
      ⟨⟨_, Heap.get?_push_size _ rfl, rfl, rfl⟩, hl1.push _⟩ ⟨[], txAt_new (Heap.get?_push_of_some _ hS), Nat.le_refl _, fun y => by simp⟩ fun s2 ks mv t l2 m => ?_)))
    · have hv' : items.toList[i]? = some v := by rw [Array.getElem?_toList]; exact hv
      obtain ⟨u, e⟩ := _root_.SS.strs_at hi i v hv'
      have lt : i < xs.length := by rw [sz, ← Array.length_toList]; exact (List.getElem?_eq_some_iff.mp hv').1
      exact ⟨xs[i], u, List.getElem?_eq_getElem lt, by rw [e]; simp [List.getD, lt]⟩
    · obtain ⟨h', g2, d2, tk2, os2⟩ := s2
      have e1 : g2 = s.gens := mv.gens
      have e2 : d2 = s.drawn := mv.drawn
      have e3 : os2 = s.os := mv.os
      subst e1 e2 e3
      show wpAny _ _ _ _ _ _
      refine wpAny_pure (show wpAny _ _ (ret Value.none) _ _ _ from wpAny_pure ⟨rfl, h', tk2, ks, rfl, t, by rw [sz]; exact l2, m, fun b o e => ?_⟩)
      have lb : b < s.heap.objs.size := Heap.lt_size e
      refine mv.heap b o (fun z => ?_) (Heap.get?_push_of_some _ (Heap.get?_push_of_some _ e))
      rw [z1] at z
      simp only [List.mem_cons, List.not_mem_nil, or_false] at z
      exact z.elim (fun z => Nat.ne_of_lt lb z) fun z => Nat.ne_of_lt (Nat.lt_succ_of_lt lb) z
  · match r2, hr2 with
    | .error e, hr2 => exact hr2
    | .ok .next, hr2 => exact hr2.elim
    | .ok .brk, hr2 => exact hr2.elim
    | .ok .cont, hr2 => exact hr2.elim
    | .ok (.ret v), ⟨e, h', tk, ks, ez, t, l2, m, kp⟩ =>
      subst e ez
      repeat (any_goals (first | assumption | wp_step))
      exact k h' tk ks t l2 m kp
end
/-- how many unlike ones -/
def cnt : List Str → Nat
  | [] => 0
  | s :: r => if s ∈ r then cnt r else cnt r + 1
theorem cnt_of {ks : List Str} : ∀ {xs : List Str}, ks.Nodup → (∀ y, y ∈ ks ↔ y ∈ xs) → ks.length = cnt xs := fun {xs} nd m => by
  induction xs generalizing ks with
  | nil =>
    cases ks with
    | nil => rfl
    | cons k r => exact absurd ((m k).mp (List.mem_cons_self ..)) (by simp)
  | cons x xs ih =>
    unfold cnt
    by_cases h : x ∈ xs
    · rw [if_pos h]
      exact ih nd fun y => (m y).trans ⟨fun z => (List.mem_cons.mp z).elim (fun e => e ▸ h) id, fun z => List.mem_cons_of_mem _ z⟩
    · rw [if_neg h]
      have hx : x ∈ ks := (m x).mpr (List.mem_cons_self ..)
      have := ih (ks := ks.erase x) (nd.erase x) fun y => by
        rw [nd.mem_erase_iff, m y, List.mem_cons]
        constructor
        · rintro ⟨h1, h2⟩; exact h2.resolve_left h1
        · intro h3; exact ⟨fun e => h (e ▸ h3), .inr h3⟩
      rw [← this, List.length_erase_of_mem hx]
      have : 0 < ks.length := List.length_pos_of_mem hx
      omega
def tLS (K : PySem.W.Frag) (ta : TE) : TE := fun σ H Q => ta σ H fun x H1 => ∃ (l : Addr) (xs : List Str), x = .ref l ∧ (SqL K H1 l (xs.map V.str) ∨ SqT K H1 l (xs.map V.str)) ∧ xs.length < 1000 ∧ Q (.int (cnt xs : Nat)) H1
def fLS (f : FE) : FE := fun ρ μ Q E => f ρ μ (fun d m => ∃ xs : List Str, asS m d = some (xs.map .str) ∧ xs.length < 1000 ∧ Q (.int (cnt xs : Nat)) m) E
section
variable {X : Cx} {a : Expr} {ta : TE} {p p2 q pos : Pos} {W : WX} {f : FE}
theorem pe_lenSetX (hc : X.calm = true) (hg : Gl X "len") (hm : X.mg "len" = none) (hg2 : Gl X "set") (hm2 : X.mg "set" = none) (ha : PE X a ta)
    (na : starEach [a] X.env = (false, eval a X.env) :: starEach [] X.env := by rfl) : PE X (.Call (.Name "len" p) [.Call (.Name "set" p2) [a] [] q] [] pos) (tLS X.K ta) := by
  refine ⟨fun pins s σ H Q I h => Call_ (ld_blt I hg hm boot_len ?_)⟩
  refine PyProof.Rows.callWith_builtin1 (PyProof.Rows.args_cons (Call_ (ld_blt I hg2 hm2 (by rfl) ?_)) rfl) rfl rfl
  refine PyProof.Rows.callWith_type1 (PyProof.Rows.args_cons (thn (ha.run pins s σ H _ I h) fun v s1 ⟨x, H1, I1, r1, q1⟩ => PyProof.Rows.args_nil ?_) na) na rfl
  obtain ⟨l, xs, rfl, hq, h64, q1⟩ := q1
  cases r1
  have fin : ∀ (h' : Heap) (tk : Nat) (ks : List Str), TxAt X.prog X.w h' s1.heap.objs.size ks → ks.length ≤ xs.length → (∀ y, y ∈ ks ↔ y ∈ xs) → (∀ b o, s1.heap.get? b = some o → h'.get? b = some o) →
      wpAny (model X.prog X.w) X.A (spliced (backTo pos (starEach [] X.env))) (fun vs s₂ => wpAny (model X.prog X.w) X.A (call (.builtin "len") (Value.ref s1.heap.objs.size :: vs)) (EP X pins σ Q) X.xe s₂) X.xe { s1 with heap := h', toks := tk } := fun h' tk ks t lk m keep => by
    refine PyProof.Rows.args_nil ?_
    have I2 : Inv X pins σ H1 { s1 with heap := h', toks := tk } := I1.kept keep
    obtain ⟨⟨es, ep, tb⟩, ho, td⟩ := t
    have hz : es.size = ks.length := td.ok.sz
    have hk := cnt_of td.nd m
    refine call_len_set (o := Froz.sObj "set" (es, ep, tb)) (es := es) (ep := ep) (t := tb) ho ⟨rfl, rfl, rfl⟩ rfl td.ok.fit (by omega) ⟨.int (cnt xs : Nat), H1, I2.tok _, ⟨_, by rw [hz, hk]⟩, q1⟩
  rcases hq with hq | hq
  · obtain ⟨its, r, pl, hz⟩ := I1.list hq
    exact tx_call (P := X.prog) (w := X.w) (I1.ok.hd hc) pl.isList (by simpa using L2.strsAre_of r) h64 fun h' tk ks t lk m keep => fin h' tk ks t lk m keep
  · obtain ⟨its, r, pl, hz⟩ := I1.tuple hq
    exact tx_callT (P := X.prog) (w := X.w) (I1.ok.hd hc) pl (by simpa using L2.strsAre_of r) h64 fun h' tk ks t lk m keep => fin h' tk ks t lk m keep
theorem de_lenSet (hc : X.calm = true) (hg : Gl X "len") (hm : X.mg "len" = none) (hg2 : Gl X "set") (hm2 : X.mg "set" = none) (ha : DE X W a f)
    (na : starEach [a] X.env = (false, eval a X.env) :: starEach [] X.env := by rfl) : DE X W (.Call (.Name "len" p) [.Call (.Name "set" p2) [a] [] q] [] pos) (fLS f) :=
  ⟨fun ρ μ Q Q' E E' hq he z => ha.mono ρ μ _ _ E E' (fun d m ⟨xs, e, l, z⟩ => ⟨xs, e, l, hq _ _ z⟩) he z,
   PE.imp (pe_lenSetX hc hg hm hg2 hm2 ha.run na) fun σ H Q ⟨ι, ρ, μ, r, l, z⟩ => chain1 ha.mono r l z fun d μ1 ι1 H1 v ⟨xs, e, lx, z⟩ g1 r1 l1 a1 => by
    obtain ⟨b, vs, rfl, hb, hv⟩ := asS_at r1 a1 e
    cases ats_strs hv
    exact ⟨b, xs, rfl, hb, lx, z ι1 H1 _ g1 r1 (.int _)⟩⟩
end
end Dl

/-! xs[::-1]; del d[k] -/
namespace Dl
open PySem PySem.Spec L2
open PyProof.Rows hiding St Binds
section
variable {X : Cx} {W : WX} {e o i : Expr} {f fo fi : FE} {k : Nat} {p1 p2 p3 pos tpos : Pos}
def fRev (f : FE) : FE := fun ρ μ Q E => f ρ μ (fun d m => ∃ xs, asL m d = some xs ∧ Q (.lst xs.reverse) m) E
theorem Ats.rev {K : PySem.W.Frag} {ι : Io} {H : Hp} : ∀ {vs : List V} {ds : List D}, Ats K ι H vs ds → Ats K ι H vs.reverse ds.reverse
  | vs, [], r => by cases Ats.unnil r; exact Ats.nil
  | vs, d :: ds, r => by
    obtain ⟨v, vs', rfl, a, r'⟩ := r.uncons
    rw [List.reverse_cons, List.reverse_cons]
    exact (Ats.rev r').app (Ats.cons a Ats.nil)
theorem de_rev (he : DE X W e f) : DE X W (.Subscript e (.Slice none none (some (.UnaryOp .USub (.Constant (.int 1) k p1) p2)) p3) pos) (fRev f) :=
  ⟨fun ρ μ Q Q' E E' hq h2 z => he.mono ρ μ _ _ E E' (fun d m ⟨xs, e, z⟩ => ⟨xs, e, hq _ _ z⟩) h2 z,
   PE.imp (pe_revL he.run) fun σ H Q ⟨ι, ρ, μ, r, l, z⟩ => chain1 he.mono r l z fun d μ1 ι1 H1 v ⟨xs, e, z⟩ g1 r1 l1 a1 => by
    obtain ⟨b, vs, rfl, hb, hv⟩ := asL_at r1 a1 e
    exact ⟨b, vs, rfl, SqL.of hb, fun p hp => z ι1 _ _ (g1.trans (Gr.new hp (r1.free hp))) (r1.new hp) (.newL hp (r1.free hp) (Ats.rev hv))⟩⟩
def sDelD (fo fi : FE) : FS := fun A ρ μ => fo ρ μ (fun x m1 => fi ρ m1 (fun y m2 => ∃ n kd k, x = .cell n ∧ m2[n]? = some (.dct kd) ∧ kD y = some k ∧ (valD kd k).isSome = true ∧ A.nx ρ (m2.set n (.dct (dropD kd k)))) A.ex) A.ex
theorem ds_del (ho : DE X W o fo) (hi : DE X W i fi) : DS X W (.Delete [.Subscript o i tpos] pos) (sDelD fo fi) := by
  refine ⟨fun ρ μ A B h q => ho.mono ρ μ _ _ _ _ (fun x m1 z => hi.mono ρ m1 _ _ _ _ (fun y m2 ⟨n, kd, k, e1, e2, e3, e4, z⟩ => ⟨n, kd, k, e1, e2, e3, e4, h.nx _ _ z⟩) (fun _ _ _ z => h.ex _ _ _ _ z) z) (fun _ _ _ z => h.ex _ _ _ _ z) q,
    PS.imp (ps_ddel ho.run hi.run) fun De σ H ⟨ι, ρ, μ, r, l, q⟩ => chS ho.mono rfl r l q fun x μ1 ι1 H1 v z g1 r1 l1 a1 => ?_⟩
  refine chS (De := De) (A := KV X.K W ι1 H1 De) hi.mono rfl r1 l1 (hi.mono ρ μ1 _ _ _ _ (fun _ _ z => z) (fun _ _ _ z => WV.gr g1 z) z) fun y μ2 ι2 H2 u z g2 r2 l2 a2 => ?_
  obtain ⟨n, kd, k, rfl, e2, e3, e4, z⟩ := z
  have a1' := a1.gr g2
  cases a1' with
  | @cell a _ hn =>
    obtain ⟨kv, h1, h2⟩ := r2.at_ n a _ hn e2
    have oa := h2.val (k := k)
    refine ⟨a, kv, k, rfl, h1, kD_at a2 e3, by rw [oa.some_iff]; exact e4, ?_⟩
    have gc := Gr.chg (H := H2) (o := .dK (dropK kv k)) (List.mem_of_getElem? hn)
    exact z ι2 _ σ ((g1.trans g2).trans gc) (r2.chg (c := .dct (dropD kd k)) hn ⟨_, upd_same, (Pts.drop h2).gr gc⟩) (l2.gr gc)
end
end Dl

namespace Dl
open PySem PySem.Spec L2
open PyProof.Rows hiding St Binds
section
variable {P : Program} {w : World} {K : PySem.W.Frag} {mg : Str → Option Value} {base : Heap} {C_BadName C_BadChange C_NameInUse C_NoState C_UnknownAction C_Outcome C_Action C_Condition C_World : Addr}
/-! ### states -/
/-- all states, in the order of counting -/
def allS : List Str → List (List Str)
  | [] => [[]]
  | a :: r => allS r ++ (allS r).map (a :: ·)
abbrev stD (s : List Str) : D := .tup (s.map .str)
abbrev stsD (l : List (List Str)) : List D := l.map stD
theorem allS_len : ∀ ss : List Str, (allS ss).length = 2 ^ ss.length
  | [] => rfl
  | a :: r => by
    show (allS r ++ (allS r).map (a :: ·)).length = 2 ^ (r.length + 1)
    rw [List.length_append, List.length_map, allS_len r, Nat.pow_succ]; omega
theorem stsD_bd {l : List (List Str)} {n : Nat} : bdL n (stsD l) = true := bdL_all.mpr fun d hd => by
  obtain ⟨s, _, rfl⟩ := List.mem_map.mp hd
  exact bdL_strs _
def pCo (a : Str) : D → Option D
  | .tup ds => some (.tup (.str a :: ds))
  | _ => none
theorem pCo_map (a : Str) : ∀ l : List (List Str), (stsD l).filterMap (pCo a) = stsD (l.map (a :: ·))
  | [] => rfl
  | s :: l => by
    have ih := pCo_map a l
    show D.tup (.str a :: s.map .str) :: (stsD l).filterMap (pCo a) = _
    rw [ih]; rfl
theorem allS_rev {ss : List Str} {i : Nat} {x : Str} (h : ss.reverse[i]? = some x) : allS ((ss.reverse.take (i + 1)).reverse) = allS ((ss.reverse.take i).reverse) ++ (allS ((ss.reverse.take i).reverse)).map (x :: ·) := by
  rw [List.take_add_one, h]
  show allS ((ss.reverse.take i ++ [x]).reverse) = _
  rw [List.reverse_append]
  rfl
theorem allS_mem : ∀ {ss s : List Str}, s ∈ allS ss → s.length ≤ ss.length
  | [], s, h => by rw [List.mem_singleton.mp h]; exact Nat.le_refl _
  | a :: r, s, h => by
    rcases List.mem_append.mp h with h | h
    · exact Nat.le_succ_of_le (allS_mem h)
    · obtain ⟨u, hu, rfl⟩ := List.mem_map.mp h
      exact Nat.succ_le_succ (allS_mem hu)
abbrev sAlS : Stmt := top 16
abbrev nAlS : List Str := ["seen", "states", "name", "state"]
theorem scAlS : FnScope nAlS ["seen"] (defScope sAlS) := ⟨rfl, rfl, rfl, by decide +kernel, rfl, by decide +kernel, by decide +kernel⟩
inductive FAlS (ds : List D) (μ : Sto) (Q : QD) (E : XD) : Prop
  | mk (ss : List Str) (a1 : ds = [.lst (ss.map .str)]) (a2 : ss.length ≤ 10) (a3 : bdS μ.length μ = true) (a4 : Q (.lst (stsD (allS ss))) μ) : FAlS ds μ Q E
theorem FAlS.mono  : MonF (FAlS) := fun ds μ Q Q' E E' h he q => match q with | .mk ss a1 a2 a3 a4 => .mk ss a1 a2 a3 (h _ _ a4)
theorem FAlS.len  : ∀ ds μ Q E, FAlS ds μ Q E → ds.length = 1 := fun ds μ Q E q => by obtain ⟨_, e, _, _, _⟩ := q; rw [e]; rfl
theorem cal_als {f : Addr} {fd : FuncData} {qual : Str} (T : NoB mg) (Fu : Fun K "all_states" qual sAlS f fd) (hm : mg "all_states" = some (.ref f)) (hk : PySem.W.keepIn K (.ref f) = true) (hb : L2.Binds K fd ["seen"] []) : Cal P w K mg base 1 "all_states" FAlS [] := by
  have nd := scAlS.nd
  refine cal_fun Fu scAlS hm hk hb ?_ ?_ (fun cdv A outer s H E hG hr =>
    have hu : (cxOf (L2.CX P w) P w K mg base nAlS qual (defScope sAlS) f cdv A outer s H E).A.units + 64 < cLine := by have := hr.un; show (A.deeper _).units + 64 < _; omega
    have hv : (cxOf (L2.CX P w) P w K mg base nAlS qual (defScope sAlS) f cdv A outer s H E).A.units + 1 < cLine := by omega
    have tk := takes_of (X := cxOf (L2.CX P w) P w K mg base nAlS qual (defScope sAlS) f cdv A outer s H E) (E := E) rfl rfl rfl rfl
    have pw := passes_of (X := cxOf (L2.CX P w) P w K mg base nAlS qual (defScope sAlS) f cdv A outer s H E) rfl
    (ds_cons (ds_set (i := 1) nd rfl (by first | exact .inl rfl | exact .inr rfl) (de_lstD (da_cons (de_tup da_nil) da_nil)))
      (ds_cons (ds_for pw rfl (di_seq (de_rev (de_var 0 rfl))) (dg_name (i := 2) nd rfl (by first | exact .inl rfl | exact .inr rfl)) (ds_one (ds_set (i := 1) nd rfl (by first | exact .inl rfl | exact .inr rfl) (de_op opd_catD (de_var 1 rfl) (de_lc (own := [("state", 3)]) rfl nd (di_seq (de_var 1 rfl)) (blkOk_by (N := nAlS) (sc := defScope sAlS) (by decide +kernel)) (fun _ _ _ _ _ => (dgw_name (i := 3) nd rfl (Or.inl rfl) (by decide))) (fun _ _ _ _ _ => dts_nil) (fun _ _ _ _ _ => (de_tup (da_cons (de_var 2 rfl) (da_star (de_var 3 rfl) da_nil)))))))))
      (ds_one (ds_ret (de_var 1 rfl)))))) ?_
  · exact FAlS.mono
  · exact FAlS.len
  · rintro ds μ Q E ⟨ss, rfl, hl, hb', z⟩
    have sz := sizeLine_eq
    refine ⟨by show 0 ≤ sizeLine; omega, by show 1 ≤ sizeLine; omega, ?_⟩
    refine ⟨_, rfl, ss.map .str, rfl, (ss.map D.str).reverse, rfl, fun i ρ' μ' => ∃ v2 v3 : Option D, ρ' = [some (.lst (ss.map .str)), some (.lst (stsD (allS ((ss.reverse.take i).reverse)))), v2, v3] ∧ μ' = μ, ⟨_, _, rfl, rfl⟩, fun _ _ _ _ => rfl, ?_, ?_⟩
    · rintro i x ρ' μ' hx ⟨v2, v3, rfl, rfl⟩
      rw [← List.map_reverse, List.getElem?_map] at hx
      obtain ⟨s, hs, rfl⟩ := Option.map_eq_some_iff.mp hx
      have hi : i < 10 := by have := (List.getElem?_eq_some_iff.mp hs).1; rw [List.length_reverse] at this; omega
      generalize hT : allS ((ss.reverse.take i).reverse) = l
      have ll : l.length ≤ 1024 := by
        rw [← hT, allS_len, List.length_reverse, List.length_take]
        exact Nat.le_trans (Nat.pow_le_pow_right (by decide) (Nat.le_trans (Nat.min_le_left _ _) (Nat.le_of_lt hi))) (by decide)
      refine ⟨_, rfl, _, rfl, stsD l, rfl, lc_pure (pCo s) (fun _ => rfl) (fun x hx acc NX N0 n1 n2 => ?_) (by rw [List.length_map]; omega) (by rw [pCo_map]; exact stsD_bd) hb' ?_⟩
      · obtain ⟨st, hst, rfl⟩ := List.mem_map.mp hx
        have ls : st.length ≤ 10 := by
          rw [← hT] at hst
          have := allS_mem hst
          rw [List.length_reverse, List.length_take] at this
          omega
        exact ⟨_, rfl, _, rfl, st.map .str, rfl, by rw [List.append_nil]; show (st.map D.str).length + 1 ≤ _; rw [List.length_map]; omega, n1 _ (by rw [List.append_nil]; rfl)⟩
      · rw [pCo_map]
        refine ⟨stsD l, stsD (l.map (s :: ·)), rfl, rfl, by rw [List.length_append, List.length_map, List.length_map, List.length_map]; omega, ?_⟩
        have eA : stsD (l ++ l.map (s :: ·)) = stsD l ++ stsD (l.map (s :: ·)) := List.map_append
        refine ⟨some (.str s), v3, ?_, rfl⟩
        rw [allS_rev hs, hT, eA]; rfl
    · rintro ρ' μ' ⟨v2, v3, rfl, rfl⟩
      refine ⟨_, rfl, _, _, .refl, ?_⟩
      rw [List.length_reverse, List.length_map, ← List.length_reverse (as := ss), List.take_length, List.reverse_reverse]
      exact z

/-- what makes a state of some names -/
def someB (ns kn : List Str) : Bool := (ns.map fun s => decide (s ∈ kn)).all id && decide (cnt ns = ns.length)
def inOrd (ns kn : List Str) : List Str := kn.filter fun s => decide (s ∈ ns)
theorem fm_in (kn : List Str) : ∀ ns : List Str, (ns.map D.str).filterMap (fun d => match d with | .str s => some (D.bl (decide (s ∈ kn))) | _ => none) = (ns.map fun s => decide (s ∈ kn)).map D.bl
  | [] => rfl
  | s :: ns => by rw [List.map_cons, List.filterMap_cons]; dsimp only; rw [fm_in kn ns]; rfl
theorem fm_fl (ns : List Str) : ∀ kn : List Str, (kn.map D.str).filterMap (fun d => match d with | .str s => if decide (s ∈ ns) = true then some (D.str s) else none | _ => none) = (inOrd ns kn).map D.str
  | [] => rfl
  | s :: kn => by
    rw [List.map_cons, List.filterMap_cons]
    dsimp only
    rw [fm_fl ns kn]
    unfold inOrd
    rw [List.filter_cons]
    by_cases h : s ∈ ns <;> simp [h]
abbrev sASo : Stmt := top 17
abbrev nASo : List Str := ["names", "known", "name"]
theorem scASo : FnScope nASo ["names", "known"] (defScope sASo) := ⟨rfl, rfl, rfl, by decide +kernel, rfl, by decide +kernel, by decide +kernel⟩
inductive FASo (ds : List D) (μ : Sto) (Q : QD) (E : XD) : Prop
  | mk (d : D) (ns : List Str) (kn : List Str) (a1 : ds = [d, .lst (kn.map .str)]) (a2 : (∀ m, asS (μ ++ m) d = some (ns.map .str))) (a3 : ns.length < 1000) (a4 : bdS μ.length μ = true) (a5 : Q (.bl (someB ns kn)) μ) : FASo ds μ Q E
theorem FASo.mono  : MonF (FASo) := fun ds μ Q Q' E E' h he q => match q with | .mk d ns kn a1 a2 a3 a4 a5 => .mk d ns kn a1 a2 a3 a4 (h _ _ a5)
theorem FASo.len  : ∀ ds μ Q E, FASo ds μ Q E → ds.length = 2 := fun ds μ Q E q => by obtain ⟨_, _, _, e, _, _, _, _⟩ := q; rw [e]; rfl
theorem cal_aso {f : Addr} {fd : FuncData} {qual : Str} (T : NoB mg) (Fu : Fun K "are_some_of" qual sASo f fd) (hm : mg "are_some_of" = some (.ref f)) (hk : PySem.W.keepIn K (.ref f) = true) (hb : L2.Binds K fd ["names", "known"] []) : Cal P w K mg base 1 "are_some_of" FASo [] := by
  have nd := scASo.nd
  refine cal_fun Fu scASo hm hk hb ?_ ?_ (fun cdv A outer s H E hG hr =>
    have hu : (cxOf (L2.CX P w) P w K mg base nASo qual (defScope sASo) f cdv A outer s H E).A.units + 64 < cLine := by have := hr.un; show (A.deeper _).units + 64 < _; omega
    have hv : (cxOf (L2.CX P w) P w K mg base nASo qual (defScope sASo) f cdv A outer s H E).A.units + 1 < cLine := by omega
    have tk := takes_of (X := cxOf (L2.CX P w) P w K mg base nASo qual (defScope sASo) f cdv A outer s H E) (E := E) rfl rfl rfl rfl
    have pw := passes_of (X := cxOf (L2.CX P w) P w K mg base nASo qual (defScope sASo) f cdv A outer s H E) rfl
    (ds_cons (ds_if (dt_not (dt_val (de_callB (cad_all rfl) (by rfl) T.all (by decide +kernel) (da_cons (de_lc (own := [("name", 2)]) rfl nd (di_seq (de_var 0 rfl)) (blkOk_by (N := nASo) (sc := defScope sASo) (by decide +kernel)) (fun _ _ _ _ _ => (dgw_name (i := 2) nd rfl (Or.inl rfl) (by decide))) (fun _ _ _ _ _ => dts_nil) (fun _ _ _ _ _ => (de_cmp opd_in (de_var 2 rfl) (de_var 1 rfl)))) da_nil)))) (ds_one (ds_ret de_bl)) ds_nil)
      (ds_one (ds_ret (de_cmp opd_eqI (de_lenSet rfl (by rfl) T.len (by rfl) T.set (de_var 0 rfl)) (de_callB cad_len (by rfl) T.len (by decide +kernel) (da_cons (de_var 0 rfl) da_nil))))))) ?_
  · exact FASo.mono
  · exact FASo.len
  · rintro ds μ Q E ⟨d, ns, kn, rfl, hd, hl, hb', z⟩
    have sz := sizeLine_eq
    have hd0 : asS μ d = some (ns.map .str) := by have := hd []; rwa [List.append_nil] at this
    refine ⟨_, rfl, ns.map .str, hd0, lc_pure (fun x => match x with | .str s => some (D.bl (decide (s ∈ kn))) | _ => none) (fun _ => hd _) (fun x hx acc NX N0 n1 n2 => ?_) (by rw [List.length_map]; omega) (by rw [fm_in]; exact bdL_bls _) hb' ?_⟩
    · obtain ⟨s, hs, rfl⟩ := List.mem_map.mp hx
      refine ⟨_, rfl, _, rfl, kn.map .str, rfl, rfl, flat_strs _, ?_⟩
      exact n1 _ (by show some (D.bl (decide (s ∈ kn))) = some (D.bl (inDD (.str s) (kn.map D.str))); rw [inDD_strs])
    · rw [fm_in]
      refine ⟨_, ns.map fun s => decide (s ∈ kn), rfl, rfl, _, rfl, ?_⟩
      cases e : (ns.map fun s => decide (s ∈ kn)).all id with
      | false =>
        have e2 : someB ns kn = false := by unfold someB; rw [e]; rfl
        rw [e2] at z
        exact ift_ rfl ⟨_, _, .refl, z⟩
      | true =>
        have e2 : someB ns kn = decide (cnt ns = ns.length) := by unfold someB; rw [e]; rfl
        rw [e2] at z
        refine iff_ rfl ⟨_, rfl, ns, hd0, by omega, _, rfl, .inr ⟨_, ns.map .str, rfl, hd0, _, _, rfl, rfl, _, _, .refl, ?_⟩⟩
        have e3 : decide (((cnt ns : Nat) : Int) = ((ns.map D.str).length : Nat)) = decide (cnt ns = ns.length) := by
          rw [List.length_map]
          exact decide_eq_decide.mpr ⟨fun h => by omega, fun h => by omega⟩
        rw [e3]; exact z

abbrev sInO : Stmt := top 18
abbrev nInO : List Str := ["names", "known", "name"]
theorem scInO : FnScope nInO ["names", "known"] (defScope sInO) := ⟨rfl, rfl, rfl, by decide +kernel, rfl, by decide +kernel, by decide +kernel⟩
inductive FInO (ds : List D) (μ : Sto) (Q : QD) (E : XD) : Prop
  | mk (d : D) (ns : List Str) (kn : List Str) (a1 : ds = [d, .lst (kn.map .str)]) (a2 : (∀ m, asS (μ ++ m) d = some (ns.map .str))) (a3 : kn.length < 1000) (a4 : bdS μ.length μ = true) (a5 : Q (stD (inOrd ns kn)) μ) : FInO ds μ Q E
theorem FInO.mono  : MonF (FInO) := fun ds μ Q Q' E E' h he q => match q with | .mk d ns kn a1 a2 a3 a4 a5 => .mk d ns kn a1 a2 a3 a4 (h _ _ a5)
theorem FInO.len  : ∀ ds μ Q E, FInO ds μ Q E → ds.length = 2 := fun ds μ Q E q => by obtain ⟨_, _, _, e, _, _, _, _⟩ := q; rw [e]; rfl
theorem cal_ino {f : Addr} {fd : FuncData} {qual : Str} (T : NoB mg) (Fu : Fun K "in_order" qual sInO f fd) (hm : mg "in_order" = some (.ref f)) (hk : PySem.W.keepIn K (.ref f) = true) (hb : L2.Binds K fd ["names", "known"] []) : Cal P w K mg base 1 "in_order" FInO [] := by
  have nd := scInO.nd
  refine cal_fun Fu scInO hm hk hb ?_ ?_ (fun cdv A outer s H E hG hr =>
    have hu : (cxOf (L2.CX P w) P w K mg base nInO qual (defScope sInO) f cdv A outer s H E).A.units + 64 < cLine := by have := hr.un; show (A.deeper _).units + 64 < _; omega
    have hv : (cxOf (L2.CX P w) P w K mg base nInO qual (defScope sInO) f cdv A outer s H E).A.units + 1 < cLine := by omega
    have tk := takes_of (X := cxOf (L2.CX P w) P w K mg base nInO qual (defScope sInO) f cdv A outer s H E) (E := E) rfl rfl rfl rfl
    have pw := passes_of (X := cxOf (L2.CX P w) P w K mg base nInO qual (defScope sInO) f cdv A outer s H E) rfl
    (ds_one (ds_ret (de_callTy cad_tuple (by rfl) T.tuple (by decide +kernel) (da_cons (de_lc (own := [("name", 2)]) rfl nd (di_seq (de_var 1 rfl)) (blkOk_by (N := nInO) (sc := defScope sInO) (by decide +kernel)) (fun _ _ _ _ _ => (dgw_name (i := 2) nd rfl (Or.inl rfl) (by decide))) (fun _ _ _ _ _ => (dts_one (dt_cmp opd_in (de_var 2 rfl) (de_var 0 rfl)))) (fun _ _ _ _ _ => (de_var 2 rfl))) da_nil))))) ?_
  · exact FInO.mono
  · exact FInO.len
  · rintro ds μ Q E ⟨d, ns, kn, rfl, hd, hl, hb', z⟩
    have sz := sizeLine_eq
    refine ⟨_, rfl, kn.map .str, rfl, lc_pure (fun x => match x with | .str s => if decide (s ∈ ns) = true then some (D.str s) else none | _ => none) (fun _ => rfl) (fun x hx acc NX N0 n1 n2 => ?_) (by rw [List.length_map]; omega) (by rw [fm_fl]; exact bdL_strs _) hb' ?_⟩
    · obtain ⟨s, hs, rfl⟩ := List.mem_map.mp hx
      refine ⟨_, rfl, _, rfl, ns.map .str, hd _, rfl, flat_strs _, _, rfl, ?_⟩
      show if inDD (.str s) (ns.map D.str) = true then _ else _
      rw [inDD_strs]
      exact ite_b (fun h => ⟨_, rfl, n1 _ (by show (if decide (s ∈ ns) = true then _ else _) = _; rw [if_pos (decide_eq_true h)])⟩) (fun h => n2 (by show (if decide (s ∈ ns) = true then _ else _) = _; rw [if_neg (by simpa using h)]))
    · rw [fm_fl]
      exact ⟨_, _, rfl, rfl, _, _, .refl, z⟩

abbrev sWSo : Stmt := inCls (top 40) 18
abbrev nWSo : List Str := ["self", "names"]
theorem scWSo : FnScope nWSo ["self", "names"] (defScope sWSo) := ⟨rfl, rfl, rfl, by decide +kernel, rfl, by decide +kernel, by decide +kernel⟩
inductive FWSo (C_World : Addr) (ds : List D) (μ : Sto) (Q : QD) (E : XD) : Prop
  | mk (d : D) (e : D) (W : Wl) (ns : List Str) (a1 : ds = [d, e]) (a2 : WlAt C_World W d μ) (a3 : W.all.length ≤ 60) (a4 : (∀ m, asS (μ ++ m) e = some (ns.map .str))) (a5 : ns.length < 1000) (a6 : someB ns W.seen = true) (a7 : bdS μ.length μ = true) (a8 : Q (stD (inOrd ns W.seen)) μ) : FWSo C_World ds μ Q E
theorem FWSo.mono {C_World : Addr} : MonF (FWSo C_World) := fun ds μ Q Q' E E' h he q => match q with | .mk d e W ns a1 a2 a3 a4 a5 a6 a7 a8 => .mk d e W ns a1 a2 a3 a4 a5 a6 a7 (h _ _ a8)
theorem FWSo.len {C_World : Addr} : ∀ ds μ Q E, FWSo C_World ds μ Q E → ds.length = 2 := fun ds μ Q E q => by obtain ⟨_, _, _, _, e, _, _, _, _, _, _, _⟩ := q; rw [e]; rfl
theorem met_WSo (cWse : Met P w K mg base 1 C_World "seen" (FWl C_World Wl.seen) []) (caso : Cal P w K mg base 1 "are_some_of" FASo []) (cino : Cal P w K mg base 1 "in_order" FInO []) {f : Addr} {fd : FuncData} {qual : Str} (T : NoB mg) (Fu : FunA K "state_of" qual sWSo f fd) (cC : Cls K C_World) (M : Meth K C_World "state_of" f) (hb : L2.Binds K fd ["self", "names"] []) : Met P w K mg base 2 C_World "state_of" (FWSo C_World) [] := by
  have nd := scWSo.nd
  refine met_fun Fu scWSo cC M hb ?_ ?_ (fun cdv A outer s H E hG hr =>
    have hu : (cxOf (L2.CX P w) P w K mg base nWSo qual (defScope sWSo) f cdv A outer s H E).A.units + 64 < cLine := by have := hr.un; show (A.deeper _).units + 64 < _; omega
    have hv : (cxOf (L2.CX P w) P w K mg base nWSo qual (defScope sWSo) f cdv A outer s H E).A.units + 1 < cLine := by omega
    have tk := takes_of (X := cxOf (L2.CX P w) P w K mg base nWSo qual (defScope sWSo) f cdv A outer s H E) (E := E) rfl rfl rfl rfl
    have pw := passes_of (X := cxOf (L2.CX P w) P w K mg base nWSo qual (defScope sWSo) f cdv A outer s H E) rfl
    (ds_cons (ds_if (dt_not (dt_val (de_call caso hG hr (by decide) (by rfl) tk (da_cons (de_var 1 rfl) (da_cons (de_meth0 cWse hG hr (by decide) tk (de_var 0 rfl)) da_nil))))) (ds_one ds_never) ds_nil)
      (ds_one (ds_ret (de_call cino hG hr (by decide) (by rfl) tk (da_cons (de_var 1 rfl) (da_cons (de_meth0 cWse hG hr (by decide) tk (de_var 0 rfl)) da_nil))))))) ?_
  · exact FWSo.mono
  · exact FWSo.len
  · rintro ds μ Q E ⟨d, e, W, ns, rfl, h, hl, he, ln, hs, hb', z⟩
    obtain ⟨a, ha⟩ := id h
    have ls : W.seen.length ≤ 60 := by
      have : W.all.length = W.fa.length + (W.pi.length + W.re.length) := by unfold Wl.all; simp
      unfold Wl.seen; rw [List.length_append]; omega
    refine ⟨_, rfl, _, rfl, _, ha, rfl, d, W, rfl, h, by omega, e, ns, W.seen, rfl, he, ln, hb', _, rfl, iff_ (by rw [hs]; rfl) ?_⟩
    exact ⟨_, rfl, _, rfl, _, ha, rfl, d, W, rfl, h, by omega, e, ns, W.seen, rfl, he, by omega, hb', _, _, .refl, z⟩
abbrev sWSt : Stmt := inCls (top 40) 17
abbrev nWSt : List Str := ["self"]
theorem scWSt : FnScope nWSt ["self"] (defScope sWSt) := ⟨rfl, rfl, rfl, by decide +kernel, rfl, by decide +kernel, by decide +kernel⟩
inductive FWSt (C_World : Addr) (ds : List D) (μ : Sto) (Q : QD) (E : XD) : Prop
  | mk (d : D) (W : Wl) (a1 : ds = [d]) (a2 : WlAt C_World W d μ) (a3 : W.all.length ≤ 60) (a4 : W.seen.length ≤ 10) (a5 : bdS μ.length μ = true) (a6 : Q (.lst (stsD (allS W.seen))) μ) : FWSt C_World ds μ Q E
theorem FWSt.mono {C_World : Addr} : MonF (FWSt C_World) := fun ds μ Q Q' E E' h he q => match q with | .mk d W a1 a2 a3 a4 a5 a6 => .mk d W a1 a2 a3 a4 a5 (h _ _ a6)
theorem FWSt.len {C_World : Addr} : ∀ ds μ Q E, FWSt C_World ds μ Q E → ds.length = 1 := fun ds μ Q E q => by obtain ⟨_, _, e, _, _, _, _, _⟩ := q; rw [e]; rfl
theorem met_WSt (cWse : Met P w K mg base 1 C_World "seen" (FWl C_World Wl.seen) []) (cals : Cal P w K mg base 1 "all_states" FAlS []) {f : Addr} {fd : FuncData} {qual : Str} (T : NoB mg) (Fu : FunA K "states" qual sWSt f fd) (cC : Cls K C_World) (M : Meth K C_World "states" f) (hb : L2.Binds K fd ["self"] []) : Met P w K mg base 2 C_World "states" (FWSt C_World) [] := by
  have nd := scWSt.nd
  refine met_fun Fu scWSt cC M hb ?_ ?_ (fun cdv A outer s H E hG hr =>
    have hu : (cxOf (L2.CX P w) P w K mg base nWSt qual (defScope sWSt) f cdv A outer s H E).A.units + 64 < cLine := by have := hr.un; show (A.deeper _).units + 64 < _; omega
    have hv : (cxOf (L2.CX P w) P w K mg base nWSt qual (defScope sWSt) f cdv A outer s H E).A.units + 1 < cLine := by omega
    have tk := takes_of (X := cxOf (L2.CX P w) P w K mg base nWSt qual (defScope sWSt) f cdv A outer s H E) (E := E) rfl rfl rfl rfl
    have pw := passes_of (X := cxOf (L2.CX P w) P w K mg base nWSt qual (defScope sWSt) f cdv A outer s H E) rfl
    (ds_one (ds_ret (de_call cals hG hr (by decide) (by rfl) tk (da_cons (de_meth0 cWse hG hr (by decide) tk (de_var 0 rfl)) da_nil))))) ?_
  · exact FWSt.mono
  · exact FWSt.len
  · rintro ds μ Q E ⟨d, W, rfl, h, hl, hs, hb', z⟩
    obtain ⟨a, ha⟩ := id h
    exact ⟨_, rfl, _, ha, rfl, d, W, rfl, h, by omega, W.seen, rfl, hs, hb', _, _, .refl, z⟩
theorem opd_catC {X : Cx} : OpD X (binaryOp .Add) (fun x y μ Q => ∃ xs ys, asL μ x = some xs ∧ asL μ y = some ys ∧ gC (xs ++ ys) μ Q) := opd_catL.imp (fun x y μ Q Q' h ⟨xs, ys, e1, e2, q⟩ => ⟨xs, ys, e1, e2, gC_mono h q⟩) fun x y μ Q ⟨xs, ys, e1, e2, q⟩ => ⟨xs, ys, e1, e2, gC_new q⟩
/-- the list of the states, kept as a cell, behind what was needed on the way -/
inductive FAlSC (ds : List D) (μ : Sto) (Q : QD) (E : XD) : Prop
  | mk (ss : List Str) (a1 : ds = [.lst (ss.map .str)]) (a2 : ss.length ≤ 10) (a3 : bdS μ.length μ = true) (a4 : ∀ ν : Sto, bdS (μ ++ ν).length (μ ++ ν) = true → Q (.cell (μ ++ ν).length) ((μ ++ ν) ++ [.lst (stsD (allS ss))])) : FAlSC ds μ Q E
theorem FAlSC.mono  : MonF (FAlSC) := fun ds μ Q Q' E E' h he q => match q with | .mk ss a1 a2 a3 a4 => .mk ss a1 a2 a3 (by intros; apply h; apply a4 <;> assumption)
theorem FAlSC.len  : ∀ ds μ Q E, FAlSC ds μ Q E → ds.length = 1 := fun ds μ Q E q => by obtain ⟨_, e, _, _, _⟩ := q; rw [e]; rfl
theorem cal_alsC {f : Addr} {fd : FuncData} {qual : Str} (T : NoB mg) (Fu : Fun K "all_states" qual sAlS f fd) (hm : mg "all_states" = some (.ref f)) (hk : PySem.W.keepIn K (.ref f) = true) (hb : L2.Binds K fd ["seen"] []) : Cal P w K mg base 1 "all_states" FAlSC [] := by
  have nd := scAlS.nd
  refine cal_fun Fu scAlS hm hk hb ?_ ?_ (fun cdv A outer s H E hG hr =>
    have hu : (cxOf (L2.CX P w) P w K mg base nAlS qual (defScope sAlS) f cdv A outer s H E).A.units + 64 < cLine := by have := hr.un; show (A.deeper _).units + 64 < _; omega
    have hv : (cxOf (L2.CX P w) P w K mg base nAlS qual (defScope sAlS) f cdv A outer s H E).A.units + 1 < cLine := by omega
    have tk := takes_of (X := cxOf (L2.CX P w) P w K mg base nAlS qual (defScope sAlS) f cdv A outer s H E) (E := E) rfl rfl rfl rfl
    have pw := passes_of (X := cxOf (L2.CX P w) P w K mg base nAlS qual (defScope sAlS) f cdv A outer s H E) rfl
    (ds_cons (ds_set (i := 1) nd rfl (by first | exact .inl rfl | exact .inr rfl) (de_lstC (da_cons (de_tup da_nil) da_nil)))
      (ds_cons (ds_for pw rfl (di_seq (de_rev (de_var 0 rfl))) (dg_name (i := 2) nd rfl (by first | exact .inl rfl | exact .inr rfl)) (ds_one (ds_set (i := 1) nd rfl (by first | exact .inl rfl | exact .inr rfl) (de_op opd_catC (de_var 1 rfl) (de_lc (own := [("state", 3)]) rfl nd (di_seq (de_var 1 rfl)) (blkOk_by (N := nAlS) (sc := defScope sAlS) (by decide +kernel)) (fun _ _ _ _ _ => (dgw_name (i := 3) nd rfl (Or.inl rfl) (by decide))) (fun _ _ _ _ _ => dts_nil) (fun _ _ _ _ _ => (de_tup (da_cons (de_var 2 rfl) (da_star (de_var 3 rfl) da_nil)))))))))
      (ds_one (ds_ret (de_var 1 rfl)))))) ?_
  · exact FAlSC.mono
  · exact FAlSC.len
  · rintro ds μ Q E ⟨ss, rfl, hl, hb', z⟩
    have sz := sizeLine_eq
    refine ⟨by show 0 ≤ sizeLine; omega, by show 1 ≤ sizeLine; omega, ?_⟩
    refine ⟨_, rfl, ss.map .str, rfl, (ss.map D.str).reverse, rfl, fun i ρ' μ' => ∃ (v2 v3 : Option D) (ν : Sto), ρ' = [some (.lst (ss.map .str)), some (.cell (μ ++ ν).length), v2, v3] ∧ bdS (μ ++ ν).length (μ ++ ν) = true ∧ μ' = (μ ++ ν) ++ [.lst (stsD (allS ((ss.reverse.take i).reverse)))], ⟨_, _, [], by rw [List.append_nil]; rfl, by rw [List.append_nil]; exact hb', by rw [List.append_nil]; rfl⟩, fun _ _ _ _ => rfl, ?_, ?_⟩
    · rintro i x ρ' μ' hx ⟨v2, v3, ν, rfl, hbν, rfl⟩
      rw [← List.map_reverse, List.getElem?_map] at hx
      obtain ⟨s, hs, rfl⟩ := Option.map_eq_some_iff.mp hx
      have hi : i < 10 := by have := (List.getElem?_eq_some_iff.mp hs).1; rw [List.length_reverse] at this; omega
      generalize hT : allS ((ss.reverse.take i).reverse) = l
      have ll : l.length ≤ 1024 := by
        rw [← hT, allS_len, List.length_reverse, List.length_take]
        exact Nat.le_trans (Nat.pow_le_pow_right (by decide) (Nat.le_trans (Nat.min_le_left _ _) (Nat.le_of_lt hi))) (by decide)
      let M : Sto := (μ ++ ν) ++ [.lst (stsD l)]
      have gM : M[(μ ++ ν).length]? = some (.lst (stsD l)) := ap_get
      have bM : bdS M.length M = true := by rw [bdS_app, bdS_mono (by simp [M]) hbν]; show (bdL _ (stsD l) && true) = true; rw [stsD_bd]; rfl
      refine ⟨_, rfl, _, rfl, stsD l, asS_of gM, lc_pure (m := M) (pCo s) (fun c => asS_of (ga_app gM)) (fun x hx acc NX N0 n1 n2 => ?_) (by rw [List.length_map]; omega) (by rw [pCo_map]; exact stsD_bd) bM ?_⟩
      · obtain ⟨st, hst, rfl⟩ := List.mem_map.mp hx
        have ls : st.length ≤ 10 := by
          rw [← hT] at hst
          have := allS_mem hst
          rw [List.length_reverse, List.length_take] at this
          omega
        exact ⟨_, rfl, _, rfl, st.map .str, rfl, by rw [List.append_nil]; show (st.map D.str).length + 1 ≤ _; rw [List.length_map]; omega, n1 _ (by rw [List.append_nil]; rfl)⟩
      · rw [pCo_map]
        refine ⟨stsD l, stsD (l.map (s :: ·)), asL_of gM, rfl, by rw [List.length_append, List.length_map, List.length_map, List.length_map]; omega, ?_⟩
        have eA : stsD (l ++ l.map (s :: ·)) = stsD l ++ stsD (l.map (s :: ·)) := List.map_append
        have eM : μ ++ (ν ++ [CT.lst (stsD l)]) = M := (List.append_assoc ..).symm
        refine ⟨some (.str s), v3, ν ++ [.lst (stsD l)], ?_, by rw [eM]; exact bM, ?_⟩
        · rw [eM]; rfl
        · rw [eM, allS_rev hs, hT, eA]
    · rintro ρ' μ' ⟨v2, v3, ν, rfl, hbν, rfl⟩
      refine ⟨_, rfl, _, _, .refl, ?_⟩
      rw [List.length_reverse, List.length_map, ← List.length_reverse (as := ss), List.take_length, List.reverse_reverse]
      exact z ν hbν
inductive FWStC (C_World : Addr) (ds : List D) (μ : Sto) (Q : QD) (E : XD) : Prop
  | mk (d : D) (W : Wl) (a1 : ds = [d]) (a2 : WlAt C_World W d μ) (a3 : W.all.length ≤ 60) (a4 : W.seen.length ≤ 10) (a5 : bdS μ.length μ = true) (a6 : ∀ ν : Sto, bdS (μ ++ ν).length (μ ++ ν) = true → Q (.cell (μ ++ ν).length) ((μ ++ ν) ++ [.lst (stsD (allS W.seen))])) : FWStC C_World ds μ Q E
theorem FWStC.mono {C_World : Addr} : MonF (FWStC C_World) := fun ds μ Q Q' E E' h he q => match q with | .mk d W a1 a2 a3 a4 a5 a6 => .mk d W a1 a2 a3 a4 a5 (by intros; apply h; apply a6 <;> assumption)
theorem FWStC.len {C_World : Addr} : ∀ ds μ Q E, FWStC C_World ds μ Q E → ds.length = 1 := fun ds μ Q E q => by obtain ⟨_, _, e, _, _, _, _, _⟩ := q; rw [e]; rfl
theorem met_WStC (cWse : Met P w K mg base 1 C_World "seen" (FWl C_World Wl.seen) []) (calsC : Cal P w K mg base 1 "all_states" FAlSC []) {f : Addr} {fd : FuncData} {qual : Str} (T : NoB mg) (Fu : FunA K "states" qual sWSt f fd) (cC : Cls K C_World) (M : Meth K C_World "states" f) (hb : L2.Binds K fd ["self"] []) : Met P w K mg base 2 C_World "states" (FWStC C_World) [] := by
  have nd := scWSt.nd
  refine met_fun Fu scWSt cC M hb ?_ ?_ (fun cdv A outer s H E hG hr =>
    have hu : (cxOf (L2.CX P w) P w K mg base nWSt qual (defScope sWSt) f cdv A outer s H E).A.units + 64 < cLine := by have := hr.un; show (A.deeper _).units + 64 < _; omega
    have hv : (cxOf (L2.CX P w) P w K mg base nWSt qual (defScope sWSt) f cdv A outer s H E).A.units + 1 < cLine := by omega
    have tk := takes_of (X := cxOf (L2.CX P w) P w K mg base nWSt qual (defScope sWSt) f cdv A outer s H E) (E := E) rfl rfl rfl rfl
    have pw := passes_of (X := cxOf (L2.CX P w) P w K mg base nWSt qual (defScope sWSt) f cdv A outer s H E) rfl
    (ds_one (ds_ret (de_call calsC hG hr (by decide) (by rfl) tk (da_cons (de_meth0 cWse hG hr (by decide) tk (de_var 0 rfl)) da_nil))))) ?_
  · exact FWStC.mono
  · exact FWStC.len
  · rintro ds μ Q E ⟨d, W, rfl, h, hl, hs, hb', z⟩
    obtain ⟨a, ha⟩ := id h
    exact ⟨_, rfl, _, ha, rfl, d, W, rfl, h, by omega, W.seen, rfl, hs, hb', fun ν hν => ⟨_, _, .refl, z ν hν⟩⟩
abbrev sWRm : Stmt := inCls (top 40) 12
abbrev nWRm : List Str := ["self", "name"]
theorem scWRm : FnScope nWRm ["self", "name"] (defScope sWRm) := ⟨rfl, rfl, rfl, by decide +kernel, rfl, by decide +kernel, by decide +kernel⟩
inductive FWRm (C_World : Addr) (ds : List D) (μ : Sto) (Q : QD) (E : XD) : Prop
  | mk (n : Nat) (m : Nat) (W : Wl) (kd : List (Key × D)) (s : Str) (a1 : ds = [.cell n, .str s]) (a2 : μ[n]? = some (.ins C_World (wlF W m))) (a3 : μ[m]? = some (.dct kd)) (a4 : (valD kd (.inr s)).isSome = true) (a5 : Q .non (μ.set m (.dct (dropD kd (.inr s))))) : FWRm C_World ds μ Q E
theorem FWRm.mono {C_World : Addr} : MonF (FWRm C_World) := fun ds μ Q Q' E E' h he q => match q with | .mk n m W kd s a1 a2 a3 a4 a5 => .mk n m W kd s a1 a2 a3 a4 (h _ _ a5)
theorem FWRm.len {C_World : Addr} : ∀ ds μ Q E, FWRm C_World ds μ Q E → ds.length = 2 := fun ds μ Q E q => by obtain ⟨_, _, _, _, _, e, _, _, _, _⟩ := q; rw [e]; rfl
theorem met_WRm (na_actions : NoAttr K C_World ("_actions" : Str)) {f : Addr} {fd : FuncData} {qual : Str} (T : NoB mg) (Fu : FunA K "remove" qual sWRm f fd) (cC : Cls K C_World) (M : Meth K C_World "remove" f) (hb : L2.Binds K fd ["self", "name"] []) : Met P w K mg base 2 C_World "remove" (FWRm C_World) [] := by
  have nd := scWRm.nd
  refine met_fun Fu scWRm cC M hb ?_ ?_ (fun cdv A outer s H E hG hr =>
    have hu : (cxOf (L2.CX P w) P w K mg base nWRm qual (defScope sWRm) f cdv A outer s H E).A.units + 64 < cLine := by have := hr.un; show (A.deeper _).units + 64 < _; omega
    have hv : (cxOf (L2.CX P w) P w K mg base nWRm qual (defScope sWRm) f cdv A outer s H E).A.units + 1 < cLine := by omega
    have tk := takes_of (X := cxOf (L2.CX P w) P w K mg base nWRm qual (defScope sWRm) f cdv A outer s H E) (E := E) rfl rfl rfl rfl
    have pw := passes_of (X := cxOf (L2.CX P w) P w K mg base nWRm qual (defScope sWRm) f cdv A outer s H E) rfl
    (ds_cons (ds_if (dt_dnotin hv (de_var 1 rfl) (de_fld (de_var 0 rfl))) (ds_one ds_never) ds_nil)
      (ds_one (ds_del (de_fld (de_var 0 rfl)) (de_var 1 rfl))))) ?_
  · exact FWRm.mono
  · exact FWRm.len
  · rintro ds μ Q E ⟨n, m, W, kd, s, rfl, hn, hm', hs, z⟩
    have hi : asI μ (.cell n) = some (C_World, wlF W m) := by simp only [asI, hn]
    have hd : asD μ (.cell m) = some kd := by simp only [asD, hm']
    refine ⟨_, rfl, _, rfl, C_World, _, _, hi, cC, na_actions, rfl, kd, _, hd, rfl, _, rfl, iff_ (by show (!(valD kd (.inr s)).isSome) = false; rw [hs]; rfl) ?_⟩
    exact ⟨_, rfl, C_World, _, _, hi, cC, na_actions, rfl, _, rfl, m, kd, .inr s, rfl, hm', rfl, hs, _, _, .refl, z⟩
theorem asD_more {μ ν : Sto} {d : D} {kd : List (Key × D)} (h : asD μ d = some kd) : asD (μ ++ ν) d = some kd := by
  cases d with
  | cell n =>
    simp only [asD] at h ⊢
    split at h
    · rename_i k e; rw [ga_app e]; exact h
    · rename_i k e; rw [ga_app e]; exact h
    · cases h
  | _ => exact h
abbrev sWCp : Stmt := inCls (top 40) 13
abbrev nWCp : List Str := ["self", "twin"]
theorem scWCp : FnScope nWCp ["self"] (defScope sWCp) := ⟨rfl, rfl, rfl, by decide +kernel, rfl, by decide +kernel, by decide +kernel⟩
inductive FWCp (C_World : Addr) (ds : List D) (μ : Sto) (Q : QD) (E : XD) : Prop
  | mk (d : D) (W : Wl) (kd : List (Key × D)) (a1 : ds = [d]) (a2 : AcAt C_World W kd d μ) (a3 : WlN W) (a4 : W.all.length ≤ 60) (a5 : bdK μ.length kd = true) (a6 : bdS μ.length μ = true) (a7 : Q (.ins C_World (wlA W (.dct kd))) μ) : FWCp C_World ds μ Q E
theorem FWCp.mono {C_World : Addr} : MonF (FWCp C_World) := fun ds μ Q Q' E E' h he q => match q with | .mk d W kd a1 a2 a3 a4 a5 a6 a7 => .mk d W kd a1 a2 a3 a4 a5 a6 (h _ _ a7)
theorem FWCp.len {C_World : Addr} : ∀ ds μ Q E, FWCp C_World ds μ Q E → ds.length = 1 := fun ds μ Q E q => by obtain ⟨_, _, _, e, _, _, _, _, _, _⟩ := q; rw [e]; rfl
theorem wl_bd {C : Addr} {W : Wl} {kd : List (Key × D)} {n : Nat} (h : bdK n kd = true) : (D.ins C (wlA W (.dct kd))).bd n = true := by
  show (bdL n (W.fa.map D.str) && (bdL n (W.pi.map D.str) && (bdL n (W.re.map D.str) && (bdK n kd && true)))) = true
  rw [bdL_strs, bdL_strs, bdL_strs, h]; rfl
theorem met_WCp (na_facts : NoAttr K C_World ("_facts" : Str)) (na_piles : NoAttr K C_World ("_piles" : Str)) (na_reserves : NoAttr K C_World ("_reserves" : Str)) (na_actions : NoAttr K C_World ("_actions" : Str)) (cls_World : Cls K C_World) (cWo : Mak P w K mg base 5 "World" C_World (FWIni C_BadName C_NameInUse C_World) []) {f : Addr} {fd : FuncData} {qual : Str} (T : NoB mg) (Fu : FunA K "copy" qual sWCp f fd) (cC : Cls K C_World) (M : Meth K C_World "copy" f) (hb : L2.Binds K fd ["self"] []) : Met P w K mg base 7 C_World "copy" (FWCp C_World) [] := by
  have nd := scWCp.nd
  refine met_fun Fu scWCp cC M hb ?_ ?_ (fun cdv A outer s H E hG hr =>
    have hu : (cxOf (L2.CX P w) P w K mg base nWCp qual (defScope sWCp) f cdv A outer s H E).A.units + 64 < cLine := by have := hr.un; show (A.deeper _).units + 64 < _; omega
    have hv : (cxOf (L2.CX P w) P w K mg base nWCp qual (defScope sWCp) f cdv A outer s H E).A.units + 1 < cLine := by omega
    have tk := takes_of (X := cxOf (L2.CX P w) P w K mg base nWCp qual (defScope sWCp) f cdv A outer s H E) (E := E) rfl rfl rfl rfl
    have pw := passes_of (X := cxOf (L2.CX P w) P w K mg base nWCp qual (defScope sWCp) f cdv A outer s H E) rfl
    (ds_cons (ds_set (i := 1) nd rfl (by first | exact .inl rfl | exact .inr rfl) (de_make cWo hG hr (by decide) (by rfl) tk (da_cons (de_fld (de_var 0 rfl)) (da_cons (de_fld (de_var 0 rfl)) (da_cons (de_fld (de_var 0 rfl)) da_nil)))))
      (ds_cons (ds_fld (de_var 1 rfl) (de_callTy cad_dictD (by rfl) T.dict (by decide +kernel) (da_cons (de_fld (de_var 0 rfl)) da_nil)))
      (ds_one (ds_ret (de_var 1 rfl)))))) ?_
  · exact FWCp.mono
  · exact FWCp.len
  · rintro ds μ Q E ⟨d, W, kd, rfl, ⟨a, ha, hk⟩, wn, hl, bk, hb', z⟩
    have wb : fbad W.all = none := List.find?_eq_none.mpr fun s hs => by rw [NameOk.nameB (wn.ok s hs)]; simp
    have wd : fdup [] W.all = none := fdup_nd wn.nd (fun s _ h => by cases h)
    have wa : ∀ s ∈ W.all, Asc s ∧ s.length ≤ 100 := fun s hs => ⟨asc_name (wn.ok s hs), Nat.le_trans (wn.ok s hs).len (by decide)⟩
    refine ⟨_, rfl, C_World, _, _, ha, cls_World, na_facts, rfl, _, rfl, C_World, _, _, ha, cls_World, na_piles, rfl, _, rfl, C_World, _, _, ha, cls_World, na_reserves, rfl, ?_⟩
    refine winiC rfl rfl rfl wa (by omega) hb' wb wd ⟨rfl, _, _, .refl, ?_⟩
    refine ⟨_, rfl, C_World, _, _, asI_more ha, cls_World, na_actions, rfl, _, kd, rfl, asD_more hk, .inl ?_⟩
    refine ⟨_, rfl, μ.length, C_World, _, rfl, get2a, cls_World, na_actions, by show 4 < 1000; omega, ?_⟩
    refine ⟨_, rfl, _, μ, ?_, z⟩
    have e : (μ ++ [CT.ins C_World (wlF W (μ.length + 1)), .dct []]).set μ.length (.ins C_World (putD "_actions" (.dct kd) (wlF W (μ.length + 1)))) = (μ ++ [.ins C_World (wlA W (.dct kd))]) ++ [.dct []] := by
      rw [List.set_append_right _ _ (Nat.le_refl _), Nat.sub_self, List.append_assoc]; rfl
    rw [e]
    refine .drop (μ := μ ++ [.ins C_World (wlA W (.dct kd))]) (by simp) (by show decide (μ.length < _) = true; simp) ?_ (.ins (Nat.le_refl _) (wl_bd (C := C_World) bk) hb' .refl)
    rw [bdS_app, bdS_mono (by simp) hb', Bool.true_and]
    show (bdF _ (wlA W (.dct kd)) && true) = true
    have w2 : (D.ins C_World (wlA W (.dct kd))).bd (μ ++ [CT.ins C_World (wlA W (.dct kd))]).length = true := wl_bd (bdK_mono (by simp) bk)
    rw [show bdF (μ ++ [CT.ins C_World (wlA W (.dct kd))]).length (wlA W (.dct kd)) = true from w2]; rfl
def step1 (n : Str) (s : List Str) : List (List Str) := [s, s ++ [n]]
theorem allS_snoc (n : Str) : ∀ xs : List Str, (allS xs).flatMap (step1 n) = allS (xs ++ [n])
  | [] => rfl
  | a :: r => by
    show (allS r ++ (allS r).map (a :: ·)).flatMap (step1 n) = allS (r ++ [n]) ++ (allS (r ++ [n])).map (a :: ·)
    rw [List.flatMap_append, ← allS_snoc n r, List.flatMap_map, List.map_flatMap]
    rfl
abbrev sLSs : Stmt := top 70
abbrev nLSs : List Str := ["_law_w", "_law_found", "_law_name_here", "_law_larger", "_law_state"]
theorem scLSs : FnScope nLSs ["_law_w"] (defScope sLSs) := ⟨rfl, rfl, rfl, by decide +kernel, rfl, by decide +kernel, by decide +kernel⟩
inductive FLSs (ds : List D) (μ : Sto) (Q : QD) (E : XD) : Prop
  | mk (a : Nat) (b : D) (W : Wl) (a1 : ds = [.cell a]) (a2 : μ[a]? = some (.dct (lwK W b))) (a3 : W.all.length ≤ 60) (a4 : W.seen.length ≤ 10) (a5 : bdS μ.length μ = true) (a6 : Q (.lst (stsD (allS W.seen))) μ) : FLSs ds μ Q E
theorem FLSs.mono  : MonF (FLSs) := fun ds μ Q Q' E E' h he q => match q with | .mk a b W a1 a2 a3 a4 a5 a6 => .mk a b W a1 a2 a3 a4 a5 (h _ _ a6)
theorem FLSs.len  : ∀ ds μ Q E, FLSs ds μ Q E → ds.length = 1 := fun ds μ Q E q => by obtain ⟨_, _, _, e, _, _, _, _, _⟩ := q; rw [e]; rfl
theorem cal_lss (cLSe : Cal P w K mg base 1 "_law_seen" FLSe []) {f : Addr} {fd : FuncData} {qual : Str} (T : NoB mg) (Fu : Fun K "_law_states" qual sLSs f fd) (hm : mg "_law_states" = some (.ref f)) (hk : PySem.W.keepIn K (.ref f) = true) (hb : L2.Binds K fd ["_law_w"] []) : Cal P w K mg base 2 "_law_states" FLSs [] := by
  have nd := scLSs.nd
  refine cal_fun Fu scLSs hm hk hb ?_ ?_ (fun cdv A outer s H E hG hr =>
    have hu : (cxOf (L2.CX P w) P w K mg base nLSs qual (defScope sLSs) f cdv A outer s H E).A.units + 64 < cLine := by have := hr.un; show (A.deeper _).units + 64 < _; omega
    have hv : (cxOf (L2.CX P w) P w K mg base nLSs qual (defScope sLSs) f cdv A outer s H E).A.units + 1 < cLine := by omega
    have tk := takes_of (X := cxOf (L2.CX P w) P w K mg base nLSs qual (defScope sLSs) f cdv A outer s H E) (E := E) rfl rfl rfl rfl
    have pw := passes_of (X := cxOf (L2.CX P w) P w K mg base nLSs qual (defScope sLSs) f cdv A outer s H E) rfl
    (ds_cons (ds_set (i := 1) nd rfl (by first | exact .inl rfl | exact .inr rfl) (de_lstC (da_cons (de_tup da_nil) da_nil)))
      (ds_cons (ds_for pw rfl (di_seq (de_call cLSe hG hr (by decide) (by rfl) tk (da_cons (de_var 0 rfl) da_nil))) (dg_name (i := 2) nd rfl (by first | exact .inl rfl | exact .inr rfl)) (ds_cons (ds_set (i := 3) nd rfl (by first | exact .inl rfl | exact .inr rfl) (de_lstC da_nil))
      (ds_cons (ds_for pw rfl (di_seq (de_var 1 rfl)) (dg_name (i := 4) nd rfl (by first | exact .inl rfl | exact .inr rfl)) (ds_one (ds_expr (de_bmL PySem.F.plainAttrs_list PySem.F.slot_list_extend PySem.F.type_list_extend mtd_extend (de_var 3 rfl) (da_cons (de_lstD (da_cons (de_var 4 rfl) (da_cons (de_op opd_catT (de_var 4 rfl) (de_tup (da_cons (de_var 2 rfl) da_nil))) da_nil))) da_nil)))))
      (ds_one (ds_set (i := 1) nd rfl (by first | exact .inl rfl | exact .inr rfl) (de_var 3 rfl))))))
      (ds_one (ds_ret (de_var 1 rfl)))))) ?_
  · exact FLSs.mono
  · exact FLSs.len
  · rintro ds μ Q E ⟨a, b, W, rfl, ha, hl, hs, hb', z⟩
    have sz := sizeLine_eq
    let M : Sto → List (List Str) → Sto := fun ν l => (μ ++ ν) ++ [.lst (stsD l)]
    refine ⟨by show 0 ≤ sizeLine; omega, by show 1 ≤ sizeLine; omega, ?_⟩
    refine ⟨_, rfl, a, b, W, rfl, ga_app ha, by omega, W.seen.map .str, rfl, fun i ρ' μ' => ∃ (v2 v3 v4 : Option D) (ν : Sto), ρ' = [some (.cell a), some (.cell (μ ++ ν).length), v2, v3, v4] ∧ bdS (μ ++ ν).length (μ ++ ν) = true ∧ μ' = M ν (allS (W.seen.take i)), ⟨_, _, _, [], by rw [List.append_nil]; rfl, by rw [List.append_nil]; exact hb', by show _ = (μ ++ []) ++ _; rw [List.append_nil]; rfl⟩, fun _ _ _ _ => rfl, ?_, ?_⟩
    · rintro i x ρ' μ' hx ⟨v2, v3, v4, ν, rfl, hbν, rfl⟩
      rw [List.getElem?_map] at hx
      obtain ⟨s, hsi, rfl⟩ := Option.map_eq_some_iff.mp hx
      have hi : i < 10 := by have := (List.getElem?_eq_some_iff.mp hsi).1; omega
      have eT : allS (W.seen.take (i + 1)) = (allS (W.seen.take i)).flatMap (step1 s) := by rw [allS_snoc, List.take_add_one, hsi]; rfl
      have lmem : ∀ u ∈ allS (W.seen.take i), u.length ≤ 10 := fun u hu => by have := allS_mem hu; rw [List.length_take] at this; omega
      have ll0 : (allS (W.seen.take i)).length ≤ 1024 := by
        rw [allS_len, List.length_take]
        exact Nat.le_trans (Nat.pow_le_pow_right (by decide) (Nat.le_trans (Nat.min_le_left _ _) (Nat.le_of_lt hi))) (by decide)
      generalize allS (W.seen.take i) = l at lmem ll0 eT ⊢
      refine ⟨by show 0 ≤ sizeLine; omega, ?_⟩
      have gM : (M ν l)[(μ ++ ν).length]? = some (.lst (stsD l)) := ap_get
      refine ⟨_, rfl, stsD l, asS_of (ga_app gM), fun j ρ' μ' => ∃ v4 : Option D, ρ' = [some (.cell a), some (.cell (μ ++ ν).length), some (.str s), some (.cell (M ν l).length), v4] ∧ μ' = M ν l ++ [.lst (stsD ((l.take j).flatMap (step1 s)))], ⟨_, rfl, rfl⟩, fun j ρ' μ' ⟨_, _, e⟩ => by rw [e]; exact asS_of (ga_app gM), ?_, ?_⟩
      · rintro j y ρ' μ' hy ⟨v4, rfl, rfl⟩
        rw [List.getElem?_map] at hy
        obtain ⟨u, hu, rfl⟩ := Option.map_eq_some_iff.mp hy
        have lu := lmem u (List.mem_of_getElem? hu)
        have hj : j < l.length := (List.getElem?_eq_some_iff.mp hu).1
        have gL : (M ν l ++ [CT.lst (stsD ((l.take j).flatMap (step1 s)))])[(M ν l).length]? = some (.lst (stsD ((l.take j).flatMap (step1 s)))) := ap_get
        have lf : ((l.take j).flatMap (step1 s)).length ≤ 2048 := by
          rw [List.length_flatMap]
          have : ((l.take j).map fun u => (step1 s u).length) = (l.take j).map fun _ => 2 := rfl
          rw [this, List.map_const', List.sum_replicate_nat, List.length_take]; omega
        refine ⟨_, rfl, ⟨_, asL_of gL⟩, _, rfl, _, rfl, _, rfl, by show 1 ≤ sizeLine; omega, u.map .str, [.str s], rfl, rfl, by rw [List.length_map]; show _ + 1 ≤ _; omega, by show 2 ≤ sizeLine; omega, _, _, _, _, rfl, rfl, gL, rfl, by rw [List.length_map]; show _ + 2 ≤ _; omega, ?_⟩
        refine ⟨_, rfl, ?_⟩
        rw [ap_set]
        have e2 : (l.take (j + 1)).flatMap (step1 s) = (l.take j).flatMap (step1 s) ++ [u, u ++ [s]] := by rw [List.take_add_one, hu, List.flatMap_append]; rfl
        rw [e2]
        have e3 : stsD ((l.take j).flatMap (step1 s) ++ [u, u ++ [s]]) = stsD ((l.take j).flatMap (step1 s)) ++ [stD u, stD (u ++ [s])] := List.map_append
        have e4 : stD (u ++ [s]) = .tup (u.map D.str ++ [.str s]) := by show D.tup ((u ++ [s]).map D.str) = _; rw [List.map_append]; rfl
        rw [e3, e4]
      · rintro ρ' μ' ⟨v4, rfl, rfl⟩
        have eM : μ ++ (ν ++ [CT.lst (stsD l)]) = M ν l := (List.append_assoc ..).symm
        have bM : bdS (M ν l).length (M ν l) = true := by rw [bdS_app, bdS_mono (by simp [M]) hbν]; show (bdL _ (stsD l) && true) = true; rw [stsD_bd]; rfl
        refine ⟨_, rfl, some (.str s), some (.cell (M ν l).length), v4, ν ++ [.lst (stsD l)], ?_, by rw [eM]; exact bM, ?_⟩
        · rw [eM]; rfl
        · show _ = (μ ++ (ν ++ [CT.lst (stsD l)])) ++ [CT.lst (stsD (allS (W.seen.take (i + 1))))]
          rw [eM, List.length_map, List.take_length, eT]
    · rintro ρ' μ' ⟨v2, v3, v4, ν, rfl, hbν, rfl⟩
      have e : W.seen.take (W.seen.map D.str).length = W.seen := by rw [List.length_map, List.take_length]
      rw [e]
      exact ⟨_, rfl, _, _, .lst (μ := μ ++ ν) (by simp) stsD_bd hbν (.drop (Nat.le_refl _) stsD_bd hb' .refl), z⟩

end
end Dl

/-! xs != [], xs == [], whatever xs holds; [x] * n -/
namespace Dl
open PySem PySem.Spec L2
open PyProof.Rows hiding St Binds
section
variable {X : Cx}
def neE : G2 := fun x y μ Q => ∃ ds, asL μ x = some ds ∧ asL μ y = some [] ∧ Q (.bl (!ds.isEmpty)) μ
theorem opd_neE (hu : X.A.units + 64 < cLine) : OpD X (compareOp .NotEq) neE :=
  ⟨fun x y μ Q Q' h ⟨ds, e1, e2, z⟩ => ⟨ds, e1, e2, h _ _ z⟩,
    fun x y H Q => ∃ (p q : Addr) (vs : List V), x = .ref p ∧ y = .ref q ∧ SqL X.K H p vs ∧ SqL X.K H q [] ∧ Q (.bl (!vs.isEmpty)) H,
    fun pins s σ H x y v u Q I rx ry ⟨p, q, vs, ex, ey, hp, hq, z⟩ => by
      subst ex ey
      cases rx
      cases ry
      obtain ⟨its, r, pl, _⟩ := I.list hp
      obtain ⟨its2, r2, pl2, _⟩ := I.list hq
      cases r2
      cases vs with
      | nil =>
        cases r
        exact SeqAt.RcNeAt.lists (e := fun _ => true) pl.isList pl2.isList rfl (by omega) (fun j h1 _ => absurd h1 (by simp)) X.prog X.w X.xe _ ⟨.bl _, H, I, rfl, z⟩
      | cons v vs =>
        have hl := r.length
        exact SeqAt.RcNeAt.lists_lengths pl.isList pl2.isList (by simp; intro e; rw [e] at hl; simp at hl) (by omega) X.prog X.w X.xe _ ⟨.bl _, H, I, rfl, z⟩,
    fun ι H μ x y dx dy Q r a b ⟨ds, e1, e2, z⟩ => by
      obtain ⟨p, vs, rfl, h1, r1⟩ := asL_at r a e1
      obtain ⟨q, us, rfl, h2, r2⟩ := asL_at r b e2
      cases Ats.unnil r2
      have e : vs.isEmpty = ds.isEmpty := by
        have := r1.1
        cases vs <;> cases ds <;> first | rfl | simp at this
      exact ⟨p, q, vs, rfl, rfl, SqL.of h1, SqL.of h2, by rw [e]; exact z ι H _ (Gr.refl _ _) r (.bl _)⟩⟩
def repD : G2 := fun x y μ Q => ∃ xs k, y = .int k ∧ asL μ x = some xs ∧ -(2 ^ 63) ≤ k ∧ k < 2 ^ 63 ∧ xs.length * k.toNat ≤ sizeLine ∧ gD (List.replicate k.toNat xs).flatten μ Q
theorem opd_repD : OpD X (binaryOp .Mult) repD := opd_repL.imp (fun x y μ Q Q' h ⟨xs, k, e1, e2, c1, c2, c3, q⟩ => ⟨xs, k, e1, e2, c1, c2, c3, gD_mono h q⟩) fun x y μ Q ⟨xs, k, e1, e2, c1, c2, c3, q⟩ => ⟨xs, k, e1, e2, c1, c2, c3, gD_new q⟩
end
end Dl

namespace Dl
open PySem PySem.Spec L2
open PyProof.Rows hiding St Binds
section
variable {P : Program} {w : World} {K : PySem.W.Frag} {mg : Str → Option Value} {base : Heap} {C_BadName C_BadChange C_NameInUse C_Outcome C_Action C_Condition C_World : Addr}
/-! ### states shown -/
abbrev stP (s : List Str) : PyData := .tuple (s.map .str)
theorem stD_py (s : List Str) : (stD s).py = some (stP s) := by
  show (pyAll (s.map D.str)).map PyData.tuple = _
  rw [py_strs]; rfl
theorem stD_pyS {μ : Sto} (s : List Str) : pyS μ (stD s) = some (stP s) := stD_py s
theorem ixN_0 (n : Nat) : L2.ixN (n + 1) 0 = some 0 := by
  unfold L2.ixN
  rw [if_pos (by decide), if_pos (by simp)]; rfl
theorem stsD_py : ∀ l : List (List Str), pyAll (stsD l) = some (l.map stP)
  | [] => rfl
  | s :: l => by
    show (match (stD s).py, pyAll (stsD l) with | some p, some ps => some (p :: ps) | _, _ => none) = _
    rw [stD_py, stsD_py l]; rfl
theorem stsD_pyS {μ : Sto} : ∀ l : List (List Str), pyAllS μ (stsD l) = some (l.map stP)
  | [] => rfl
  | s :: l => pyAllS_c (stD_py s) (stsD_pyS l)
/-- states of few short names -/
def Few (l : List (List Str)) : Prop := l.length ≤ 64 ∧ ∀ s ∈ l, s.length ≤ 10 ∧ ∀ n ∈ s, NameOk n
theorem itm_st {s : List Str} (h : s.length ≤ 10 ∧ ∀ n ∈ s, NameOk n) : Itm 100 (stP s) ∧ (stP s).depth ≤ 2 := by
  obtain ⟨h1, h2, h3⟩ := show_strs s
  refine ⟨⟨h1, h2, leaves_strs fun n hn => asc_name (h.2 n hn), ?_, ?_⟩, ?_⟩
  · have := weight_strs (ss := s) (n := 8) fun n hn => (h.2 n hn).len
    show PyData.weightAll (s.map .str) ≤ 100
    omega
  · simp only [stP, PyData.depth, h3]; decide
  · simp only [stP, PyData.depth, h3]; decide
theorem okR_sts {l : List (List Str)} (h : Few l) : okR (.list (l.map stP)) := okR_items (n := 100) (fun p hp => by
  obtain ⟨s, hs, rfl⟩ := List.mem_map.mp hp
  exact (itm_st (h.2 s hs)).1) (by rw [List.length_map]; have := h.1; omega)
theorem itm_sts {l : List (List Str)} (h : Few l) : Itm 10000 (.list (l.map stP)) := itm_list (n := 100) (fun p hp => by
  obtain ⟨s, hs, rfl⟩ := List.mem_map.mp hp
  exact itm_st (h.2 s hs)) (by rw [List.length_map]; have := h.1; omega)
theorem allS_sub : ∀ {ss s : List Str}, s ∈ allS ss → s.Sublist ss
  | [], s, h => by rw [List.mem_singleton.mp h]; exact .refl _
  | a :: r, s, h => by
    rcases List.mem_append.mp h with h | h
    · exact (allS_sub h).cons a
    · obtain ⟨u, hu, rfl⟩ := List.mem_map.mp h
      exact (allS_sub hu).cons_cons a
theorem filter_sub : ∀ {ss s : List Str}, s.Sublist ss → ss.Nodup → (ss.filter fun n => decide (n ∈ s)) = s := fun {ss s} h => by
  induction h with
  | slnil => intro _; rfl
  | @cons l1 l2 a h ih =>
    intro nd
    have na : a ∉ l1 := fun m => (List.nodup_cons.mp nd).1 (h.subset m)
    rw [List.filter_cons, if_neg (by simpa using na)]
    exact ih (List.nodup_cons.mp nd).2
  | @cons_cons l1 l2 a h ih =>
    intro nd
    rw [List.filter_cons, if_pos (by simp)]
    have e : (l2.filter fun n => decide (n ∈ a :: l1)) = l2.filter fun n => decide (n ∈ l1) := List.filter_congr fun n hn => by
      have : n ≠ a := fun e => (List.nodup_cons.mp nd).1 (e ▸ hn)
      simp [this]
    rw [e, ih (List.nodup_cons.mp nd).2]
theorem cnt_nd : ∀ {xs : List Str}, xs.Nodup → cnt xs = xs.length
  | [], _ => rfl
  | x :: xs, nd => by
    unfold cnt
    rw [if_neg (List.nodup_cons.mp nd).1, cnt_nd (List.nodup_cons.mp nd).2]; rfl
theorem st_ok {ss s ys : List Str} (nd : ss.Nodup) (h : s.Sublist ss) (p : ys.Perm s) : someB ys ss = true ∧ inOrd ys ss = s := by
  refine ⟨?_, ?_⟩
  · unfold someB
    rw [Bool.and_eq_true]
    refine ⟨List.all_eq_true.mpr fun b hb => ?_, decide_eq_true (cnt_nd (p.nodup_iff.mpr (h.nodup nd)))⟩
    obtain ⟨y, hy, rfl⟩ := List.mem_map.mp hb
    exact decide_eq_true (h.subset (p.mem_iff.mp hy))
  · unfold inOrd
    have e : (ss.filter fun n => decide (n ∈ ys)) = ss.filter fun n => decide (n ∈ s) := List.filter_congr fun n _ => decide_eq_decide.mpr p.mem_iff
    rw [e]; exact filter_sub h nd
inductive FMixedT (ds : List D) (μ : Sto) (Q : QD) (E : XD) : Prop
  | mk (S : Dr) (xs : List D) (rest : Sto) (a1 : ds = [.cell 1, .tup xs]) (a2 : xs.length ≤ 1000) (a3 : bdL 2 xs = true) (a4 : S.ok) (a5 : S.t + xs.length < 1000000) (a6 : okRest rest) (a7 : μ = S.sto rest) (a8 : ∀ (ys : List D) (S' : Dr), ys.Perm xs → S'.ok → S'.t = S.t + xs.length → Q (.lst ys) (S'.sto rest)) : FMixedT ds μ Q E
theorem FMixedT.mono  : MonF (FMixedT) := fun ds μ Q Q' E E' h he q => match q with | .mk S xs rest a1 a2 a3 a4 a5 a6 a7 a8 => .mk S xs rest a1 a2 a3 a4 a5 a6 a7 (by intros; apply h; apply a8 <;> assumption)
theorem FMixedT.len  : ∀ ds μ Q E, FMixedT ds μ Q E → ds.length = 2 := fun ds μ Q E q => by obtain ⟨_, _, _, e, _, _, _, _, _, _, _⟩ := q; rw [e]; rfl
theorem cal_mixedT (cD : Cal P w K mg base 1 "_law_draw" FDraw []) {f : Addr} {fd : FuncData} {qual : Str} (T : NoB mg) (Fu : Fun K "_law_mixed" qual sMixed f fd) (hm : mg "_law_mixed" = some (.ref f)) (hk : PySem.W.keepIn K (.ref f) = true) (hb : L2.Binds K fd ["_law_stream", "_law_some"] []) : Cal P w K mg base 2 "_law_mixed" FMixedT [] := by
  have nd := scMixed.nd
  refine cal_fun Fu scMixed hm hk hb ?_ ?_ (fun cdv A outer s H E hG hr =>
    have hu : (cxOf (L2.CX P w) P w K mg base nMixed qual (defScope sMixed) f cdv A outer s H E).A.units + 64 < cLine := by have := hr.un; show (A.deeper _).units + 64 < _; omega
    have hv : (cxOf (L2.CX P w) P w K mg base nMixed qual (defScope sMixed) f cdv A outer s H E).A.units + 1 < cLine := by omega
    have tk := takes_of (X := cxOf (L2.CX P w) P w K mg base nMixed qual (defScope sMixed) f cdv A outer s H E) (E := E) rfl rfl rfl rfl
    have pw := passes_of (X := cxOf (L2.CX P w) P w K mg base nMixed qual (defScope sMixed) f cdv A outer s H E) rfl
    (ds_cons (ds_set (i := 2) nd rfl (by first | exact .inl rfl | exact .inr rfl) (de_callTy cad_listC' (by rfl) T.list (by decide +kernel) (da_cons (de_var 1 rfl) da_nil)))
      (ds_one (ds_ret (de_lc (own := [("_law_k", 3)]) rfl nd (di_rng1 (by rfl) T.range (da_cons (de_callB cad_len (by rfl) T.len (by decide +kernel) (da_cons (de_var 2 rfl) da_nil)) da_nil)) (blkOk_by (N := nMixed) (sc := defScope sMixed) (by decide +kernel)) (fun _ _ _ _ _ => (dgw_name (i := 3) nd rfl (Or.inl rfl) (by decide))) (fun _ _ _ _ _ => dts_nil) (fun _ _ _ _ _ => (de_bmL PySem.F.plainAttrs_list PySem.F.slot_list_pop PySem.F.type_list_pop mtd_popAt (de_var 2 rfl) (da_cons (de_call cD hG hr (by decide) (by rfl) takesNW (da_cons (de_var 0 rfl) (da_cons (de_callB cad_len (by rfl) T.len (by decide +kernel) (da_cons (de_var 2 rfl) da_nil)) da_nil))) da_nil)))))))) ?_
  · exact FMixedT.mono
  · exact FMixedT.len
  · rintro ds μ Q E ⟨S, xs, rest, rfl, hl, hb, ok, tl, okr, rfl, z⟩
    have sz := sizeLine_eq
    refine ⟨_, rfl, _, xs, rfl, rfl, by omega, ?_⟩
    rw [sto_app]
    refine ⟨_, rfl, .inr ⟨_, xs, rfl, asS_of (get_a rfl), _, rfl, by omega, by omega, fun i μ' => ∃ (S' : Dr) (acc left : List D), S'.ok ∧ S'.t = S.t + i ∧ i + left.length = xs.length ∧ acc.length = i ∧ (acc ++ left).Perm xs ∧ μ' = S'.sto (rest ++ [.lst left, .lst acc]), ?_, fun _ _ _ => trivial, ?_, ?_⟩⟩
    · exact ⟨S, [], xs, ok, by simp, by simp, rfl, .refl _, sto_app2⟩
    · rintro i x μ' hx ⟨S', acc, left, ok', t', l1, l2, pm, rfl⟩
      have hi : i < xs.length := by
        have := (List.getElem?_eq_some_iff.mp hx).1
        simpa using this
      refine ⟨_, rfl, ⟨left, asL_of (get_ab rfl)⟩, _, rfl, _, rfl, .inr ⟨_, left, rfl, asS_of (get_ab rfl), S', _, _, rfl, by omega, by omega, ok', by omega, rfl, fun r S2 r0 r1 ok2 t2 => ?_⟩⟩
      have hr : r.toNat < left.length := by omega
      refine ⟨_, left, r, r.toNat, left[r.toNat], rfl, rfl, get_ab rfl, by omega, by omega, ix_nn r0 r1, List.getElem?_eq_getElem hr, ?_⟩
      have s1 := set_ab (S := S2) (a := .lst left) (b := .lst acc) (c := .lst (left.eraseIdx r.toNat)) (n := (S.sto rest).length) sto_len
      have nl : (S.sto (rest ++ [CT.lst xs])).length = rest.length + 3 := by rw [sto_len]; simp
      rw [s1]
      refine ⟨acc, get_bb nl, by omega, ?_⟩
      have s2 := set_bb (S := S2) (a := .lst (left.eraseIdx r.toNat)) (b := .lst acc) (c := .lst (acc ++ [left[r.toNat]])) nl
      rw [s2]
      refine ⟨S2, acc ++ [left[r.toNat]], left.eraseIdx r.toNat, ok2, by omega, ?_, by simp [l2], ?_, rfl⟩
      · rw [List.length_eraseIdx_of_lt hr]; omega
      · rw [List.append_assoc]
        exact (List.Perm.append_left acc (perm_erase left r.toNat hr)).trans pm
    · rintro μ' ⟨S', acc, left, ok', t', l1, l2, pm, rfl⟩
      have le : left = [] := by have := l1; simp at this; first | exact this | exact List.eq_nil_of_length_eq_zero (by omega)
      have pmx : acc.Perm xs := by have := pm; rw [le, List.append_nil] at this; exact this
      have bacc : bdL 2 acc = true := bdL_all.mpr fun d h => bdL_all.mp hb d (pm.mem_iff.mp (List.mem_append_left _ h))
      have bleft : bdL 2 left = true := bdL_all.mpr fun d h => bdL_all.mp hb d (pm.mem_iff.mp (List.mem_append_right _ h))
      have okr1 : okRest (rest ++ [.lst left]) := okr.add (bdL_mono (by omega) bleft)
      refine ⟨_, S'.sto (rest ++ [.lst left]), ?_, _, S'.sto rest, .drop (μ := S'.sto rest) (by rw [sto_len, sto_len]; omega) (bd_lst (bdL_mono (by rw [sto_len]; omega) bacc)) okr.sto .refl, z acc S' pmx ok' (by simp at t'; omega)⟩
      have e : (S.sto (rest ++ [CT.lst xs])).length = (S'.sto (rest ++ [CT.lst left])).length := by rw [sto_len, sto_len]; simp
      rw [e, ← sto_app2]
      exact .lst (Nat.le_refl _) (bdL_mono (by rw [sto_len]; omega) bacc) okr1.sto .refl
theorem asc_d {s : Str} (h : (s.cps.toList.all fun c => decide (c < 127)) = true) : Asc s := fun c hc => Nat.lt_trans (of_decide_eq_true (List.all_eq_true.mp h c hc)) (by decide)
theorem Tr.d_bd {n : Nat} : ∀ t : Tr, t.d.bd n = true
  | .is _ => rfl
  | .al => rfl
  | .nv => rfl
  | .no t => by show (true && (t.d.bd n && true)) = true; rw [Tr.d_bd t]; rfl
  | .an a b => by show (true && (a.d.bd n && (b.d.bd n && true))) = true; rw [Tr.d_bd a, Tr.d_bd b]; rfl
  | .or a b => by show (true && (a.d.bd n && (b.d.bd n && true))) = true; rw [Tr.d_bd a, Tr.d_bd b]; rfl
theorem laD_bd {W : Wl} {n : Nat} {s : Str} {t : Tr} {os : List Es} (h : LaOk W t os) : (laD s t os).bd n = true := by
  show (true && (t.d.bd n && (bdL n (os.map fun es => D.dct (esK es)) && true))) = true
  rw [Tr.d_bd, esK_bdL h.fits]; rfl
theorem laL_bd {W : Wl} {n : Nat} {as : List La} (h : LwOk W as) : bdL n (laL as) = true := bdL_all.mpr fun d hd => by
  obtain ⟨q, hq, rfl⟩ := List.mem_map.mp hd
  exact laD_bd (h.ok q hq).2.2.2.1
theorem okRest_of {S : Dr} {rest : Sto} (h : bdS (S.sto rest).length (S.sto rest) = true) : okRest rest := by
  have h2 : (CT.bd _ _ && (CT.bd _ _ && bdS (rest.length + 2) rest)) = true := h
  rw [Bool.and_eq_true, Bool.and_eq_true] at h2
  exact h2.2.2
theorem rng_get' {n : Int} {k : Nat} {x : D} (h : ((List.range n.toNat).map fun (i : Nat) => D.int (0 + (i : Int)))[k]? = some x) : k < n.toNat ∧ x = .int (k : Nat) := by
  rw [List.getElem?_map] at h
  obtain ⟨j, hj, rfl⟩ := Option.map_eq_some_iff.mp h
  obtain ⟨h1, h2⟩ := List.getElem?_eq_some_iff.mp hj
  simp at h1 h2
  subst h2
  exact ⟨by omega, by simp⟩
abbrev oneTwo : List Str := ["one", "two"]
theorem oneTwo_ok : ∀ s ∈ oneTwo, nameB s = true ∧ Asc s ∧ s.length ≤ 100 := fun s hs => by
  simp only [List.mem_cons, List.not_mem_nil, or_false] at hs
  rcases hs with rfl | rfl
  · exact ⟨by decide +kernel, asc_d (by decide +kernel), by decide⟩
  · exact ⟨by decide +kernel, asc_d (by decide +kernel), by decide⟩
abbrev sLaw : Stmt := top 71
abbrev nLaw : List Str := ["_law_script", "_law_stream", "_law_sizes", "_law_w", "_law_k", "_law_world", "_law_due", "_law_told", "_law_state", "_law_passed"]
theorem scLaw : FnScope nLaw ["_law_script"] (defScope sLaw) := ⟨rfl, rfl, rfl, by decide +kernel, rfl, by decide +kernel, by decide +kernel⟩
inductive FLaw (ds : List D) (μ : Sto) (Q : QD) (E : XD) : Prop
  | mk (ns : List Int) (a1 : ds = [.fzl (ns.map .int)]) (a2 : ns.length ≤ 63) (a3 : μ = []) (a4 : ∀ μ', Q (.bl true) μ') : FLaw ds μ Q E
theorem FLaw.mono  : MonF (FLaw) := fun ds μ Q Q' E E' h he q => match q with | .mk ns a1 a2 a3 a4 => .mk ns a1 a2 a3 (by intros; apply h; apply a4 <;> assumption)
theorem FLaw.len  : ∀ ds μ Q E, FLaw ds μ Q E → ds.length = 1 := fun ds μ Q E q => by obtain ⟨_, e, _, _, _⟩ := q; rw [e]; rfl
theorem cal_law (cD : Cal P w K mg base 1 "_law_draw" FDraw []) (cP : Cal P w K mg base 2 "_law_pick" FPick []) (cmixedT : Cal P w K mg base 2 "_law_mixed" FMixedT []) (cSm : Cal P w K mg base 1 "_law_same" FSame [])
    (cLLi : Cal P w K mg base 4 "_law_lists" FLLi []) (cLAc : Cal P w K mg base 8 "_law_action" FLAc []) (cLMa : Cal P w K mg base 13 "_law_made" (FLMa C_World C_Outcome C_Action C_Condition) []) (cLSs : Cal P w K mg base 2 "_law_states" FLSs [])
    (cWSt : Met P w K mg base 2 C_World "states" (FWSt C_World) []) (cWStC : Met P w K mg base 2 C_World "states" (FWStC C_World) []) (cWSo : Met P w K mg base 2 C_World "state_of" (FWSo C_World) []) (cWRm : Met P w K mg base 2 C_World "remove" (FWRm C_World) []) (cWCp : Met P w K mg base 7 C_World "copy" (FWCp C_World) [])
    {f : Addr} {fd : FuncData} {qual : Str} (T : NoB mg) (Fu : Fun K "law" qual sLaw f fd) (hm : mg "law" = some (.ref f)) (hk : PySem.W.keepIn K (.ref f) = true) (hb : L2.Binds K fd ["_law_script"] []) : FnG P w K mg base (L2.CX P w) 15 f fd ["_law_script"] (spD K FLaw) := by
  have nd := scLaw.nd
  refine fn_body (anyFun Fu) scLaw ?_ (fun cdv A outer s H E hG hr =>
    have hu : (cxOf (L2.CX P w) P w K mg base nLaw qual (defScope sLaw) f cdv A outer s H E).A.units + 64 < cLine := by have := hr.un; show (A.deeper _).units + 64 < _; omega
    have hv : (cxOf (L2.CX P w) P w K mg base nLaw qual (defScope sLaw) f cdv A outer s H E).A.units + 1 < cLine := by omega
    have tk := takes_of (X := cxOf (L2.CX P w) P w K mg base nLaw qual (defScope sLaw) f cdv A outer s H E) (E := E) rfl rfl rfl rfl
    have pw := passes_of (X := cxOf (L2.CX P w) P w K mg base nLaw qual (defScope sLaw) f cdv A outer s H E) rfl
    (ds_cons (ds_set (i := 1) nd rfl (by first | exact .inl rfl | exact .inr rfl) (de_lstC (da_cons (de_callTy cad_listZ (by rfl) T.list (by decide +kernel) (da_cons (de_var 0 rfl) da_nil)) (da_cons de_int (da_cons de_int (da_cons de_int da_nil))))))
      (ds_cons (ds_set (i := 2) nd rfl (by first | exact .inl rfl | exact .inr rfl) (de_call cP hG hr (by decide) (by rfl) tk (da_cons (de_var 1 rfl) (da_cons (de_lstD (da_cons (de_lstD (da_cons de_int (da_cons de_int (da_cons de_int da_nil)))) (da_cons (de_lstD (da_cons de_int (da_cons de_int (da_cons de_int da_nil)))) (da_cons (de_lstD (da_cons de_int (da_cons de_int (da_cons de_int da_nil)))) (da_cons (de_lstD (da_cons de_int (da_cons de_int (da_cons de_int da_nil)))) (da_cons (de_lstD (da_cons de_int (da_cons de_int (da_cons de_int da_nil)))) (da_cons (de_lstD (da_cons de_int (da_cons de_int (da_cons de_int da_nil)))) da_nil))))))) da_nil))))
      (ds_cons (ds_set (i := 3) nd rfl (by first | exact .inl rfl | exact .inr rfl) (de_call cLLi hG hr (by decide) (by rfl) tk (da_cons (de_var 1 rfl) (da_cons (de_ixL (de_var 2 rfl) de_int) (da_cons (de_ixL (de_var 2 rfl) de_int) (da_cons (de_ixL (de_var 2 rfl) de_int) da_nil))))))
      (ds_cons (ds_for pw rfl (di_rng1 (by rfl) T.range (da_cons (de_call cD hG hr (by decide) (by rfl) tk (da_cons (de_var 1 rfl) (da_cons de_int da_nil))) da_nil)) (dg_name (i := 4) nd rfl (by first | exact .inl rfl | exact .inr rfl)) (ds_one (ds_expr (de_bmL PySem.F.plainAttrs_list PySem.F.slot_list_append PySem.F.type_list_append mtd_append (de_dget hv (de_var 3 rfl) de_str (fun _ _ => rfl)) (da_cons (de_call cLAc hG hr (by decide) (by rfl) tk (da_cons (de_var 1 rfl) (da_cons (de_var 3 rfl) (da_cons (de_ixL (de_lstD (da_cons de_str (da_cons de_str da_nil))) (de_var 4 rfl)) (da_cons de_int da_nil))))) da_nil)))))
      (ds_cons (ds_set (i := 5) nd rfl (by first | exact .inl rfl | exact .inr rfl) (de_call cLMa hG hr (by decide) (by rfl) tk (da_cons (de_var 3 rfl) da_nil)))
      (ds_cons (ds_set (i := 6) nd rfl (by first | exact .inl rfl | exact .inr rfl) (de_call cLSs hG hr (by decide) (by rfl) tk (da_cons (de_var 3 rfl) da_nil)))
      (ds_cons (ds_set (i := 7) nd rfl (by first | exact .inl rfl | exact .inr rfl) (de_meth0 cWStC hG hr (by decide) tk (de_var 5 rfl)))
      (ds_cons (ds_if (dt_not (dt_val (de_call cSm hG hr (by decide) (by rfl) tk (da_cons (de_var 7 rfl) (da_cons (de_var 6 rfl) da_nil))))) (ds_one (ds_ret de_bl)) ds_nil)
      (ds_cons (ds_expr (de_bmL PySem.F.plainAttrs_list PySem.F.slot_list_append PySem.F.type_list_append mtd_append (de_var 7 rfl) (da_cons (de_tup (da_cons de_str da_nil)) da_nil)))
      (ds_cons (ds_asg (de_tup (da_cons de_str da_nil)) (dg_ixL (W := NW) (de_var 7 rfl) de_int))
      (ds_cons (ds_if (dt_not (dt_val (de_call cSm hG hr (by decide) (by rfl) tk (da_cons (de_meth0 cWSt hG hr (by decide) tk (de_var 5 rfl)) (da_cons (de_var 6 rfl) da_nil))))) (ds_one (ds_ret de_bl)) ds_nil)
      (ds_cons (ds_for pw rfl (di_seq (de_var 6 rfl)) (dg_name (i := 8) nd rfl (by first | exact .inl rfl | exact .inr rfl)) (ds_cons (ds_set (i := 9) nd rfl (by first | exact .inl rfl | exact .inr rfl) (de_call cmixedT hG hr (by decide) (by rfl) tk (da_cons (de_var 1 rfl) (da_cons (de_var 8 rfl) da_nil))))
      (ds_one (ds_if (dt_not (dt_val (de_call cSm hG hr (by decide) (by rfl) tk (da_cons (de_lstD (da_cons (de_meth cWSo hG hr (by decide) tk (de_var 5 rfl) (da_cons (de_var 8 rfl) da_nil)) (da_cons (de_meth cWSo hG hr (by decide) tk (de_var 5 rfl) (da_cons (de_var 9 rfl) da_nil)) (da_cons (de_meth cWSo hG hr (by decide) tk (de_var 5 rfl) (da_cons (de_callTy cad_tuple (by rfl) T.tuple (by decide +kernel) (da_cons (de_var 9 rfl) da_nil)) da_nil)) da_nil)))) (da_cons (de_op opd_repD (de_lstD (da_cons (de_var 8 rfl) da_nil)) de_int) da_nil))))) (ds_one (ds_ret de_bl)) ds_nil))))
      (ds_cons (ds_if (dt_cmp (opd_neE hu) (de_dget hv (de_var 3 rfl) de_str (fun _ _ => rfl)) (de_lstD da_nil)) (ds_one (ds_expr (de_meth cWRm hG hr (by decide) tk (de_var 5 rfl) (da_cons (de_ixL (de_ixL (de_dget hv (de_var 3 rfl) de_str (fun _ _ => rfl)) de_int) de_int) da_nil)))) ds_nil)
      (ds_one (ds_ret (de_call cSm hG hr (by decide) (by rfl) tk (da_cons (de_lstD (da_cons (de_meth0 cWSt hG hr (by decide) tk (de_var 5 rfl)) (da_cons (de_meth0 cWSt hG hr (by decide) tk (de_meth0 cWCp hG hr (by decide) tk (de_var 5 rfl))) da_nil))) (da_cons (de_lstD (da_cons (de_var 6 rfl) (da_cons (de_var 6 rfl) da_nil))) da_nil))))))))))))))))))) ?_
  · exact FLaw.len
  · rintro ds μ Q E ⟨sc, rfl, hl, rfl, z⟩
    have sz := sizeLine_eq
    refine ⟨_, rfl, sc.map .int, rfl, by rw [List.length_map]; omega, by show 4 ≤ sizeLine; omega, ?_⟩
    have ok0 : Dr.ok ⟨sc, 0, 0, 0⟩ := ⟨Int.le_refl _, Int.le_refl _, Int.le_refl _, (by show (0 : Int) < 2147483647; decide)⟩
    have o0 : okRest [] := rfl
    refine ⟨_, rfl, by show 3 ≤ sizeLine; omega, by show 3 ≤ sizeLine; omega, by show 3 ≤ sizeLine; omega, by show 3 ≤ sizeLine; omega, by show 3 ≤ sizeLine; omega, by show 3 ≤ sizeLine; omega, by show 6 ≤ sizeLine; omega, ?_⟩
    refine ⟨⟨sc, 0, 0, 0⟩, _, [], rfl, by simp, by show 6 ≤ 1000; omega, ok0, by show (0 : Int) < 1000000; decide, rfl, fun y S1 hy ok1 t1 => ?_⟩
    have t1 : S1.t = 1 := t1
    have hz : ∃ f p r : Nat, y = .lst [.int f, .int p, .int r] ∧ f + p + r ≤ 7 ∧ f + p ≤ 4 := by
      simp only [List.mem_cons, List.not_mem_nil, or_false] at hy
      rcases hy with rfl | rfl | rfl | rfl | rfl | rfl
      · exact ⟨2, 2, 1, rfl, by decide, by decide⟩
      · exact ⟨4, 0, 3, rfl, by decide, by decide⟩
      · exact ⟨1, 3, 0, rfl, by decide, by decide⟩
      · exact ⟨0, 0, 2, rfl, by decide, by decide⟩
      · exact ⟨3, 1, 2, rfl, by decide, by decide⟩
      · exact ⟨1, 1, 0, rfl, by decide, by decide⟩
    obtain ⟨nf, np, nr, rfl, hfpr, hfp⟩ := hz
    refine ⟨_, rfl, _, rfl, _, _, _, rfl, rfl, rfl, _, rfl, _, _, _, rfl, rfl, rfl, _, rfl, _, _, _, rfl, rfl, rfl, S1, nf, np, nr, [], rfl, by omega, ok1, by omega, o0, rfl, fun W S2 wn l1 l2 l3 ok2 t2 t2' => ?_⟩
    have la : W.all.length ≤ 7 := by unfold Wl.all; rw [List.length_append, List.length_append]; omega
    have ls : W.seen.length ≤ 4 := by unfold Wl.seen; rw [List.length_append]; omega
    let r0 : List La → Sto := fun as => [.dct (lwK W (.cell 3)), .lst (laL as)]
    have k0 : ∀ as, LwOk W as → okRest (r0 as) := fun as h => by
      show (bdK 4 (lwK W (.cell 3)) && (bdL 4 (laL as) && true)) = true
      rw [lwK_bd (by decide), laL_bd h]; rfl
    refine ⟨_, rfl, S2, 3, r0 [], rfl, by decide, by decide, ok2, by omega, rfl, fun r S3 r30 r31 ok3 t3 => ?_⟩
    obtain ⟨k, rfl⟩ : ∃ k : Nat, r = k := ⟨r.toNat, by omega⟩
    let R : Option D → Option D → Option D → Option D → Option D → Option D → Rho :=
      fun v4 v5 v6 v7 v8 v9 => [some (.fzl (sc.map .int)), some (.cell 1), some (.lst [.int nf, .int np, .int nr]), some (.cell 2), v4, v5, v6, v7, v8, v9]
    refine ⟨_, rfl, by omega, by omega, fun i ρ' μ' => ∃ (v4 : Option D) (S : Dr) (as : List La), ρ' = R v4 none none none none none ∧ S.ok ∧ S.t ≤ 500 + 300 * i ∧ LwOk W as ∧ as.map (·.1) = oneTwo.take i ∧ μ' = S.sto (r0 as), ?_, fun _ _ _ _ => trivial, ?_, ?_⟩
    · exact ⟨_, S3, [], rfl, ok3, by omega, ⟨wn, by omega, fun q h => absurd h (by simp), List.nodup_nil⟩, rfl, rfl⟩
    · rintro i x ρ' μ' hx ⟨v4, S, as, rfl, ok, tl, lw, hn, rfl⟩
      obtain ⟨hk, rfl⟩ := rng_get' hx
      have hi : i < 2 := by omega
      have las : as.length ≤ 2 := by have := congrArg List.length hn; rw [List.length_map, List.length_take] at this; omega
      have hd : ∀ S : Dr, asD (S.sto (r0 as)) (.cell 2) = some (lwK W (.cell 3)) := fun _ => rfl
      have gL : ∀ S : Dr, (S.sto (r0 as))[3]? = some (.lst (laL as)) := fun _ => rfl
      obtain ⟨s, hs, e⟩ := at_strs (ss := oneTwo) (r := (i : Nat)) (by omega) (by show ((i : Nat) : Int) < (2 : Nat); omega)
      have es : oneTwo[i]? = some s := by
        have := e
        rw [atI_nn _ (by omega), List.getElem?_map] at this
        obtain ⟨u, hu, e2⟩ := Option.map_eq_some_iff.mp this
        cases e2
        exact hu
      obtain ⟨s1, s2, s3⟩ := oneTwo_ok s hs
      refine ⟨_, rfl, lwK W (.cell 3), _, _, hd S, rfl, lwK_ac W _, ⟨_, asL_of (gL S)⟩, _, rfl, _, rfl, by show 2 ≤ sizeLine; omega, _, rfl, _, _, _, rfl, rfl, e, ?_⟩
      refine ⟨S, 0, .cell 3, W, s, 2, r0 as, rfl, rfl, wn, by omega, by decide, by decide, ok, by omega, k0 as lw, rfl, fun t os S' lo lm ok' t' t'' => ?_⟩
      refine ⟨_, laL as, laD s t os, rfl, rfl, gL S', by rw [List.length_map]; omega, ?_⟩
      have hfresh : s ∉ as.map (·.1) := by
        rw [hn]
        intro h
        obtain ⟨j, hj⟩ := List.getElem?_of_mem h
        have hj1 : j < i := by have := (List.getElem?_eq_some_iff.mp hj).1; rw [List.length_take] at this; omega
        rw [List.getElem?_take_of_lt hj1] at hj
        have := idx_inj (l := oneTwo) (by decide +kernel) hj es
        omega
      refine ⟨some (.int (i : Nat)), S', as ++ [(s, t, os)], rfl, ok', by omega, ⟨wn, by omega, fun q hq => ?_, ?_⟩, ?_, ?_⟩
      · rcases List.mem_append.mp hq with h | h
        · exact lw.ok q h
        · rw [List.mem_singleton.mp h]; exact ⟨s1, s2, s3, lo, by show os.length ≤ 5; omega⟩
      · rw [List.map_append, List.nodup_append]
        refine ⟨lw.nd, by simp, fun a ha b hb e => hfresh ?_⟩
        have hb' : b = s := by simpa using hb
        rw [← hb', ← e]; exact ha
      · rw [List.map_append, hn, List.take_add_one, es]; rfl
      · show S'.sto [.dct (lwK W (.cell 3)), .lst (laL as ++ [laD s t os])] = S'.sto [.dct (lwK W (.cell 3)), .lst (laL (as ++ [(s, t, os)]))]
        rw [show laL (as ++ [(s, t, os)]) = laL as ++ [laD s t os] from List.map_append]
    rintro ρ' μ' ⟨v4, S, as, rfl, ok, tl, lw, hn, rfl⟩
    have las : as.length ≤ 2 := by
      have h := congrArg List.length hn
      rw [List.length_map, List.length_take] at h
      show as.length ≤ 2
      have : oneTwo.length = 2 := rfl
      omega
    have tl' : S.t ≤ 2000 := by simp at tl; omega
    let ak := acK C_Outcome C_Action C_Condition as
    let r1 : Sto := r0 as ++ [.ins C_World (wlF W 5), .dct ak]
    have bk : ∀ n, bdK n ak = true := fun n => acK_bd lw (fun q hq => hq)
    have k1 : okRest r1 := by
      refine (k0 as lw).more ?_
      show (bdF _ (wlF W 5) && (bdK _ ak && true)) = true
      rw [bk]
      show ((bdL _ (W.fa.map D.str) && (bdL _ (W.pi.map D.str) && (bdL _ (W.re.map D.str) && (decide (5 < 6) && true)))) && true) = true
      rw [bdL_strs, bdL_strs, bdL_strs]; rfl
    refine ⟨_, rfl, 2, 3, W, as, rfl, rfl, rfl, lw, by omega, (k0 as lw).sto, ?_⟩
    refine ⟨_, rfl, 2, .cell 3, W, rfl, rfl, by omega, by omega, k1.sto, ?_⟩
    let l := allS W.seen
    have few : Few l := ⟨by
      show (allS W.seen).length ≤ 64
      rw [allS_len]
      exact Nat.le_trans (Nat.pow_le_pow_right (by decide) ls) (by decide), fun s hs => ⟨by have := allS_mem hs; omega, fun n hn => wn.ok n (by
        have := (allS_sub hs).subset hn
        unfold Wl.seen at this
        unfold Wl.all
        rcases List.mem_append.mp this with h | h
        · exact List.mem_append_left _ h
        · exact List.mem_append_right _ (List.mem_append_left _ h))⟩⟩
    have wat : ∀ (S : Dr) (ν : Sto), WlAt C_World W (.cell 4) (S.sto (r1 ++ ν)) := fun S ν => ⟨.cell 5, rfl⟩
    refine ⟨_, rfl, wlF W 5, rfl, rfl, .cell 4, W, rfl, ⟨.cell 5, rfl⟩, by omega, by omega, k1.sto, fun ν hν => ?_⟩
    have okν : okRest (r1 ++ ν) := okRest_of (S := S) hν
    let zz : D := .tup [.str ("zz" : Str)]
    let r3 : List D → Sto := fun xs => (r1 ++ ν) ++ [.lst xs]
    have k3 : ∀ xs, (∀ n, bdL n xs = true) → okRest (r3 xs) := fun xs h => okν.add (h _)
    have pS : ∀ μ : Sto, pyT μ (.lst (stsD l)) = some (.list (l.map stP)) := fun μ => by rw [pyT_l, stsD_pyS]; rfl
    have ll : l.length ≤ 64 := few.1
    refine ⟨_, rfl, _, rfl, _, _, .list (l.map stP), rfl, pyT_cell ap_get (stsD_py l), pS _, okR_sts few, _, rfl, iff_ rfl ?_⟩
    refine ⟨_, rfl, ⟨_, asL_of ap_get⟩, by show 1 ≤ sizeLine; omega, _, stsD l, zz, rfl, rfl, ap_get, by rw [List.length_map]; omega, ?_⟩
    dsimp only
    rw [ap_set]
    refine ⟨by show 1 ≤ sizeLine; omega, _, rfl, _, stsD l ++ [zz], 0, 0, rfl, ap_get, rfl, ?_, ?_⟩
    · rw [List.length_append]; exact ixN_0 _
    rw [ap_set]
    generalize hxs : (stsD l ++ [zz]).set 0 (.tup [.str ("zz" : Str)]) = xs
    have bxs : ∀ n, bdL n xs = true := fun n => by
      rw [← hxs]
      refine bdL_all.mpr fun d hd => ?_
      rcases List.mem_or_eq_of_mem_set hd with h | rfl
      · rcases List.mem_append.mp h with h | h
        · exact bdL_all.mp (stsD_bd (l := l) (n := n)) d h
        · rw [List.mem_singleton.mp h]; rfl
      · rfl
    have kx := k3 xs bxs
    have wx : ∀ S : Dr, WlAt C_World W (.cell 4) (S.sto (r3 xs)) := fun S => ⟨.cell 5, rfl⟩
    refine ⟨_, rfl, wlF W 5, rfl, rfl, .cell 4, W, rfl, wx S, by omega, by omega, kx.sto, _, rfl, _, _, .list (l.map stP), rfl, pS _, pS _, okR_sts few, _, rfl, iff_ rfl ?_⟩
    let R2 : Option D → Option D → Rho := fun v8 v9 => [some (.fzl (sc.map .int)), some (.cell 1), some (.lst [.int nf, .int np, .int nr]), some (.cell 2), v4, some (.cell 4), some (.lst (stsD l)), some (.cell ((r1 ++ ν).length + 2)), v8, v9]
    refine ⟨_, rfl, stsD l, rfl, fun i ρ' μ' => ∃ (v8 v9 : Option D) (S' : Dr), ρ' = R2 v8 v9 ∧ S'.ok ∧ S'.t ≤ S.t + 20 * i ∧ μ' = S'.sto (r3 xs), ⟨_, _, S, rfl, ok, by omega, rfl⟩, fun _ _ _ _ => rfl, ?_, ?_⟩
    · rintro i x ρ' μ' hx ⟨v8, v9, S', rfl, ok', tS, rfl⟩
      rw [List.getElem?_map] at hx
      obtain ⟨u, hu, rfl⟩ := Option.map_eq_some_iff.mp hx
      have hi : i < 64 := by have := (List.getElem?_eq_some_iff.mp hu).1; omega
      have um := List.mem_of_getElem? hu
      have ul := (few.2 u um).1
      have us := allS_sub um
      have snd : W.seen.Nodup := by
        have h := wn.nd
        unfold Wl.all at h
        rw [← List.append_assoc] at h
        exact (List.nodup_append.mp h).1
      refine ⟨_, rfl, _, rfl, S', u.map .str, r3 xs, rfl, by rw [List.length_map]; omega, bdL_strs _, ok', by rw [List.length_map]; omega, kx, rfl, fun ys S5 pm ok5 t5 => ?_⟩
      obtain ⟨vs, rfl, pv⟩ := perm_strs pm
      rw [List.length_map] at t5
      obtain ⟨o1, o2⟩ := st_ok snd us (.refl u)
      obtain ⟨o3, o4⟩ := st_ok snd us pv
      have lv : vs.length < 1000 := by rw [pv.length_eq]; omega
      refine ⟨_, rfl, wlF W 5, rfl, rfl, _, rfl, .cell 4, stD u, W, u, rfl, wx S5, by omega, fun _ => rfl, by omega, o1, kx.sto, ?_⟩
      rw [o2]
      refine ⟨_, rfl, wlF W 5, rfl, rfl, _, rfl, .cell 4, .lst (vs.map .str), W, vs, rfl, wx S5, by omega, fun _ => rfl, lv, o3, kx.sto, ?_⟩
      rw [o4]
      refine ⟨_, rfl, wlF W 5, rfl, rfl, _, rfl, _, vs.map .str, rfl, rfl, .cell 4, stD vs, W, vs, rfl, wx S5, by omega, fun _ => rfl, lv, o3, kx.sto, ?_⟩
      rw [o4]
      have p3 : ∀ μ : Sto, pyT μ (.lst [stD u, stD u, stD u]) = some (.list [stP u, stP u, stP u]) := fun μ => by
        rw [pyT_l, pyAllS_c (stD_pyS u) (pyAllS_c (stD_pyS u) (pyAllS_c (stD_pyS u) rfl))]; rfl
      refine ⟨by show 3 ≤ sizeLine; omega, _, rfl, by show 1 ≤ sizeLine; omega, [stD u], 3, rfl, rfl, by decide, by decide, by show 3 ≤ sizeLine; omega, by show 3 ≤ sizeLine; omega, ?_⟩
      refine ⟨_, _, .list [stP u, stP u, stP u], rfl, p3 _, p3 _, okR_items (n := 100) (fun p hp => ?_) (by show 101 * 3 ≤ _; omega), _, rfl, iff_ rfl ?_⟩
      · simp only [List.mem_cons, List.not_mem_nil, or_false] at hp
        rcases hp with rfl | rfl | rfl <;> exact (itm_st (few.2 u um)).1
      · exact ⟨_, _, S5, rfl, ok5, by omega, rfl⟩
    rintro ρ' μ' ⟨v8, v9, S6, rfl, ok6, t6, rfl⟩
    let r4 : List (Key × D) → Sto := fun kd => ((r0 as ++ [.ins C_World (wlF W 5), .dct kd]) ++ ν) ++ [.lst xs]
    dsimp only
    refine seq_cut (fun ρ' μ' => ∃ kd : List (Key × D), ρ' = R2 v8 v9 ∧ (∀ n, bdK n kd = true) ∧ μ' = S6.sto (r4 kd)) ?_ fun N hN => ?_
    · rintro _ _ ⟨kd, rfl, bkd, rfl⟩
      have k4 : okRest (r4 kd) := rest_set (k := 3) kx (bkd _)
      have sL : ∀ μ : Sto, pyS μ (.lst (stsD l)) = some (.list (l.map stP)) := fun μ => by
        show (pyAll (stsD l)).map PyData.list = _
        rw [stsD_py]; rfl
      have p2 : ∀ μ : Sto, pyT μ (.lst [.lst (stsD l), .lst (stsD l)]) = some (.list [.list (l.map stP), .list (l.map stP)]) := fun μ => by
        rw [pyT_l, pyAllS_c (sL μ) (pyAllS_c (sL μ) rfl)]; rfl
      have wx4 : WlAt C_World W (.cell 4) (S6.sto (r4 kd)) := ⟨.cell 5, rfl⟩
      refine ⟨_, rfl, wlF W 5, rfl, rfl, .cell 4, W, rfl, wx4, by omega, by omega, k4.sto, ?_⟩
      refine ⟨_, rfl, wlF W 5, rfl, rfl, .cell 4, W, kd, rfl, ⟨.cell 5, rfl, rfl⟩, wn, by omega, bkd _, k4.sto, ?_⟩
      refine ⟨wlA W (.dct kd), rfl, rfl, .ins C_World (wlA W (.dct kd)), W, rfl, ⟨.dct kd, rfl⟩, by omega, by omega, k4.sto, ?_⟩
      refine ⟨by show 2 ≤ sizeLine; omega, _, rfl, _, rfl, by show 2 ≤ sizeLine; omega, _, _, .list [.list (l.map stP), .list (l.map stP)], rfl, p2 _, p2 _, okR_items (n := 10000) (fun p hp => ?_) (by show 10001 * 2 ≤ _; omega), _, _, .refl, z _⟩
      simp only [List.mem_cons, List.not_mem_nil, or_false] at hp
      rcases hp with rfl | rfl <;> exact itm_sts few
    · have hdx : asD (S6.sto (r3 xs)) (.cell 2) = some (lwK W (.cell 3)) := rfl
      have gLx : (S6.sto (r3 xs))[3]? = some (.lst (laL as)) := rfl
      refine ⟨_, rfl, lwK W (.cell 3), _, _, hdx, rfl, lwK_ac W _, by show 0 ≤ sizeLine; omega, laL as, asL_of gLx, rfl, _, rfl, ite_c (fun h => ?_) (fun h => hN _ _ ⟨ak, rfl, bk, rfl⟩)⟩
      obtain ⟨q, as', eas⟩ : ∃ q as', as = q :: as' := by
        cases has : as with
        | nil => rw [has] at h; cases h
        | cons q as' => exact ⟨q, as', rfl⟩
      have e0 : atI (laL as) 0 = some (laD q.1 q.2.1 q.2.2) := by rw [eas]; exact atI_0 _
      have sm : (valD ak (.inr q.1)).isSome = true := by
        show (valD (acK C_Outcome C_Action C_Condition as) (.inr q.1)).isSome = true
        rw [eas]
        simp [valD, acK]
      refine ⟨_, rfl, wlF W 5, rfl, rfl, _, rfl, lwK W (.cell 3), _, _, hdx, rfl, lwK_ac W _, laL as, 0, _, asS_of gLx, rfl, e0, _, 0, .str q.1, rfl, rfl, rfl, 4, 5, W, ak, q.1, rfl, rfl, rfl, sm, ?_⟩
      refine hN _ _ ⟨dropD ak (.inr q.1), rfl, fun n => bdK_of fun p hp => ?_, rfl⟩
      obtain ⟨y, hy, rfl⟩ := List.mem_map.mp (List.mem_filter.mp hp).1
      exact acD_bd cD_bd (fun es he => ((lw.acw hy).fits es he).1.g)

end
end Dl

namespace Dl
open PySem PySem.Spec L2
open PyProof.Rows hiding St Binds
theorem all_mk {l : PySem.W.OpenLaw} {w : World} {K : PySem.W.Frag} {h : Heap} {mg : Str → Option Value} {fa : Addr} (X : K.In h) (G : h.Ns mainGlobals mg) (hfa : mg "law" = some (.ref fa))
    {f0 : Addr} {od0 an0 : Option Addr} {sl0 : Array (Option Value)} {oc0 kV0 dc0 pm0 cd0 ct0 : Value} {f1 : Addr} {od1 an1 : Option Addr} {sl1 : Array (Option Value)} {oc1 kV1 dc1 pm1 cd1 ct1 : Value} {f2 : Addr} {od2 an2 : Option Addr} {sl2 : Array (Option Value)} {oc2 kV2 dc2 pm2 cd2 ct2 : Value} {f3 : Addr} {od3 an3 : Option Addr} {sl3 : Array (Option Value)} {oc3 kV3 dc3 pm3 cd3 ct3 : Value} {f4 : Addr} {od4 an4 : Option Addr} {sl4 : Array (Option Value)} {oc4 kV4 dc4 pm4 cd4 ct4 : Value} {f5 : Addr} {od5 an5 : Option Addr} {sl5 : Array (Option Value)} {oc5 kV5 dc5 pm5 cd5 ct5 : Value} {TR_RESERVED : Addr} {dR_RESERVED : Option Addr} {iR_RESERVED : Array Value} {nR_RESERVED : Nat} {sR_RESERVED : Array (Option Value)} {tc_LONGEST : Tok} {f6 : Addr} {od6 an6 : Option Addr} {sl6 : Array (Option Value)} {oc6 kV6 dc6 pm6 cd6 ct6 : Value} {C_BadName : Addr} {fE_BadName cdaE_BadName ccE_BadName NE_BadName : Addr} {nmE_BadName qE_BadName fileE_BadName : Str} {bsE_BadName bmE_BadName subE_BadName : List Value} {snE_BadName : List Str} {abE_BadName : Bool} {colE_BadName : Option Bool} {ddE_BadName cddE_BadName cldE_BadName anE_BadName odE_BadName : Option Addr} {k0E_BadName k1E_BadName k2E_BadName k3E_BadName k5E_BadName : Option Value} {cclE_BadName kVE_BadName docE_BadName pmE_BadName ctE_BadName ocE_BadName clE_BadName : Value} {ccsE_BadName cslE_BadName oslE_BadName : Array (Option Value)} {vsE_BadName : Array Value} {tfE_BadName : Tok} {f7 : Addr} {od7 an7 : Option Addr} {sl7 : Array (Option Value)} {oc7 kV7 dc7 pm7 cd7 ct7 : Value} {C_BadChange : Addr} {fE_BadChange cdaE_BadChange ccE_BadChange NE_BadChange : Addr} {nmE_BadChange qE_BadChange fileE_BadChange : Str} {bsE_BadChange bmE_BadChange subE_BadChange : List Value} {snE_BadChange : List Str} {abE_BadChange : Bool} {colE_BadChange : Option Bool} {ddE_BadChange cddE_BadChange cldE_BadChange anE_BadChange odE_BadChange : Option Addr} {k0E_BadChange k1E_BadChange k2E_BadChange k3E_BadChange k5E_BadChange : Option Value} {cclE_BadChange kVE_BadChange docE_BadChange pmE_BadChange ctE_BadChange ocE_BadChange clE_BadChange : Value} {ccsE_BadChange cslE_BadChange oslE_BadChange : Array (Option Value)} {vsE_BadChange : Array Value} {tfE_BadChange : Tok} {f8 : Addr} {od8 an8 : Option Addr} {sl8 : Array (Option Value)} {oc8 kV8 dc8 pm8 cd8 ct8 : Value} {f9 : Addr} {od9 an9 : Option Addr} {sl9 : Array (Option Value)} {oc9 kV9 dc9 pm9 cd9 ct9 : Value} {C_Outcome : Addr} {gOutcome_names : Addr} {godOutcome_names ganOutcome_names : Option Addr} {gslOutcome_names : Array (Option Value)} {gocOutcome_names gkVOutcome_names gdcOutcome_names gpmOutcome_names gcdOutcome_names gctOutcome_names : Value} {gOutcome_getitem : Addr} {godOutcome_getitem ganOutcome_getitem : Option Addr} {gslOutcome_getitem : Array (Option Value)} {gocOutcome_getitem gkVOutcome_getitem gdcOutcome_getitem gpmOutcome_getitem gcdOutcome_getitem gctOutcome_getitem : Value} {f10 : Addr} {od10 an10 : Option Addr} {sl10 : Array (Option Value)} {oc10 kV10 dc10 pm10 cd10 ct10 : Value} {C_Condition : Addr} {gCondition_init : Addr} {godCondition_init ganCondition_init : Option Addr} {gslCondition_init : Array (Option Value)} {gocCondition_init gkVCondition_init gdcCondition_init gpmCondition_init gcdCondition_init gctCondition_init : Value} {gCondition_of : Addr} {godCondition_of ganCondition_of : Option Addr} {gslCondition_of : Array (Option Value)} {gocCondition_of gkVCondition_of gdcCondition_of gpmCondition_of gcdCondition_of gctCondition_of : Value} {pCondition_of : Addr} {pdCondition_of : Option Addr} {pslCondition_of : Array (Option Value)} {pvCondition_of : Array Value} {prCondition_of : List Value} {gCondition_always : Addr} {godCondition_always ganCondition_always : Option Addr} {gslCondition_always : Array (Option Value)} {gocCondition_always gkVCondition_always gdcCondition_always gpmCondition_always gcdCondition_always gctCondition_always : Value} {pCondition_always : Addr} {pdCondition_always : Option Addr} {pslCondition_always : Array (Option Value)} {pvCondition_always : Array Value} {prCondition_always : List Value} {gCondition_never : Addr} {godCondition_never ganCondition_never : Option Addr} {gslCondition_never : Array (Option Value)} {gocCondition_never gkVCondition_never gdcCondition_never gpmCondition_never gcdCondition_never gctCondition_never : Value} {pCondition_never : Addr} {pdCondition_never : Option Addr} {pslCondition_never : Array (Option Value)} {pvCondition_never : Array Value} {prCondition_never : List Value} {gCondition_names : Addr} {godCondition_names ganCondition_names : Option Addr} {gslCondition_names : Array (Option Value)} {gocCondition_names gkVCondition_names gdcCondition_names gpmCondition_names gcdCondition_names gctCondition_names : Value} {gOutcome_init : Addr} {godOutcome_init ganOutcome_init : Option Addr} {gslOutcome_init : Array (Option Value)} {gocOutcome_init gkVOutcome_init gdcOutcome_init gpmOutcome_init gcdOutcome_init gctOutcome_init : Value} {TOutcome_init : Addr} {oTOutcome_init : Option Addr} {slTOutcome_init : Array (Option Value)} {nTOutcome_init : Nat} {gOutcome_copy : Addr} {godOutcome_copy ganOutcome_copy : Option Addr} {gslOutcome_copy : Array (Option Value)} {gocOutcome_copy gkVOutcome_copy gdcOutcome_copy gpmOutcome_copy gcdOutcome_copy gctOutcome_copy : Value} {C_Action : Addr} {gAction_init : Addr} {godAction_init ganAction_init : Option Addr} {gslAction_init : Array (Option Value)} {gocAction_init gkVAction_init gdcAction_init gpmAction_init gcdAction_init gctAction_init : Value} {gAction_len : Addr} {godAction_len ganAction_len : Option Addr} {gslAction_len : Array (Option Value)} {gocAction_len gkVAction_len gdcAction_len gpmAction_len gcdAction_len gctAction_len : Value} {gAction_outcome : Addr} {godAction_outcome ganAction_outcome : Option Addr} {gslAction_outcome : Array (Option Value)} {gocAction_outcome gkVAction_outcome gdcAction_outcome gpmAction_outcome gcdAction_outcome gctAction_outcome : Value} {f11 : Addr} {od11 an11 : Option Addr} {sl11 : Array (Option Value)} {oc11 kV11 dc11 pm11 cd11 ct11 : Value} {f12 : Addr} {od12 an12 : Option Addr} {sl12 : Array (Option Value)} {oc12 kV12 dc12 pm12 cd12 ct12 : Value} {C_NameInUse : Addr} {fE_NameInUse cdaE_NameInUse ccE_NameInUse NE_NameInUse : Addr} {nmE_NameInUse qE_NameInUse fileE_NameInUse : Str} {bsE_NameInUse bmE_NameInUse subE_NameInUse : List Value} {snE_NameInUse : List Str} {abE_NameInUse : Bool} {colE_NameInUse : Option Bool} {ddE_NameInUse cddE_NameInUse cldE_NameInUse anE_NameInUse odE_NameInUse : Option Addr} {k0E_NameInUse k1E_NameInUse k2E_NameInUse k3E_NameInUse k5E_NameInUse : Option Value} {cclE_NameInUse kVE_NameInUse docE_NameInUse pmE_NameInUse ctE_NameInUse ocE_NameInUse clE_NameInUse : Value} {ccsE_NameInUse cslE_NameInUse oslE_NameInUse : Array (Option Value)} {vsE_NameInUse : Array Value} {tfE_NameInUse : Tok} {f13 : Addr} {od13 an13 : Option Addr} {sl13 : Array (Option Value)} {oc13 kV13 dc13 pm13 cd13 ct13 : Value} {C_World : Addr} {gWorld_init : Addr} {godWorld_init ganWorld_init : Option Addr} {gslWorld_init : Array (Option Value)} {gocWorld_init gkVWorld_init gdcWorld_init gpmWorld_init gcdWorld_init gctWorld_init : Value} {TWorld_init : Addr} {oTWorld_init : Option Addr} {slTWorld_init : Array (Option Value)} {nTWorld_init : Nat} {eWorld_init0 : Addr} {eWorld_init0o : Option Addr} {eWorld_init0n : Nat} {eWorld_init0s : Array (Option Value)} {eWorld_init1 : Addr} {eWorld_init1o : Option Addr} {eWorld_init1n : Nat} {eWorld_init1s : Array (Option Value)} {eWorld_init2 : Addr} {eWorld_init2o : Option Addr} {eWorld_init2n : Nat} {eWorld_init2s : Array (Option Value)} {gWorld_facts : Addr} {godWorld_facts ganWorld_facts : Option Addr} {gslWorld_facts : Array (Option Value)} {gocWorld_facts gkVWorld_facts gdcWorld_facts gpmWorld_facts gcdWorld_facts gctWorld_facts : Value} {gWorld_piles : Addr} {godWorld_piles ganWorld_piles : Option Addr} {gslWorld_piles : Array (Option Value)} {gocWorld_piles gkVWorld_piles gdcWorld_piles gpmWorld_piles gcdWorld_piles gctWorld_piles : Value} {gWorld_reserves : Addr} {godWorld_reserves ganWorld_reserves : Option Addr} {gslWorld_reserves : Array (Option Value)} {gocWorld_reserves gkVWorld_reserves gdcWorld_reserves gpmWorld_reserves gcdWorld_reserves gctWorld_reserves : Value} {gWorld_seen : Addr} {godWorld_seen ganWorld_seen : Option Addr} {gslWorld_seen : Array (Option Value)} {gocWorld_seen gkVWorld_seen gdcWorld_seen gpmWorld_seen gcdWorld_seen gctWorld_seen : Value} {gWorld_counters : Addr} {godWorld_counters ganWorld_counters : Option Addr} {gslWorld_counters : Array (Option Value)} {gocWorld_counters gkVWorld_counters gdcWorld_counters gpmWorld_counters gcdWorld_counters gctWorld_counters : Value} {f14 : Addr} {od14 an14 : Option Addr} {sl14 : Array (Option Value)} {oc14 kV14 dc14 pm14 cd14 ct14 : Value} {f15 : Addr} {od15 an15 : Option Addr} {sl15 : Array (Option Value)} {oc15 kV15 dc15 pm15 cd15 ct15 : Value} {f16 : Addr} {od16 an16 : Option Addr} {sl16 : Array (Option Value)} {oc16 kV16 dc16 pm16 cd16 ct16 : Value} {f17 : Addr} {od17 an17 : Option Addr} {sl17 : Array (Option Value)} {oc17 kV17 dc17 pm17 cd17 ct17 : Value} {f18 : Addr} {od18 an18 : Option Addr} {sl18 : Array (Option Value)} {oc18 kV18 dc18 pm18 cd18 ct18 : Value} {f19 : Addr} {od19 an19 : Option Addr} {sl19 : Array (Option Value)} {oc19 kV19 dc19 pm19 cd19 ct19 : Value} {f20 : Addr} {od20 an20 : Option Addr} {sl20 : Array (Option Value)} {oc20 kV20 dc20 pm20 cd20 ct20 : Value} {f21 : Addr} {od21 an21 : Option Addr} {sl21 : Array (Option Value)} {oc21 kV21 dc21 pm21 cd21 ct21 : Value} {f22 : Addr} {od22 an22 : Option Addr} {sl22 : Array (Option Value)} {oc22 kV22 dc22 pm22 cd22 ct22 : Value} {gWorld_setitem : Addr} {godWorld_setitem ganWorld_setitem : Option Addr} {gslWorld_setitem : Array (Option Value)} {gocWorld_setitem gkVWorld_setitem gdcWorld_setitem gpmWorld_setitem gcdWorld_setitem gctWorld_setitem : Value} {gCondition_and : Addr} {godCondition_and ganCondition_and : Option Addr} {gslCondition_and : Array (Option Value)} {gocCondition_and gkVCondition_and gdcCondition_and gpmCondition_and gcdCondition_and gctCondition_and : Value} {gCondition_or : Addr} {godCondition_or ganCondition_or : Option Addr} {gslCondition_or : Array (Option Value)} {gocCondition_or gkVCondition_or gdcCondition_or gpmCondition_or gcdCondition_or gctCondition_or : Value} {gCondition_invert : Addr} {godCondition_invert ganCondition_invert : Option Addr} {gslCondition_invert : Array (Option Value)} {gocCondition_invert gkVCondition_invert gdcCondition_invert gpmCondition_invert gcdCondition_invert gctCondition_invert : Value} {f23 : Addr} {od23 an23 : Option Addr} {sl23 : Array (Option Value)} {oc23 kV23 dc23 pm23 cd23 ct23 : Value} {f24 : Addr} {od24 an24 : Option Addr} {sl24 : Array (Option Value)} {oc24 kV24 dc24 pm24 cd24 ct24 : Value} {f25 : Addr} {od25 an25 : Option Addr} {sl25 : Array (Option Value)} {oc25 kV25 dc25 pm25 cd25 ct25 : Value} {f26 : Addr} {od26 an26 : Option Addr} {sl26 : Array (Option Value)} {oc26 kV26 dc26 pm26 cd26 ct26 : Value} {f27 : Addr} {od27 an27 : Option Addr} {sl27 : Array (Option Value)} {oc27 kV27 dc27 pm27 cd27 ct27 : Value} {f28 : Addr} {od28 an28 : Option Addr} {sl28 : Array (Option Value)} {oc28 kV28 dc28 pm28 cd28 ct28 : Value} {f29 : Addr} {od29 an29 : Option Addr} {sl29 : Array (Option Value)} {oc29 kV29 dc29 pm29 cd29 ct29 : Value} {f30 : Addr} {od30 an30 : Option Addr} {sl30 : Array (Option Value)} {oc30 kV30 dc30 pm30 cd30 ct30 : Value} {f31 : Addr} {od31 an31 : Option Addr} {sl31 : Array (Option Value)} {oc31 kV31 dc31 pm31 cd31 ct31 : Value} {f32 : Addr} {od32 an32 : Option Addr} {sl32 : Array (Option Value)} {oc32 kV32 dc32 pm32 cd32 ct32 : Value} {f33 : Addr} {od33 an33 : Option Addr} {sl33 : Array (Option Value)} {oc33 kV33 dc33 pm33 cd33 ct33 : Value} {gWorld_state_of : Addr} {godWorld_state_of ganWorld_state_of : Option Addr} {gslWorld_state_of : Array (Option Value)} {gocWorld_state_of gkVWorld_state_of gdcWorld_state_of gpmWorld_state_of gcdWorld_state_of gctWorld_state_of : Value} {gWorld_states : Addr} {godWorld_states ganWorld_states : Option Addr} {gslWorld_states : Array (Option Value)} {gocWorld_states gkVWorld_states gdcWorld_states gpmWorld_states gcdWorld_states gctWorld_states : Value} {gWorld_remove : Addr} {godWorld_remove ganWorld_remove : Option Addr} {gslWorld_remove : Array (Option Value)} {gocWorld_remove gkVWorld_remove gdcWorld_remove gpmWorld_remove gcdWorld_remove gctWorld_remove : Value} {gWorld_copy : Addr} {godWorld_copy ganWorld_copy : Option Addr} {gslWorld_copy : Array (Option Value)} {gocWorld_copy gkVWorld_copy gdcWorld_copy gpmWorld_copy gcdWorld_copy gctWorld_copy : Value} {f34 : Addr} {od34 an34 : Option Addr} {sl34 : Array (Option Value)} {oc34 kV34 dc34 pm34 cd34 ct34 : Value} {f35 : Addr} {od35 an35 : Option Addr} {sl35 : Array (Option Value)} {oc35 kV35 dc35 pm35 cd35 ct35 : Value}
    (a0 : PySem.W.nsIn K mainGlobals "_law_draw" = some (some (.ref f0)))
    (l0 : K.lookup f0 = some ⟨oc0, od0, .func (PySem.W.fnOf "_law_draw" "_law_draw" (defArgs sDraw) (defBody sDraw) (defScope sDraw) .none kV0 dc0 pm0 an0 cd0 ct0), sl0⟩)
    (c0 : PySem.W.codeIn K cd0 "_law_draw" = true)
    (k0 : PySem.W.keepIn K (.ref f0) = true)
    (a1 : PySem.W.nsIn K mainGlobals "_law_pick" = some (some (.ref f1)))
    (l1 : K.lookup f1 = some ⟨oc1, od1, .func (PySem.W.fnOf "_law_pick" "_law_pick" (defArgs sPick) (defBody sPick) (defScope sPick) .none kV1 dc1 pm1 an1 cd1 ct1), sl1⟩)
    (c1 : PySem.W.codeIn K cd1 "_law_pick" = true)
    (k1 : PySem.W.keepIn K (.ref f1) = true)
    (a2 : PySem.W.nsIn K mainGlobals "_law_same" = some (some (.ref f2)))
    (l2 : K.lookup f2 = some ⟨oc2, od2, .func (PySem.W.fnOf "_law_same" "_law_same" (defArgs sSame) (defBody sSame) (defScope sSame) .none kV2 dc2 pm2 an2 cd2 ct2), sl2⟩)
    (c2 : PySem.W.codeIn K cd2 "_law_same" = true)
    (k2 : PySem.W.keepIn K (.ref f2) = true)
    (a3 : PySem.W.nsIn K mainGlobals "_law_name" = some (some (.ref f3)))
    (l3 : K.lookup f3 = some ⟨oc3, od3, .func (PySem.W.fnOf "_law_name" "_law_name" (defArgs sName) (defBody sName) (defScope sName) .none kV3 dc3 pm3 an3 cd3 ct3), sl3⟩)
    (c3 : PySem.W.codeIn K cd3 "_law_name" = true)
    (k3 : PySem.W.keepIn K (.ref f3) = true)
    (a4 : PySem.W.nsIn K mainGlobals "_law_names" = some (some (.ref f4)))
    (l4 : K.lookup f4 = some ⟨oc4, od4, .func (PySem.W.fnOf "_law_names" "_law_names" (defArgs sNames) (defBody sNames) (defScope sNames) .none kV4 dc4 pm4 an4 cd4 ct4), sl4⟩)
    (c4 : PySem.W.codeIn K cd4 "_law_names" = true)
    (k4 : PySem.W.keepIn K (.ref f4) = true)
    (a5 : PySem.W.nsIn K mainGlobals "is_letter" = some (some (.ref f5)))
    (l5 : K.lookup f5 = some ⟨oc5, od5, .func (PySem.W.fnOf "is_letter" "is_letter" (defArgs sLet) (defBody sLet) (defScope sLet) .none kV5 dc5 pm5 an5 cd5 ct5), sl5⟩)
    (c5 : PySem.W.codeIn K cd5 "is_letter" = true)
    (k5 : PySem.W.keepIn K (.ref f5) = true)
    (ac_RESERVED : PySem.W.nsIn K mainGlobals "RESERVED" = some (some (.ref TR_RESERVED)))
    (lc_RESERVED : K.lookup TR_RESERVED = some ⟨.type "tuple", dR_RESERVED, .seq iR_RESERVED nR_RESERVED, sR_RESERVED⟩)
    (zc_RESERVED : iR_RESERVED.size ≤ sizeLine)
    (vc_RESERVED : Vals (Reserved.map V.str) iR_RESERVED.toList)
    (ac_LONGEST : PySem.W.nsIn K mainGlobals "LONGEST" = some (some (.int 8 tc_LONGEST)))
    (a6 : PySem.W.nsIn K mainGlobals "is_name" = some (some (.ref f6)))
    (l6 : K.lookup f6 = some ⟨oc6, od6, .func (PySem.W.fnOf "is_name" "is_name" (defArgs sIsN) (defBody sIsN) (defScope sIsN) .none kV6 dc6 pm6 an6 cd6 ct6), sl6⟩)
    (c6 : PySem.W.codeIn K cd6 "is_name" = true)
    (k6 : PySem.W.keepIn K (.ref f6) = true)
    (aC_BadName : PySem.W.nsIn K mainGlobals "BadName" = some (some (.ref C_BadName)))
    (lCE_BadName : K.lookup C_BadName = some (excClassObj nmE_BadName qE_BadName C_BadName NE_BadName bsE_BadName bmE_BadName true snE_BadName subE_BadName abE_BadName colE_BadName ddE_BadName k0E_BadName k1E_BadName k2E_BadName k3E_BadName k5E_BadName "ValueError.__new__"))
    (rvE_BadName : PySem.HandSPX.refsVE bmE_BadName = true)
    (saE_BadName : PySem.W.findIn K (.ref C_BadName) "__setattr__" = some (some (.builtin "object.__setattr__")))
    (exCE_BadName : PySem.W.subIn K (.ref C_BadName) (.type "BaseException") = some true)
    (tyCE_BadName : PySem.W.typeIn K (.ref C_BadName) = some (.type "type"))
    (kCE_BadName : PySem.W.keepIn K (.ref C_BadName) = true)
    (iCE_BadName : PySem.W.findIn K (.ref C_BadName) "__init__" = some (some (.ref fE_BadName)))
    (lfE_BadName : K.lookup fE_BadName = some ⟨ocE_BadName, odE_BadName, .func (PySem.W.ksFn "__init__" "BadName.__init__" (defArgs sE_BadName) (defBody sE_BadName) (defScope sE_BadName) .none kVE_BadName docE_BadName pmE_BadName anE_BadName (.ref cdaE_BadName) ctE_BadName ccE_BadName), oslE_BadName⟩)
    (cfE_BadName : PySem.W.codeIn K (.ref cdaE_BadName) "BadName.__init__" = true)
    (tf_E_BadName : PySem.W.typeIn K (.ref fE_BadName) = some (.type "function"))
    (lcdE_BadName : K.lookup cdaE_BadName = some ⟨cclE_BadName, cddE_BadName, .fields vsE_BadName, ccsE_BadName⟩)
    (hvsE_BadName : vsE_BadName[2]? = some (.str fileE_BadName tfE_BadName))
    (hfileE_BadName : ((l.prog.main.file : Str) == fileE_BadName) = true)
    (lccE_BadName : K.lookup ccE_BadName = some ⟨clE_BadName, cldE_BadName, .cell (some (.ref C_BadName)), cslE_BadName⟩)
    (msE_BadName : PySem.W.mroIn K C_BadName (.ref C_BadName) = some true)
    (su_ : PySem.W.nsIn K mainGlobals "super" = some none)
    (tp_ : (l.prog.main.scope.names.lookup ("super" : Str)).isSome = false)
    (iniE_BadName : PySem.W.ks_superIn K C_BadName C_BadName "__init__" = some (some (.builtin "ValueError.__init__")))
    (basE_BadName : PySem.W.subIn K (.ref C_BadName) (.type "ValueError") = some true)
    (tpa_ : PySem.W.nsIn K cStatics "thirdparty.any" = some none)
    (no_BadName_name : PySem.W.findIn K (.ref C_BadName) "name" = some none)
    (a7 : PySem.W.nsIn K mainGlobals "check_name" = some (some (.ref f7)))
    (l7 : K.lookup f7 = some ⟨oc7, od7, .func (PySem.W.fnOf "check_name" "check_name" (defArgs sChE) (defBody sChE) (defScope sChE) .none kV7 dc7 pm7 an7 cd7 ct7), sl7⟩)
    (c7 : PySem.W.codeIn K cd7 "check_name" = true)
    (k7 : PySem.W.keepIn K (.ref f7) = true)
    (aC_BadChange : PySem.W.nsIn K mainGlobals "BadChange" = some (some (.ref C_BadChange)))
    (lCE_BadChange : K.lookup C_BadChange = some (excClassObj nmE_BadChange qE_BadChange C_BadChange NE_BadChange bsE_BadChange bmE_BadChange true snE_BadChange subE_BadChange abE_BadChange colE_BadChange ddE_BadChange k0E_BadChange k1E_BadChange k2E_BadChange k3E_BadChange k5E_BadChange "ValueError.__new__"))
    (rvE_BadChange : PySem.HandSPX.refsVE bmE_BadChange = true)
    (saE_BadChange : PySem.W.findIn K (.ref C_BadChange) "__setattr__" = some (some (.builtin "object.__setattr__")))
    (exCE_BadChange : PySem.W.subIn K (.ref C_BadChange) (.type "BaseException") = some true)
    (tyCE_BadChange : PySem.W.typeIn K (.ref C_BadChange) = some (.type "type"))
    (kCE_BadChange : PySem.W.keepIn K (.ref C_BadChange) = true)
    (iCE_BadChange : PySem.W.findIn K (.ref C_BadChange) "__init__" = some (some (.ref fE_BadChange)))
    (lfE_BadChange : K.lookup fE_BadChange = some ⟨ocE_BadChange, odE_BadChange, .func (PySem.W.ksFn "__init__" "BadChange.__init__" (defArgs sE_BadChange) (defBody sE_BadChange) (defScope sE_BadChange) .none kVE_BadChange docE_BadChange pmE_BadChange anE_BadChange (.ref cdaE_BadChange) ctE_BadChange ccE_BadChange), oslE_BadChange⟩)
    (cfE_BadChange : PySem.W.codeIn K (.ref cdaE_BadChange) "BadChange.__init__" = true)
    (tf_E_BadChange : PySem.W.typeIn K (.ref fE_BadChange) = some (.type "function"))
    (lcdE_BadChange : K.lookup cdaE_BadChange = some ⟨cclE_BadChange, cddE_BadChange, .fields vsE_BadChange, ccsE_BadChange⟩)
    (hvsE_BadChange : vsE_BadChange[2]? = some (.str fileE_BadChange tfE_BadChange))
    (hfileE_BadChange : ((l.prog.main.file : Str) == fileE_BadChange) = true)
    (lccE_BadChange : K.lookup ccE_BadChange = some ⟨clE_BadChange, cldE_BadChange, .cell (some (.ref C_BadChange)), cslE_BadChange⟩)
    (msE_BadChange : PySem.W.mroIn K C_BadChange (.ref C_BadChange) = some true)
    (iniE_BadChange : PySem.W.ks_superIn K C_BadChange C_BadChange "__init__" = some (some (.builtin "ValueError.__init__")))
    (basE_BadChange : PySem.W.subIn K (.ref C_BadChange) (.type "ValueError") = some true)
    (no_BadChange_name : PySem.W.findIn K (.ref C_BadChange) "name" = some none)
    (no_BadChange_change : PySem.W.findIn K (.ref C_BadChange) "change" = some none)
    (kit_bb : PySem.W.kitOne K (.type "bool") (.type "bool") = some true)
    (kit_sb : PySem.W.kitOne K (.type "str") (.type "bool") = some false)
    (kit_ss : PySem.W.kitOne K (.type "str") (.type "str") = some true)
    (kit_nb : PySem.W.kitOne K (.type "NoneType") (.type "bool") = some false)
    (kit_ns : PySem.W.kitOne K (.type "NoneType") (.type "str") = some false)
    (a8 : PySem.W.nsIn K mainGlobals "is_change" = some (some (.ref f8)))
    (l8 : K.lookup f8 = some ⟨oc8, od8, .func (PySem.W.fnOf "is_change" "is_change" (defArgs sIsC) (defBody sIsC) (defScope sIsC) .none kV8 dc8 pm8 an8 cd8 ct8), sl8⟩)
    (c8 : PySem.W.codeIn K cd8 "is_change" = true)
    (k8 : PySem.W.keepIn K (.ref f8) = true)
    (a9 : PySem.W.nsIn K mainGlobals "check_entry" = some (some (.ref f9)))
    (l9 : K.lookup f9 = some ⟨oc9, od9, .func (PySem.W.fnOf "check_entry" "check_entry" (defArgs sCkE) (defBody sCkE) (defScope sCkE) .none kV9 dc9 pm9 an9 cd9 ct9), sl9⟩)
    (c9 : PySem.W.codeIn K cd9 "check_entry" = true)
    (k9 : PySem.W.keepIn K (.ref f9) = true)
    (aC_Outcome : PySem.W.nsIn K mainGlobals "Outcome" = some (some (.ref C_Outcome)))
    (pna_changes : PySem.W.findIn K (.ref C_Outcome) "_changes" = some none)
    (pg_Outcome : PySem.W.plainGet K C_Outcome Str.empty = true)
    (hd_Outcome : PySem.W.hasDictIn K C_Outcome = true)
    (po_Outcome : PySem.W.plainOver K C_Outcome = true)
    (sa_Outcome : PySem.W.findIn K (.ref C_Outcome) "__setattr__" = some (some (.builtin "object.__setattr__")))
    (giOutcome_names : PySem.W.findIn K (.ref C_Outcome) "names" = some (some (.ref gOutcome_names)))
    (glOutcome_names : K.lookup gOutcome_names = some ⟨gocOutcome_names, godOutcome_names, .func (PySem.W.fnOf "names" "Outcome.names" (defArgs sONm) (defBody sONm) (defScope sONm) .none gkVOutcome_names gdcOutcome_names gpmOutcome_names ganOutcome_names gcdOutcome_names gctOutcome_names), gslOutcome_names⟩)
    (gcOutcome_names : PySem.W.codeIn K gcdOutcome_names "Outcome.names" = true)
    (gfOutcome_names : PySem.W.isFn K (.ref gOutcome_names) = true)
    (gkOutcome_names : PySem.W.keepIn K (.ref gOutcome_names) = true)
    (giOutcome_getitem : PySem.W.findIn K (.ref C_Outcome) "__getitem__" = some (some (.ref gOutcome_getitem)))
    (glOutcome_getitem : K.lookup gOutcome_getitem = some ⟨gocOutcome_getitem, godOutcome_getitem, .func (PySem.W.fnOf "__getitem__" "Outcome.__getitem__" (defArgs sOGi) (defBody sOGi) (defScope sOGi) .none gkVOutcome_getitem gdcOutcome_getitem gpmOutcome_getitem ganOutcome_getitem gcdOutcome_getitem gctOutcome_getitem), gslOutcome_getitem⟩)
    (gcOutcome_getitem : PySem.W.codeIn K gcdOutcome_getitem "Outcome.__getitem__" = true)
    (gfOutcome_getitem : PySem.W.isFn K (.ref gOutcome_getitem) = true)
    (gkOutcome_getitem : PySem.W.keepIn K (.ref gOutcome_getitem) = true)
    (a10 : PySem.W.nsIn K mainGlobals "names_among" = some (some (.ref f10)))
    (l10 : K.lookup f10 = some ⟨oc10, od10, .func (PySem.W.fnOf "names_among" "names_among" (defArgs sNmA) (defBody sNmA) (defScope sNmA) .none kV10 dc10 pm10 an10 cd10 ct10), sl10⟩)
    (c10 : PySem.W.codeIn K cd10 "names_among" = true)
    (k10 : PySem.W.keepIn K (.ref f10) = true)
    (aC_Condition : PySem.W.nsIn K mainGlobals "Condition" = some (some (.ref C_Condition)))
    (pg_Condition : PySem.W.plainGet K C_Condition Str.empty = true)
    (hd_Condition : PySem.W.hasDictIn K C_Condition = true)
    (po_Condition : PySem.W.plainOver K C_Condition = true)
    (sa_Condition : PySem.W.findIn K (.ref C_Condition) "__setattr__" = some (some (.builtin "object.__setattr__")))
    (pna_words : PySem.W.findIn K (.ref C_Condition) "_words" = some none)
    (giCondition_init : PySem.W.findIn K (.ref C_Condition) "__init__" = some (some (.ref gCondition_init)))
    (glCondition_init : K.lookup gCondition_init = some ⟨gocCondition_init, godCondition_init, .func (PySem.W.fnOf "__init__" "Condition.__init__" (defArgs sIni) (defBody sIni) (defScope sIni) .none gkVCondition_init gdcCondition_init gpmCondition_init ganCondition_init gcdCondition_init gctCondition_init), gslCondition_init⟩)
    (gcCondition_init : PySem.W.codeIn K gcdCondition_init "Condition.__init__" = true)
    (gfCondition_init : PySem.W.isFn K (.ref gCondition_init) = true)
    (gkCondition_init : PySem.W.keepIn K (.ref gCondition_init) = true)
    (mk_Condition : PySem.W.makesIn K C_Condition = true)
    (kC_Condition : PySem.W.keepIn K (.ref C_Condition) = true)
    (sg_Condition : PySem.W.specialIn K (.ref C_Condition) "__getattribute__" = some (some (.builtin "type.__getattribute__")))
    (st_Condition : PySem.W.typeIn K (.ref C_Condition) = some (.type "type"))
    (sr_Condition : PySem.W.readsIn K C_Condition (.type "type") = true)
    (gaCondition_of : PySem.W.findIn K (.type "type") "of" = some none)
    (giCondition_of : PySem.W.findIn K (.ref C_Condition) "of" = some (some (.ref pCondition_of)))
    (gtCondition_of : PySem.W.typeIn K (.ref pCondition_of) = some (.type "staticmethod"))
    (gsCondition_of : PySem.W.specialIn K (.ref pCondition_of) "__get__" = some (some (.builtin "staticmethod.__get__")))
    (gpCondition_of : K.lookup pCondition_of = some ⟨.type "staticmethod", pdCondition_of, .fields pvCondition_of, pslCondition_of⟩)
    (gvCondition_of : pvCondition_of.toList = .ref gCondition_of :: prCondition_of)
    (glCondition_of : K.lookup gCondition_of = some ⟨gocCondition_of, godCondition_of, .func (PySem.W.fnOf "of" "Condition.of" (defArgs sOf) (defBody sOf) (defScope sOf) .none gkVCondition_of gdcCondition_of gpmCondition_of ganCondition_of gcdCondition_of gctCondition_of), gslCondition_of⟩)
    (gcCondition_of : PySem.W.codeIn K gcdCondition_of "Condition.of" = true)
    (gkCondition_of : PySem.W.keepIn K (.ref gCondition_of) = true)
    (gaCondition_always : PySem.W.findIn K (.type "type") "always" = some none)
    (giCondition_always : PySem.W.findIn K (.ref C_Condition) "always" = some (some (.ref pCondition_always)))
    (gtCondition_always : PySem.W.typeIn K (.ref pCondition_always) = some (.type "staticmethod"))
    (gsCondition_always : PySem.W.specialIn K (.ref pCondition_always) "__get__" = some (some (.builtin "staticmethod.__get__")))
    (gpCondition_always : K.lookup pCondition_always = some ⟨.type "staticmethod", pdCondition_always, .fields pvCondition_always, pslCondition_always⟩)
    (gvCondition_always : pvCondition_always.toList = .ref gCondition_always :: prCondition_always)
    (glCondition_always : K.lookup gCondition_always = some ⟨gocCondition_always, godCondition_always, .func (PySem.W.fnOf "always" "Condition.always" (defArgs sAl) (defBody sAl) (defScope sAl) .none gkVCondition_always gdcCondition_always gpmCondition_always ganCondition_always gcdCondition_always gctCondition_always), gslCondition_always⟩)
    (gcCondition_always : PySem.W.codeIn K gcdCondition_always "Condition.always" = true)
    (gkCondition_always : PySem.W.keepIn K (.ref gCondition_always) = true)
    (gaCondition_never : PySem.W.findIn K (.type "type") "never" = some none)
    (giCondition_never : PySem.W.findIn K (.ref C_Condition) "never" = some (some (.ref pCondition_never)))
    (gtCondition_never : PySem.W.typeIn K (.ref pCondition_never) = some (.type "staticmethod"))
    (gsCondition_never : PySem.W.specialIn K (.ref pCondition_never) "__get__" = some (some (.builtin "staticmethod.__get__")))
    (gpCondition_never : K.lookup pCondition_never = some ⟨.type "staticmethod", pdCondition_never, .fields pvCondition_never, pslCondition_never⟩)
    (gvCondition_never : pvCondition_never.toList = .ref gCondition_never :: prCondition_never)
    (glCondition_never : K.lookup gCondition_never = some ⟨gocCondition_never, godCondition_never, .func (PySem.W.fnOf "never" "Condition.never" (defArgs sNv) (defBody sNv) (defScope sNv) .none gkVCondition_never gdcCondition_never gpmCondition_never ganCondition_never gcdCondition_never gctCondition_never), gslCondition_never⟩)
    (gcCondition_never : PySem.W.codeIn K gcdCondition_never "Condition.never" = true)
    (gkCondition_never : PySem.W.keepIn K (.ref gCondition_never) = true)
    (giCondition_names : PySem.W.findIn K (.ref C_Condition) "names" = some (some (.ref gCondition_names)))
    (glCondition_names : K.lookup gCondition_names = some ⟨gocCondition_names, godCondition_names, .func (PySem.W.fnOf "names" "Condition.names" (defArgs sNms) (defBody sNms) (defScope sNms) .none gkVCondition_names gdcCondition_names gpmCondition_names ganCondition_names gcdCondition_names gctCondition_names), gslCondition_names⟩)
    (gcCondition_names : PySem.W.codeIn K gcdCondition_names "Condition.names" = true)
    (gfCondition_names : PySem.W.isFn K (.ref gCondition_names) = true)
    (gkCondition_names : PySem.W.keepIn K (.ref gCondition_names) = true)
    (giOutcome_init : PySem.W.findIn K (.ref C_Outcome) "__init__" = some (some (.ref gOutcome_init)))
    (glOutcome_init : K.lookup gOutcome_init = some ⟨gocOutcome_init, godOutcome_init, .func (PySem.W.fnOf "__init__" "Outcome.__init__" (defArgs sOIni) (defBody sOIni) (defScope sOIni) (.ref TOutcome_init) gkVOutcome_init gdcOutcome_init gpmOutcome_init ganOutcome_init gcdOutcome_init gctOutcome_init), gslOutcome_init⟩)
    (gcOutcome_init : PySem.W.codeIn K gcdOutcome_init "Outcome.__init__" = true)
    (gfOutcome_init : PySem.W.isFn K (.ref gOutcome_init) = true)
    (gkOutcome_init : PySem.W.keepIn K (.ref gOutcome_init) = true)
    (gTOutcome_init : K.lookup TOutcome_init = some ⟨.type "tuple", oTOutcome_init, .seq #[.none] nTOutcome_init, slTOutcome_init⟩)
    (mk_Outcome : PySem.W.makesIn K C_Outcome = true)
    (kC_Outcome : PySem.W.keepIn K (.ref C_Outcome) = true)
    (giOutcome_copy : PySem.W.findIn K (.ref C_Outcome) "copy" = some (some (.ref gOutcome_copy)))
    (glOutcome_copy : K.lookup gOutcome_copy = some ⟨gocOutcome_copy, godOutcome_copy, .func (PySem.W.fnOf "copy" "Outcome.copy" (defArgs sOCp) (defBody sOCp) (defScope sOCp) .none gkVOutcome_copy gdcOutcome_copy gpmOutcome_copy ganOutcome_copy gcdOutcome_copy gctOutcome_copy), gslOutcome_copy⟩)
    (gcOutcome_copy : PySem.W.codeIn K gcdOutcome_copy "Outcome.copy" = true)
    (gfOutcome_copy : PySem.W.isFn K (.ref gOutcome_copy) = true)
    (gkOutcome_copy : PySem.W.keepIn K (.ref gOutcome_copy) = true)
    (aC_Action : PySem.W.nsIn K mainGlobals "Action" = some (some (.ref C_Action)))
    (pg_Action : PySem.W.plainGet K C_Action Str.empty = true)
    (hd_Action : PySem.W.hasDictIn K C_Action = true)
    (po_Action : PySem.W.plainOver K C_Action = true)
    (sa_Action : PySem.W.findIn K (.ref C_Action) "__setattr__" = some (some (.builtin "object.__setattr__")))
    (pna_need : PySem.W.findIn K (.ref C_Action) "need" = some none)
    (pna_outcomes : PySem.W.findIn K (.ref C_Action) "_outcomes" = some none)
    (giAction_init : PySem.W.findIn K (.ref C_Action) "__init__" = some (some (.ref gAction_init)))
    (glAction_init : K.lookup gAction_init = some ⟨gocAction_init, godAction_init, .func (PySem.W.fnOf "__init__" "Action.__init__" (defArgs sAIni) (defBody sAIni) (defScope sAIni) .none gkVAction_init gdcAction_init gpmAction_init ganAction_init gcdAction_init gctAction_init), gslAction_init⟩)
    (gcAction_init : PySem.W.codeIn K gcdAction_init "Action.__init__" = true)
    (gfAction_init : PySem.W.isFn K (.ref gAction_init) = true)
    (gkAction_init : PySem.W.keepIn K (.ref gAction_init) = true)
    (mk_Action : PySem.W.makesIn K C_Action = true)
    (kC_Action : PySem.W.keepIn K (.ref C_Action) = true)
    (giAction_len : PySem.W.findIn K (.ref C_Action) "__len__" = some (some (.ref gAction_len)))
    (glAction_len : K.lookup gAction_len = some ⟨gocAction_len, godAction_len, .func (PySem.W.fnOf "__len__" "Action.__len__" (defArgs sALn) (defBody sALn) (defScope sALn) .none gkVAction_len gdcAction_len gpmAction_len ganAction_len gcdAction_len gctAction_len), gslAction_len⟩)
    (gcAction_len : PySem.W.codeIn K gcdAction_len "Action.__len__" = true)
    (gfAction_len : PySem.W.isFn K (.ref gAction_len) = true)
    (gkAction_len : PySem.W.keepIn K (.ref gAction_len) = true)
    (giAction_outcome : PySem.W.findIn K (.ref C_Action) "outcome" = some (some (.ref gAction_outcome)))
    (glAction_outcome : K.lookup gAction_outcome = some ⟨gocAction_outcome, godAction_outcome, .func (PySem.W.fnOf "outcome" "Action.outcome" (defArgs sAOu) (defBody sAOu) (defScope sAOu) .none gkVAction_outcome gdcAction_outcome gpmAction_outcome ganAction_outcome gcdAction_outcome gctAction_outcome), gslAction_outcome⟩)
    (gcAction_outcome : PySem.W.codeIn K gcdAction_outcome "Action.outcome" = true)
    (gfAction_outcome : PySem.W.isFn K (.ref gAction_outcome) = true)
    (gkAction_outcome : PySem.W.keepIn K (.ref gAction_outcome) = true)
    (a11 : PySem.W.nsIn K mainGlobals "outcomes_of" = some (some (.ref f11)))
    (l11 : K.lookup f11 = some ⟨oc11, od11, .func (PySem.W.fnOf "outcomes_of" "outcomes_of" (defArgs sOsO) (defBody sOsO) (defScope sOsO) .none kV11 dc11 pm11 an11 cd11 ct11), sl11⟩)
    (c11 : PySem.W.codeIn K cd11 "outcomes_of" = true)
    (k11 : PySem.W.keepIn K (.ref f11) = true)
    (a12 : PySem.W.nsIn K mainGlobals "copy_of" = some (some (.ref f12)))
    (l12 : K.lookup f12 = some ⟨oc12, od12, .func (PySem.W.fnOf "copy_of" "copy_of" (defArgs sCpO) (defBody sCpO) (defScope sCpO) .none kV12 dc12 pm12 an12 cd12 ct12), sl12⟩)
    (c12 : PySem.W.codeIn K cd12 "copy_of" = true)
    (k12 : PySem.W.keepIn K (.ref f12) = true)
    (aC_NameInUse : PySem.W.nsIn K mainGlobals "NameInUse" = some (some (.ref C_NameInUse)))
    (lCE_NameInUse : K.lookup C_NameInUse = some (excClassObj nmE_NameInUse qE_NameInUse C_NameInUse NE_NameInUse bsE_NameInUse bmE_NameInUse true snE_NameInUse subE_NameInUse abE_NameInUse colE_NameInUse ddE_NameInUse k0E_NameInUse k1E_NameInUse k2E_NameInUse k3E_NameInUse k5E_NameInUse "ValueError.__new__"))
    (rvE_NameInUse : PySem.HandSPX.refsVE bmE_NameInUse = true)
    (saE_NameInUse : PySem.W.findIn K (.ref C_NameInUse) "__setattr__" = some (some (.builtin "object.__setattr__")))
    (exCE_NameInUse : PySem.W.subIn K (.ref C_NameInUse) (.type "BaseException") = some true)
    (tyCE_NameInUse : PySem.W.typeIn K (.ref C_NameInUse) = some (.type "type"))
    (kCE_NameInUse : PySem.W.keepIn K (.ref C_NameInUse) = true)
    (iCE_NameInUse : PySem.W.findIn K (.ref C_NameInUse) "__init__" = some (some (.ref fE_NameInUse)))
    (lfE_NameInUse : K.lookup fE_NameInUse = some ⟨ocE_NameInUse, odE_NameInUse, .func (PySem.W.ksFn "__init__" "NameInUse.__init__" (defArgs sE_NameInUse) (defBody sE_NameInUse) (defScope sE_NameInUse) .none kVE_NameInUse docE_NameInUse pmE_NameInUse anE_NameInUse (.ref cdaE_NameInUse) ctE_NameInUse ccE_NameInUse), oslE_NameInUse⟩)
    (cfE_NameInUse : PySem.W.codeIn K (.ref cdaE_NameInUse) "NameInUse.__init__" = true)
    (tf_E_NameInUse : PySem.W.typeIn K (.ref fE_NameInUse) = some (.type "function"))
    (lcdE_NameInUse : K.lookup cdaE_NameInUse = some ⟨cclE_NameInUse, cddE_NameInUse, .fields vsE_NameInUse, ccsE_NameInUse⟩)
    (hvsE_NameInUse : vsE_NameInUse[2]? = some (.str fileE_NameInUse tfE_NameInUse))
    (hfileE_NameInUse : ((l.prog.main.file : Str) == fileE_NameInUse) = true)
    (lccE_NameInUse : K.lookup ccE_NameInUse = some ⟨clE_NameInUse, cldE_NameInUse, .cell (some (.ref C_NameInUse)), cslE_NameInUse⟩)
    (msE_NameInUse : PySem.W.mroIn K C_NameInUse (.ref C_NameInUse) = some true)
    (iniE_NameInUse : PySem.W.ks_superIn K C_NameInUse C_NameInUse "__init__" = some (some (.builtin "ValueError.__init__")))
    (basE_NameInUse : PySem.W.subIn K (.ref C_NameInUse) (.type "ValueError") = some true)
    (no_NameInUse_name : PySem.W.findIn K (.ref C_NameInUse) "name" = some none)
    (a13 : PySem.W.nsIn K mainGlobals "check_names" = some (some (.ref f13)))
    (l13 : K.lookup f13 = some ⟨oc13, od13, .func (PySem.W.fnOf "check_names" "check_names" (defArgs sCks) (defBody sCks) (defScope sCks) .none kV13 dc13 pm13 an13 cd13 ct13), sl13⟩)
    (c13 : PySem.W.codeIn K cd13 "check_names" = true)
    (k13 : PySem.W.keepIn K (.ref f13) = true)
    (aC_World : PySem.W.nsIn K mainGlobals "World" = some (some (.ref C_World)))
    (pg_World : PySem.W.plainGet K C_World Str.empty = true)
    (hd_World : PySem.W.hasDictIn K C_World = true)
    (po_World : PySem.W.plainOver K C_World = true)
    (sa_World : PySem.W.findIn K (.ref C_World) "__setattr__" = some (some (.builtin "object.__setattr__")))
    (pna_facts : PySem.W.findIn K (.ref C_World) "_facts" = some none)
    (pna_piles : PySem.W.findIn K (.ref C_World) "_piles" = some none)
    (pna_reserves : PySem.W.findIn K (.ref C_World) "_reserves" = some none)
    (pna_actions : PySem.W.findIn K (.ref C_World) "_actions" = some none)
    (giWorld_init : PySem.W.findIn K (.ref C_World) "__init__" = some (some (.ref gWorld_init)))
    (glWorld_init : K.lookup gWorld_init = some ⟨gocWorld_init, godWorld_init, .func (PySem.W.fnOf "__init__" "World.__init__" (defArgs sWIni) (defBody sWIni) (defScope sWIni) (.ref TWorld_init) gkVWorld_init gdcWorld_init gpmWorld_init ganWorld_init gcdWorld_init gctWorld_init), gslWorld_init⟩)
    (gcWorld_init : PySem.W.codeIn K gcdWorld_init "World.__init__" = true)
    (gfWorld_init : PySem.W.isFn K (.ref gWorld_init) = true)
    (gkWorld_init : PySem.W.keepIn K (.ref gWorld_init) = true)
    (gTWorld_init : K.lookup TWorld_init = some ⟨.type "tuple", oTWorld_init, .seq #[.ref eWorld_init0, .ref eWorld_init1, .ref eWorld_init2] nTWorld_init, slTWorld_init⟩)
    (leWorld_init0 : K.lookup eWorld_init0 = some ⟨.type "tuple", eWorld_init0o, .seq #[] eWorld_init0n, eWorld_init0s⟩)
    (leWorld_init1 : K.lookup eWorld_init1 = some ⟨.type "tuple", eWorld_init1o, .seq #[] eWorld_init1n, eWorld_init1s⟩)
    (leWorld_init2 : K.lookup eWorld_init2 = some ⟨.type "tuple", eWorld_init2o, .seq #[] eWorld_init2n, eWorld_init2s⟩)
    (mk_World : PySem.W.makesIn K C_World = true)
    (kC_World : PySem.W.keepIn K (.ref C_World) = true)
    (giWorld_facts : PySem.W.findIn K (.ref C_World) "facts" = some (some (.ref gWorld_facts)))
    (glWorld_facts : K.lookup gWorld_facts = some ⟨gocWorld_facts, godWorld_facts, .func (PySem.W.fnOf "facts" "World.facts" (defArgs sWFa) (defBody sWFa) (defScope sWFa) .none gkVWorld_facts gdcWorld_facts gpmWorld_facts ganWorld_facts gcdWorld_facts gctWorld_facts), gslWorld_facts⟩)
    (gcWorld_facts : PySem.W.codeIn K gcdWorld_facts "World.facts" = true)
    (gfWorld_facts : PySem.W.isFn K (.ref gWorld_facts) = true)
    (gkWorld_facts : PySem.W.keepIn K (.ref gWorld_facts) = true)
    (giWorld_piles : PySem.W.findIn K (.ref C_World) "piles" = some (some (.ref gWorld_piles)))
    (glWorld_piles : K.lookup gWorld_piles = some ⟨gocWorld_piles, godWorld_piles, .func (PySem.W.fnOf "piles" "World.piles" (defArgs sWPi) (defBody sWPi) (defScope sWPi) .none gkVWorld_piles gdcWorld_piles gpmWorld_piles ganWorld_piles gcdWorld_piles gctWorld_piles), gslWorld_piles⟩)
    (gcWorld_piles : PySem.W.codeIn K gcdWorld_piles "World.piles" = true)
    (gfWorld_piles : PySem.W.isFn K (.ref gWorld_piles) = true)
    (gkWorld_piles : PySem.W.keepIn K (.ref gWorld_piles) = true)
    (giWorld_reserves : PySem.W.findIn K (.ref C_World) "reserves" = some (some (.ref gWorld_reserves)))
    (glWorld_reserves : K.lookup gWorld_reserves = some ⟨gocWorld_reserves, godWorld_reserves, .func (PySem.W.fnOf "reserves" "World.reserves" (defArgs sWRe) (defBody sWRe) (defScope sWRe) .none gkVWorld_reserves gdcWorld_reserves gpmWorld_reserves ganWorld_reserves gcdWorld_reserves gctWorld_reserves), gslWorld_reserves⟩)
    (gcWorld_reserves : PySem.W.codeIn K gcdWorld_reserves "World.reserves" = true)
    (gfWorld_reserves : PySem.W.isFn K (.ref gWorld_reserves) = true)
    (gkWorld_reserves : PySem.W.keepIn K (.ref gWorld_reserves) = true)
    (giWorld_seen : PySem.W.findIn K (.ref C_World) "seen" = some (some (.ref gWorld_seen)))
    (glWorld_seen : K.lookup gWorld_seen = some ⟨gocWorld_seen, godWorld_seen, .func (PySem.W.fnOf "seen" "World.seen" (defArgs sWSe) (defBody sWSe) (defScope sWSe) .none gkVWorld_seen gdcWorld_seen gpmWorld_seen ganWorld_seen gcdWorld_seen gctWorld_seen), gslWorld_seen⟩)
    (gcWorld_seen : PySem.W.codeIn K gcdWorld_seen "World.seen" = true)
    (gfWorld_seen : PySem.W.isFn K (.ref gWorld_seen) = true)
    (gkWorld_seen : PySem.W.keepIn K (.ref gWorld_seen) = true)
    (giWorld_counters : PySem.W.findIn K (.ref C_World) "counters" = some (some (.ref gWorld_counters)))
    (glWorld_counters : K.lookup gWorld_counters = some ⟨gocWorld_counters, godWorld_counters, .func (PySem.W.fnOf "counters" "World.counters" (defArgs sWCo) (defBody sWCo) (defScope sWCo) .none gkVWorld_counters gdcWorld_counters gpmWorld_counters ganWorld_counters gcdWorld_counters gctWorld_counters), gslWorld_counters⟩)
    (gcWorld_counters : PySem.W.codeIn K gcdWorld_counters "World.counters" = true)
    (gfWorld_counters : PySem.W.isFn K (.ref gWorld_counters) = true)
    (gkWorld_counters : PySem.W.keepIn K (.ref gWorld_counters) = true)
    (a14 : PySem.W.nsIn K mainGlobals "fits_fact" = some (some (.ref f14)))
    (l14 : K.lookup f14 = some ⟨oc14, od14, .func (PySem.W.fnOf "fits_fact" "fits_fact" (defArgs sFiF) (defBody sFiF) (defScope sFiF) .none kV14 dc14 pm14 an14 cd14 ct14), sl14⟩)
    (c14 : PySem.W.codeIn K cd14 "fits_fact" = true)
    (k14 : PySem.W.keepIn K (.ref f14) = true)
    (a15 : PySem.W.nsIn K mainGlobals "fits_pile" = some (some (.ref f15)))
    (l15 : K.lookup f15 = some ⟨oc15, od15, .func (PySem.W.fnOf "fits_pile" "fits_pile" (defArgs sFiP) (defBody sFiP) (defScope sFiP) .none kV15 dc15 pm15 an15 cd15 ct15), sl15⟩)
    (c15 : PySem.W.codeIn K cd15 "fits_pile" = true)
    (k15 : PySem.W.keepIn K (.ref f15) = true)
    (a16 : PySem.W.nsIn K mainGlobals "fits_reserve" = some (some (.ref f16)))
    (l16 : K.lookup f16 = some ⟨oc16, od16, .func (PySem.W.fnOf "fits_reserve" "fits_reserve" (defArgs sFiR) (defBody sFiR) (defScope sFiR) .none kV16 dc16 pm16 an16 cd16 ct16), sl16⟩)
    (c16 : PySem.W.codeIn K cd16 "fits_reserve" = true)
    (k16 : PySem.W.keepIn K (.ref f16) = true)
    (a17 : PySem.W.nsIn K mainGlobals "has_name" = some (some (.ref f17)))
    (l17 : K.lookup f17 = some ⟨oc17, od17, .func (PySem.W.fnOf "has_name" "has_name" (defArgs sHaN) (defBody sHaN) (defScope sHaN) .none kV17 dc17 pm17 an17 cd17 ct17), sl17⟩)
    (c17 : PySem.W.codeIn K cd17 "has_name" = true)
    (k17 : PySem.W.keepIn K (.ref f17) = true)
    (a18 : PySem.W.nsIn K mainGlobals "fits" = some (some (.ref f18)))
    (l18 : K.lookup f18 = some ⟨oc18, od18, .func (PySem.W.fnOf "fits" "fits" (defArgs sFit) (defBody sFit) (defScope sFit) .none kV18 dc18 pm18 an18 cd18 ct18), sl18⟩)
    (c18 : PySem.W.codeIn K cd18 "fits" = true)
    (k18 : PySem.W.keepIn K (.ref f18) = true)
    (pcOGif : PySem.W.fnIn K gOutcome_getitem = true)
    (a19 : PySem.W.nsIn K mainGlobals "check_outcome" = some (some (.ref f19)))
    (l19 : K.lookup f19 = some ⟨oc19, od19, .func (PySem.W.fnOf "check_outcome" "check_outcome" (defArgs sCkO) (defBody sCkO) (defScope sCkO) .none kV19 dc19 pm19 an19 cd19 ct19), sl19⟩)
    (c19 : PySem.W.codeIn K cd19 "check_outcome" = true)
    (k19 : PySem.W.keepIn K (.ref f19) = true)
    (a20 : PySem.W.nsIn K mainGlobals "takes_from_reserve" = some (some (.ref f20)))
    (l20 : K.lookup f20 = some ⟨oc20, od20, .func (PySem.W.fnOf "takes_from_reserve" "takes_from_reserve" (defArgs sTkR) (defBody sTkR) (defScope sTkR) .none kV20 dc20 pm20 an20 cd20 ct20), sl20⟩)
    (c20 : PySem.W.codeIn K cd20 "takes_from_reserve" = true)
    (k20 : PySem.W.keepIn K (.ref f20) = true)
    (a21 : PySem.W.nsIn K mainGlobals "check_seen" = some (some (.ref f21)))
    (l21 : K.lookup f21 = some ⟨oc21, od21, .func (PySem.W.fnOf "check_seen" "check_seen" (defArgs sCkS) (defBody sCkS) (defScope sCkS) .none kV21 dc21 pm21 an21 cd21 ct21), sl21⟩)
    (c21 : PySem.W.codeIn K cd21 "check_seen" = true)
    (k21 : PySem.W.keepIn K (.ref f21) = true)
    (a22 : PySem.W.nsIn K mainGlobals "check_action" = some (some (.ref f22)))
    (l22 : K.lookup f22 = some ⟨oc22, od22, .func (PySem.W.fnOf "check_action" "check_action" (defArgs sCkA) (defBody sCkA) (defScope sCkA) .none kV22 dc22 pm22 an22 cd22 ct22), sl22⟩)
    (c22 : PySem.W.codeIn K cd22 "check_action" = true)
    (k22 : PySem.W.keepIn K (.ref f22) = true)
    (giWorld_setitem : PySem.W.findIn K (.ref C_World) "__setitem__" = some (some (.ref gWorld_setitem)))
    (glWorld_setitem : K.lookup gWorld_setitem = some ⟨gocWorld_setitem, godWorld_setitem, .func (PySem.W.fnOf "__setitem__" "World.__setitem__" (defArgs sWSi) (defBody sWSi) (defScope sWSi) .none gkVWorld_setitem gdcWorld_setitem gpmWorld_setitem ganWorld_setitem gcdWorld_setitem gctWorld_setitem), gslWorld_setitem⟩)
    (gcWorld_setitem : PySem.W.codeIn K gcdWorld_setitem "World.__setitem__" = true)
    (gfWorld_setitem : PySem.W.isFn K (.ref gWorld_setitem) = true)
    (gkWorld_setitem : PySem.W.keepIn K (.ref gWorld_setitem) = true)
    (ia_Condition : PySem.W.findIn K (.ref C_Condition) "__class__" = some (some (.builtin "object.__class__")))
    (in_ : PySem.W.specialIn K (.builtin "object.__class__") "__get__" = some (some (.builtin "getset_descriptor.__get__")))
    (it_ : PySem.W.takesIn K (.builtin "object.__class__") = some true)
    (im_Condition : PySem.W.mroIn K C_Condition (.type "object") = some true)
    (kit_Condition : PySem.W.kitOne K (.ref C_Condition) (.ref C_Condition) = some true)
    (giCondition_and : PySem.W.findIn K (.ref C_Condition) "__and__" = some (some (.ref gCondition_and)))
    (glCondition_and : K.lookup gCondition_and = some ⟨gocCondition_and, godCondition_and, .func (PySem.W.fnOf "__and__" "Condition.__and__" (defArgs sAnd) (defBody sAnd) (defScope sAnd) .none gkVCondition_and gdcCondition_and gpmCondition_and ganCondition_and gcdCondition_and gctCondition_and), gslCondition_and⟩)
    (gcCondition_and : PySem.W.codeIn K gcdCondition_and "Condition.__and__" = true)
    (gfCondition_and : PySem.W.isFn K (.ref gCondition_and) = true)
    (gkCondition_and : PySem.W.keepIn K (.ref gCondition_and) = true)
    (giCondition_or : PySem.W.findIn K (.ref C_Condition) "__or__" = some (some (.ref gCondition_or)))
    (glCondition_or : K.lookup gCondition_or = some ⟨gocCondition_or, godCondition_or, .func (PySem.W.fnOf "__or__" "Condition.__or__" (defArgs sOr) (defBody sOr) (defScope sOr) .none gkVCondition_or gdcCondition_or gpmCondition_or ganCondition_or gcdCondition_or gctCondition_or), gslCondition_or⟩)
    (gcCondition_or : PySem.W.codeIn K gcdCondition_or "Condition.__or__" = true)
    (gfCondition_or : PySem.W.isFn K (.ref gCondition_or) = true)
    (gkCondition_or : PySem.W.keepIn K (.ref gCondition_or) = true)
    (giCondition_invert : PySem.W.findIn K (.ref C_Condition) "__invert__" = some (some (.ref gCondition_invert)))
    (glCondition_invert : K.lookup gCondition_invert = some ⟨gocCondition_invert, godCondition_invert, .func (PySem.W.fnOf "__invert__" "Condition.__invert__" (defArgs sInv) (defBody sInv) (defScope sInv) .none gkVCondition_invert gdcCondition_invert gpmCondition_invert ganCondition_invert gcdCondition_invert gctCondition_invert), gslCondition_invert⟩)
    (gcCondition_invert : PySem.W.codeIn K gcdCondition_invert "Condition.__invert__" = true)
    (gfCondition_invert : PySem.W.isFn K (.ref gCondition_invert) = true)
    (gkCondition_invert : PySem.W.keepIn K (.ref gCondition_invert) = true)
    (a23 : PySem.W.nsIn K mainGlobals "_law_mixed" = some (some (.ref f23)))
    (l23 : K.lookup f23 = some ⟨oc23, od23, .func (PySem.W.fnOf "_law_mixed" "_law_mixed" (defArgs sMixed) (defBody sMixed) (defScope sMixed) .none kV23 dc23 pm23 an23 cd23 ct23), sl23⟩)
    (c23 : PySem.W.codeIn K cd23 "_law_mixed" = true)
    (k23 : PySem.W.keepIn K (.ref f23) = true)
    (a24 : PySem.W.nsIn K mainGlobals "_law_condition" = some (some (.ref f24)))
    (l24 : K.lookup f24 = some ⟨oc24, od24, .func (PySem.W.fnOf "_law_condition" "_law_condition" (defArgs sCnd) (defBody sCnd) (defScope sCnd) .none kV24 dc24 pm24 an24 cd24 ct24), sl24⟩)
    (c24 : PySem.W.codeIn K cd24 "_law_condition" = true)
    (k24 : PySem.W.keepIn K (.ref f24) = true)
    (sf_Condition : PySem.W.selfFirst K C_Condition = true)
    (a25 : PySem.W.nsIn K mainGlobals "_law_built" = some (some (.ref f25)))
    (l25 : K.lookup f25 = some ⟨oc25, od25, .func (PySem.W.fnOf "_law_built" "_law_built" (defArgs sBlt) (defBody sBlt) (defScope sBlt) .none kV25 dc25 pm25 an25 cd25 ct25), sl25⟩)
    (c25 : PySem.W.codeIn K cd25 "_law_built" = true)
    (k25 : PySem.W.keepIn K (.ref f25) = true)
    (a26 : PySem.W.nsIn K mainGlobals "_law_lists" = some (some (.ref f26)))
    (l26 : K.lookup f26 = some ⟨oc26, od26, .func (PySem.W.fnOf "_law_lists" "_law_lists" (defArgs sLLi) (defBody sLLi) (defScope sLLi) .none kV26 dc26 pm26 an26 cd26 ct26), sl26⟩)
    (c26 : PySem.W.codeIn K cd26 "_law_lists" = true)
    (k26 : PySem.W.keepIn K (.ref f26) = true)
    (a27 : PySem.W.nsIn K mainGlobals "_law_seen" = some (some (.ref f27)))
    (l27 : K.lookup f27 = some ⟨oc27, od27, .func (PySem.W.fnOf "_law_seen" "_law_seen" (defArgs sLSe) (defBody sLSe) (defScope sLSe) .none kV27 dc27 pm27 an27 cd27 ct27), sl27⟩)
    (c27 : PySem.W.codeIn K cd27 "_law_seen" = true)
    (k27 : PySem.W.keepIn K (.ref f27) = true)
    (a28 : PySem.W.nsIn K mainGlobals "_law_changes" = some (some (.ref f28)))
    (l28 : K.lookup f28 = some ⟨oc28, od28, .func (PySem.W.fnOf "_law_changes" "_law_changes" (defArgs sLCh) (defBody sLCh) (defScope sLCh) .none kV28 dc28 pm28 an28 cd28 ct28), sl28⟩)
    (c28 : PySem.W.codeIn K cd28 "_law_changes" = true)
    (k28 : PySem.W.keepIn K (.ref f28) = true)
    (a29 : PySem.W.nsIn K mainGlobals "_law_action" = some (some (.ref f29)))
    (l29 : K.lookup f29 = some ⟨oc29, od29, .func (PySem.W.fnOf "_law_action" "_law_action" (defArgs sLAc) (defBody sLAc) (defScope sLAc) .none kV29 dc29 pm29 an29 cd29 ct29), sl29⟩)
    (c29 : PySem.W.codeIn K cd29 "_law_action" = true)
    (k29 : PySem.W.keepIn K (.ref f29) = true)
    (hnq : PySem.W.noSeq K C_World = true)
    (a30 : PySem.W.nsIn K mainGlobals "_law_made" = some (some (.ref f30)))
    (l30 : K.lookup f30 = some ⟨oc30, od30, .func (PySem.W.fnOf "_law_made" "_law_made" (defArgs sLMa) (defBody sLMa) (defScope sLMa) .none kV30 dc30 pm30 an30 cd30 ct30), sl30⟩)
    (c30 : PySem.W.codeIn K cd30 "_law_made" = true)
    (k30 : PySem.W.keepIn K (.ref f30) = true)
    (a31 : PySem.W.nsIn K mainGlobals "all_states" = some (some (.ref f31)))
    (l31 : K.lookup f31 = some ⟨oc31, od31, .func (PySem.W.fnOf "all_states" "all_states" (defArgs sAlS) (defBody sAlS) (defScope sAlS) .none kV31 dc31 pm31 an31 cd31 ct31), sl31⟩)
    (c31 : PySem.W.codeIn K cd31 "all_states" = true)
    (k31 : PySem.W.keepIn K (.ref f31) = true)
    (a32 : PySem.W.nsIn K mainGlobals "are_some_of" = some (some (.ref f32)))
    (l32 : K.lookup f32 = some ⟨oc32, od32, .func (PySem.W.fnOf "are_some_of" "are_some_of" (defArgs sASo) (defBody sASo) (defScope sASo) .none kV32 dc32 pm32 an32 cd32 ct32), sl32⟩)
    (c32 : PySem.W.codeIn K cd32 "are_some_of" = true)
    (k32 : PySem.W.keepIn K (.ref f32) = true)
    (a33 : PySem.W.nsIn K mainGlobals "in_order" = some (some (.ref f33)))
    (l33 : K.lookup f33 = some ⟨oc33, od33, .func (PySem.W.fnOf "in_order" "in_order" (defArgs sInO) (defBody sInO) (defScope sInO) .none kV33 dc33 pm33 an33 cd33 ct33), sl33⟩)
    (c33 : PySem.W.codeIn K cd33 "in_order" = true)
    (k33 : PySem.W.keepIn K (.ref f33) = true)
    (giWorld_state_of : PySem.W.findIn K (.ref C_World) "state_of" = some (some (.ref gWorld_state_of)))
    (glWorld_state_of : K.lookup gWorld_state_of = some ⟨gocWorld_state_of, godWorld_state_of, .func (PySem.W.fnOf "state_of" "World.state_of" (defArgs sWSo) (defBody sWSo) (defScope sWSo) .none gkVWorld_state_of gdcWorld_state_of gpmWorld_state_of ganWorld_state_of gcdWorld_state_of gctWorld_state_of), gslWorld_state_of⟩)
    (gcWorld_state_of : PySem.W.codeIn K gcdWorld_state_of "World.state_of" = true)
    (gfWorld_state_of : PySem.W.isFn K (.ref gWorld_state_of) = true)
    (gkWorld_state_of : PySem.W.keepIn K (.ref gWorld_state_of) = true)
    (giWorld_states : PySem.W.findIn K (.ref C_World) "states" = some (some (.ref gWorld_states)))
    (glWorld_states : K.lookup gWorld_states = some ⟨gocWorld_states, godWorld_states, .func (PySem.W.fnOf "states" "World.states" (defArgs sWSt) (defBody sWSt) (defScope sWSt) .none gkVWorld_states gdcWorld_states gpmWorld_states ganWorld_states gcdWorld_states gctWorld_states), gslWorld_states⟩)
    (gcWorld_states : PySem.W.codeIn K gcdWorld_states "World.states" = true)
    (gfWorld_states : PySem.W.isFn K (.ref gWorld_states) = true)
    (gkWorld_states : PySem.W.keepIn K (.ref gWorld_states) = true)
    (giWorld_remove : PySem.W.findIn K (.ref C_World) "remove" = some (some (.ref gWorld_remove)))
    (glWorld_remove : K.lookup gWorld_remove = some ⟨gocWorld_remove, godWorld_remove, .func (PySem.W.fnOf "remove" "World.remove" (defArgs sWRm) (defBody sWRm) (defScope sWRm) .none gkVWorld_remove gdcWorld_remove gpmWorld_remove ganWorld_remove gcdWorld_remove gctWorld_remove), gslWorld_remove⟩)
    (gcWorld_remove : PySem.W.codeIn K gcdWorld_remove "World.remove" = true)
    (gfWorld_remove : PySem.W.isFn K (.ref gWorld_remove) = true)
    (gkWorld_remove : PySem.W.keepIn K (.ref gWorld_remove) = true)
    (giWorld_copy : PySem.W.findIn K (.ref C_World) "copy" = some (some (.ref gWorld_copy)))
    (glWorld_copy : K.lookup gWorld_copy = some ⟨gocWorld_copy, godWorld_copy, .func (PySem.W.fnOf "copy" "World.copy" (defArgs sWCp) (defBody sWCp) (defScope sWCp) .none gkVWorld_copy gdcWorld_copy gpmWorld_copy ganWorld_copy gcdWorld_copy gctWorld_copy), gslWorld_copy⟩)
    (gcWorld_copy : PySem.W.codeIn K gcdWorld_copy "World.copy" = true)
    (gfWorld_copy : PySem.W.isFn K (.ref gWorld_copy) = true)
    (gkWorld_copy : PySem.W.keepIn K (.ref gWorld_copy) = true)
    (a34 : PySem.W.nsIn K mainGlobals "_law_states" = some (some (.ref f34)))
    (l34 : K.lookup f34 = some ⟨oc34, od34, .func (PySem.W.fnOf "_law_states" "_law_states" (defArgs sLSs) (defBody sLSs) (defScope sLSs) .none kV34 dc34 pm34 an34 cd34 ct34), sl34⟩)
    (c34 : PySem.W.codeIn K cd34 "_law_states" = true)
    (k34 : PySem.W.keepIn K (.ref f34) = true)
    (a35 : PySem.W.nsIn K mainGlobals "law" = some (some (.ref f35)))
    (l35 : K.lookup f35 = some ⟨oc35, od35, .func (PySem.W.fnOf "law" "law" (defArgs sLaw) (defBody sLaw) (defScope sLaw) .none kV35 dc35 pm35 an35 cd35 ct35), sl35⟩)
    (c35 : PySem.W.codeIn K cd35 "law" = true)
    (k35 : PySem.W.keepIn K (.ref f35) = true)
    (z_len : PySem.W.nsIn K mainGlobals "len" = some none)
    (z_list : PySem.W.nsIn K mainGlobals "list" = some none)
    (z_tuple : PySem.W.nsIn K mainGlobals "tuple" = some none)
    (z_int : PySem.W.nsIn K mainGlobals "int" = some none)
    (z_repr : PySem.W.nsIn K mainGlobals "repr" = some none)
    (z_range : PySem.W.nsIn K mainGlobals "range" = some none)
    (z_all : PySem.W.nsIn K mainGlobals "all" = some none)
    (z_zip : PySem.W.nsIn K mainGlobals "zip" = some none)
    (z_enumerate : PySem.W.nsIn K mainGlobals "enumerate" = some none)
    (z_isinstance : PySem.W.nsIn K mainGlobals "isinstance" = some none)
    (z_str : PySem.W.nsIn K mainGlobals "str" = some none)
    (z_bool : PySem.W.nsIn K mainGlobals "bool" = some none)
    (z_dict : PySem.W.nsIn K mainGlobals "dict" = some none)
    (z_any : PySem.W.nsIn K mainGlobals "any" = some none)
    (z_min : PySem.W.nsIn K mainGlobals "min" = some none)
    (z_sorted : PySem.W.nsIn K mainGlobals "sorted" = some none)
    (z_set : PySem.W.nsIn K mainGlobals "set" = some none)
    (z_max : PySem.W.nsIn K mainGlobals "max" = some none)
    (z_sum : PySem.W.nsIn K mainGlobals "sum" = some none)
    : ∃ fd : FuncData, (∀ (s : Shared) (v : Value), BindsTo s fd ⟨[v], []⟩ [("_law_script", v)]) ∧ ∀ base : Heap, K.In base → base.Ns mainGlobals mg → FnG l.prog w K mg base (L2.CX l.prog w) 15 fa fd ["_law_script"] (spD K FLaw) := by
  have e := hfa.symm.trans (PySem.W.mg_of X G a35)
  cases e
  have T : NoB mg := ⟨PySem.W.mg_none_of X G z_len, PySem.W.mg_none_of X G z_list, PySem.W.mg_none_of X G z_tuple, PySem.W.mg_none_of X G z_int, PySem.W.mg_none_of X G z_repr, PySem.W.mg_none_of X G z_range, PySem.W.mg_none_of X G z_all, PySem.W.mg_none_of X G z_zip, PySem.W.mg_none_of X G z_enumerate, PySem.W.mg_none_of X G z_isinstance, PySem.W.mg_none_of X G z_str, PySem.W.mg_none_of X G z_bool, PySem.W.mg_none_of X G z_dict, PySem.W.mg_none_of X G z_any, PySem.W.mg_none_of X G z_min, PySem.W.mg_none_of X G z_sorted, PySem.W.mg_none_of X G z_set, PySem.W.mg_none_of X G z_max, PySem.W.mg_none_of X G z_sum⟩
  refine ⟨PySem.W.fnOf "law" "law" (defArgs sLaw) (defBody sLaw) (defScope sLaw) .none kV35 dc35 pm35 an35 cd35 ct35, fun s v => .of_eq rfl, fun base _ _ => ?_⟩
  have F0 := fun_mk (st := sDraw) l0 c0 k0
  have b0 := F0.binds (ps := ["_law_stream", "_law_many"]) fun _ _ _ _ _ _ us hl => match us, hl with | [_, _], _ => rfl
  have cD := cal_draw (P := l.prog) (w := w) (K := K) (mg := mg) (base := base)  T F0 (PySem.W.mg_of X G a0) k0 b0
  have F1 := fun_mk (st := sPick) l1 c1 k1
  have b1 := F1.binds (ps := ["_law_stream", "_law_some"]) fun _ _ _ _ _ _ us hl => match us, hl with | [_, _], _ => rfl
  have cP := cal_pick (P := l.prog) (w := w) (K := K) (mg := mg) (base := base) cD T F1 (PySem.W.mg_of X G a1) k1 b1
  have F2 := fun_mk (st := sSame) l2 c2 k2
  have b2 := F2.binds (ps := ["_law_found", "_law_due"]) fun _ _ _ _ _ _ us hl => match us, hl with | [_, _], _ => rfl
  have cSm := cal_same (P := l.prog) (w := w) (K := K) (mg := mg) (base := base)  T F2 (PySem.W.mg_of X G a2) k2 b2
  have F3 := fun_mk (st := sName) l3 c3 k3
  have b3 := F3.binds (ps := ["_law_stream", "_law_taken"]) fun _ _ _ _ _ _ us hl => match us, hl with | [_, _], _ => rfl
  have cN := cal_name (P := l.prog) (w := w) (K := K) (mg := mg) (base := base) cD T F3 (PySem.W.mg_of X G a3) k3 b3
  have F4 := fun_mk (st := sNames) l4 c4 k4
  have b4 := F4.binds (ps := ["_law_stream", "_law_many", "_law_taken"]) fun _ _ _ _ _ _ us hl => match us, hl with | [_, _, _], _ => rfl
  have cNs := cal_names (P := l.prog) (w := w) (K := K) (mg := mg) (base := base) cN T F4 (PySem.W.mg_of X G a4) k4 b4
  have F5 := fun_mk (st := sLet) l5 c5 k5
  have b5 := F5.binds (ps := ["sign"]) fun _ _ _ _ _ _ us hl => match us, hl with | [_], _ => rfl
  have cLet := cal_let (P := l.prog) (w := w) (K := K) (mg := mg) (base := base)  T F5 (PySem.W.mg_of X G a5) k5 b5
  have hm_RESERVED := PySem.W.mg_of X G ac_RESERVED
  have l_RESERVED : ∀ H0 : Hp, SqT K H0 TR_RESERVED (Reserved.map V.str) := fun H0 => .inr ⟨_, iR_RESERVED, nR_RESERVED, lc_RESERVED, rfl, rfl, zc_RESERVED, vc_RESERVED⟩
  have hm_LONGEST := PySem.W.mg_of X G ac_LONGEST
  have F6 := fun_mk (st := sIsN) l6 c6 k6
  have b6 := F6.binds (ps := ["value"]) fun _ _ _ _ _ _ us hl => match us, hl with | [_], _ => rfl
  have cIsN := cal_isn (P := l.prog) (w := w) (K := K) (mg := mg) (base := base) cLet hm_RESERVED l_RESERVED hm_LONGEST T F6 (PySem.W.mg_of X G a6) k6 b6
  have TE_BadName : SupK l.prog K mg C_BadName cdaE_BadName ccE_BadName := ⟨⟨⟨nmE_BadName, qE_BadName, NE_BadName, bsE_BadName, bmE_BadName, snE_BadName, subE_BadName, abE_BadName, colE_BadName, ddE_BadName, k0E_BadName, k1E_BadName, k2E_BadName, k3E_BadName, k5E_BadName, lCE_BadName, rvE_BadName⟩, saE_BadName, exCE_BadName, tyCE_BadName, kCE_BadName⟩, ⟨_, _, _, _, _, _, lcdE_BadName, hvsE_BadName, hfileE_BadName⟩, ⟨_, _, _, lccE_BadName⟩, msE_BadName, PySem.W.mg_none_of X G su_, tp_, iniE_BadName, basE_BadName, tpa_⟩
  have hm_BadName := PySem.W.mg_of X G aC_BadName
  have erc_BadName : Erc l.prog w K mg base 1 "BadName" C_BadName eOk_BadName eFl_BadName := Dl.erc_BadName TE_BadName lfE_BadName cfE_BadName tf_E_BadName iCE_BadName hm_BadName no_BadName_name
  have F7 := fun_mk (st := sChE) l7 c7 k7
  have b7 := F7.binds (ps := ["name"]) fun _ _ _ _ _ _ us hl => match us, hl with | [_], _ => rfl
  have cChE := cal_che (P := l.prog) (w := w) (K := K) (mg := mg) (base := base) cIsN erc_BadName T F7 (PySem.W.mg_of X G a7) k7 b7
  have TE_BadChange : SupK l.prog K mg C_BadChange cdaE_BadChange ccE_BadChange := ⟨⟨⟨nmE_BadChange, qE_BadChange, NE_BadChange, bsE_BadChange, bmE_BadChange, snE_BadChange, subE_BadChange, abE_BadChange, colE_BadChange, ddE_BadChange, k0E_BadChange, k1E_BadChange, k2E_BadChange, k3E_BadChange, k5E_BadChange, lCE_BadChange, rvE_BadChange⟩, saE_BadChange, exCE_BadChange, tyCE_BadChange, kCE_BadChange⟩, ⟨_, _, _, _, _, _, lcdE_BadChange, hvsE_BadChange, hfileE_BadChange⟩, ⟨_, _, _, lccE_BadChange⟩, msE_BadChange, PySem.W.mg_none_of X G su_, tp_, iniE_BadChange, basE_BadChange, tpa_⟩
  have hm_BadChange := PySem.W.mg_of X G aC_BadChange
  have erc_BadChange : Erc l.prog w K mg base 1 "BadChange" C_BadChange eOk_BadChange eFl_BadChange := Dl.erc_BadChange TE_BadChange lfE_BadChange cfE_BadChange tf_E_BadChange iCE_BadChange hm_BadChange no_BadChange_name no_BadChange_change
  have F8 := fun_mk (st := sIsC) l8 c8 k8
  have b8 := F8.binds (ps := ["value"]) fun _ _ _ _ _ _ us hl => match us, hl with | [_], _ => rfl
  have cIsC := cal_isc (P := l.prog) (w := w) (K := K) (mg := mg) (base := base) kit_bb kit_sb kit_ss kit_nb kit_ns T F8 (PySem.W.mg_of X G a8) k8 b8
  have F9 := fun_mk (st := sCkE) l9 c9 k9
  have b9 := F9.binds (ps := ["name", "change"]) fun _ _ _ _ _ _ us hl => match us, hl with | [_, _], _ => rfl
  have cCkE := cal_cke (P := l.prog) (w := w) (K := K) (mg := mg) (base := base) cChE cIsC erc_BadChange T F9 (PySem.W.mg_of X G a9) k9 b9
  have na_changes : NoAttr K C_Outcome ("_changes" : Str) := pna_changes
  have cls_Outcome : Cls K C_Outcome := ⟨pg_Outcome, hd_Outcome, po_Outcome, sa_Outcome⟩
  have GOutcome_names := fun_mk1 (st := sONm) glOutcome_names gcOutcome_names
  have gbOutcome_names := (fun_mk (st := sONm) glOutcome_names gcOutcome_names gkOutcome_names).binds (ps := ["self"]) fun _ _ _ _ _ _ us hl => match us, hl with | [_], _ => rfl
  have MOutcome_names : Meth K C_Outcome "names" gOutcome_names := ⟨giOutcome_names, gfOutcome_names, gkOutcome_names⟩
  have cONm := met_ONm (P := l.prog) (w := w) (K := K) (mg := mg) (base := base) na_changes T GOutcome_names cls_Outcome MOutcome_names gbOutcome_names
  have GOutcome_getitem := fun_mk1 (st := sOGi) glOutcome_getitem gcOutcome_getitem
  have gbOutcome_getitem := (fun_mk (st := sOGi) glOutcome_getitem gcOutcome_getitem gkOutcome_getitem).binds (ps := ["self", "name"]) fun _ _ _ _ _ _ us hl => match us, hl with | [_, _], _ => rfl
  have MOutcome_getitem : Meth K C_Outcome "__getitem__" gOutcome_getitem := ⟨giOutcome_getitem, gfOutcome_getitem, gkOutcome_getitem⟩
  have cOGi := met_OGi (P := l.prog) (w := w) (K := K) (mg := mg) (base := base) na_changes T GOutcome_getitem cls_Outcome MOutcome_getitem gbOutcome_getitem
  have F10 := fun_mk (st := sNmA) l10 c10 k10
  have b10 := F10.binds (ps := ["words"]) fun _ _ _ _ _ _ us hl => match us, hl with | [_], _ => rfl
  have cnma := cal_nma (P := l.prog) (w := w) (K := K) (mg := mg) (base := base) hm_RESERVED l_RESERVED T F10 (PySem.W.mg_of X G a10) k10 b10
  have cls_Condition : Cls K C_Condition := ⟨pg_Condition, hd_Condition, po_Condition, sa_Condition⟩
  have na_words : NoAttr K C_Condition ("_words" : Str) := pna_words
  have GCondition_init := fun_mk1 (st := sIni) glCondition_init gcCondition_init
  have gbCondition_init := (fun_mk (st := sIni) glCondition_init gcCondition_init gkCondition_init).binds (ps := ["self", "words"]) fun _ _ _ _ _ _ us hl => match us, hl with | [_, _], _ => rfl
  have MCondition_init : Mk K C_Condition gCondition_init := ⟨mk_Condition, giCondition_init, gfCondition_init, kC_Condition⟩
  have cCo := mak_cond (P := l.prog) (w := w) (K := K) (mg := mg) (base := base) cls_Condition na_words T GCondition_init (PySem.W.mg_of X G aC_Condition) MCondition_init gbCondition_init
  have GCondition_of := fun_mk1 (st := sOf) glCondition_of gcCondition_of
  have gbCondition_of := (fun_mk (st := sOf) glCondition_of gcCondition_of gkCondition_of).binds (ps := ["name"]) fun _ _ _ _ _ _ us hl => match us, hl with | [_], _ => rfl
  have MCondition_of : SMet K C_Condition "of" gCondition_of := smet_mk st_Condition sr_Condition sg_Condition gaCondition_of giCondition_of gtCondition_of gsCondition_of gpCondition_of gvCondition_of gkCondition_of
  have cOf := sta_Of (P := l.prog) (w := w) (K := K) (mg := mg) (base := base) cChE cCo T GCondition_of MCondition_of gbCondition_of
  have GCondition_always := fun_mk1 (st := sAl) glCondition_always gcCondition_always
  have gbCondition_always := (fun_mk (st := sAl) glCondition_always gcCondition_always gkCondition_always).binds (ps := []) fun _ _ _ _ _ _ us hl => match us, hl with | [], _ => rfl
  have MCondition_always : SMet K C_Condition "always" gCondition_always := smet_mk st_Condition sr_Condition sg_Condition gaCondition_always giCondition_always gtCondition_always gsCondition_always gpCondition_always gvCondition_always gkCondition_always
  have cAl := sta_Al (P := l.prog) (w := w) (K := K) (mg := mg) (base := base) cCo T GCondition_always MCondition_always gbCondition_always
  have GCondition_never := fun_mk1 (st := sNv) glCondition_never gcCondition_never
  have gbCondition_never := (fun_mk (st := sNv) glCondition_never gcCondition_never gkCondition_never).binds (ps := []) fun _ _ _ _ _ _ us hl => match us, hl with | [], _ => rfl
  have MCondition_never : SMet K C_Condition "never" gCondition_never := smet_mk st_Condition sr_Condition sg_Condition gaCondition_never giCondition_never gtCondition_never gsCondition_never gpCondition_never gvCondition_never gkCondition_never
  have cNv := sta_Nv (P := l.prog) (w := w) (K := K) (mg := mg) (base := base) cCo T GCondition_never MCondition_never gbCondition_never
  have GCondition_names := fun_mk1 (st := sNms) glCondition_names gcCondition_names
  have gbCondition_names := (fun_mk (st := sNms) glCondition_names gcCondition_names gkCondition_names).binds (ps := ["self"]) fun _ _ _ _ _ _ us hl => match us, hl with | [_], _ => rfl
  have MCondition_names : Meth K C_Condition "names" gCondition_names := ⟨giCondition_names, gfCondition_names, gkCondition_names⟩
  have cNms := met_Nms (P := l.prog) (w := w) (K := K) (mg := mg) (base := base) na_words cnma T GCondition_names cls_Condition MCondition_names gbCondition_names
  have GOutcome_init := fun_mk1 (st := sOIni) glOutcome_init gcOutcome_init
  obtain ⟨daOutcome_init, raOutcome_init, gbOutcome_init⟩ := binds_d (st := sOIni) (ps := ["self", "changes"]) (dvs := [.non]) 2 1 glOutcome_init gcOutcome_init gkOutcome_init gTOutcome_init (.cons rfl .nil) (by simp) rfl fun _ _ _ _ _ _ _ us its hl hi => match us, its, hl, hi with | [_, _], [_], _, _ => ⟨_, rfl, rfl⟩
  cases raOutcome_init
  obtain ⟨dnOutcome_init, hvOutcome_init, gbnOutcome_init⟩ := binds_d (st := sOIni) (ps := ["self", "changes"]) (dvs := [.non]) 1 0 glOutcome_init gcOutcome_init gkOutcome_init gTOutcome_init (.cons rfl .nil) (by simp) rfl fun _ _ _ _ _ _ _ us its hl hi => match us, its, hl, hi with | [_], [_], _, _ => ⟨_, rfl, rfl⟩
  have haOutcome_init : ∀ ι H, Ats K ι H [.non] [.non] := fun ι H => (.cons .non .nil)
  have MOutcome_init : Mk K C_Outcome gOutcome_init := ⟨mk_Outcome, giOutcome_init, gfOutcome_init, kC_Outcome⟩
  have couD := mak_ouD (P := l.prog) (w := w) (K := K) (mg := mg) (base := base) cls_Outcome na_changes cCkE T GOutcome_init (PySem.W.mg_of X G aC_Outcome) MOutcome_init gbOutcome_init .nil (dds := []) (fun _ _ => .nil)
  have couDN := mak_ouD (P := l.prog) (w := w) (K := K) (mg := mg) (base := base) cls_Outcome na_changes cCkE T GOutcome_init (PySem.W.mg_of X G aC_Outcome) MOutcome_init gbnOutcome_init hvOutcome_init haOutcome_init
  have GOutcome_copy := fun_mk1 (st := sOCp) glOutcome_copy gcOutcome_copy
  have gbOutcome_copy := (fun_mk (st := sOCp) glOutcome_copy gcOutcome_copy gkOutcome_copy).binds (ps := ["self"]) fun _ _ _ _ _ _ us hl => match us, hl with | [_], _ => rfl
  have MOutcome_copy : Meth K C_Outcome "copy" gOutcome_copy := ⟨giOutcome_copy, gfOutcome_copy, gkOutcome_copy⟩
  have cOCpD := met_OCpD (P := l.prog) (w := w) (K := K) (mg := mg) (base := base) na_changes couD T GOutcome_copy cls_Outcome MOutcome_copy gbOutcome_copy
  have cls_Action : Cls K C_Action := ⟨pg_Action, hd_Action, po_Action, sa_Action⟩
  have na_need : NoAttr K C_Action ("need" : Str) := pna_need
  have na_outcomes : NoAttr K C_Action ("_outcomes" : Str) := pna_outcomes
  have GAction_init := fun_mk1 (st := sAIni) glAction_init gcAction_init
  have gbAction_init := (fun_mk (st := sAIni) glAction_init gcAction_init gkAction_init).binds (ps := ["self", "need", "outcomes"]) fun _ _ _ _ _ _ us hl => match us, hl with | [_, _, _], _ => rfl
  have MAction_init : Mk K C_Action gAction_init := ⟨mk_Action, giAction_init, gfAction_init, kC_Action⟩
  have cAc := mak_ac (P := l.prog) (w := w) (K := K) (mg := mg) (base := base) cls_Action na_need na_outcomes cOCpD T GAction_init (PySem.W.mg_of X G aC_Action) MAction_init gbAction_init
  have hm_Outcome := PySem.W.mg_of X G aC_Outcome
  have GAction_len := fun_mk1 (st := sALn) glAction_len gcAction_len
  have gbAction_len := (fun_mk (st := sALn) glAction_len gcAction_len gkAction_len).binds (ps := ["self"]) fun _ _ _ _ _ _ us hl => match us, hl with | [_], _ => rfl
  have MAction_len : Meth K C_Action "__len__" gAction_len := ⟨giAction_len, gfAction_len, gkAction_len⟩
  have cALn := met_ALn (P := l.prog) (w := w) (K := K) (mg := mg) (base := base) hm_Outcome na_outcomes T GAction_len cls_Action MAction_len gbAction_len
  have GAction_outcome := fun_mk1 (st := sAOu) glAction_outcome gcAction_outcome
  have gbAction_outcome := (fun_mk (st := sAOu) glAction_outcome gcAction_outcome gkAction_outcome).binds (ps := ["self", "index"]) fun _ _ _ _ _ _ us hl => match us, hl with | [_, _], _ => rfl
  have MAction_outcome : Meth K C_Action "outcome" gAction_outcome := ⟨giAction_outcome, gfAction_outcome, gkAction_outcome⟩
  have cAOu := met_AOu (P := l.prog) (w := w) (K := K) (mg := mg) (base := base) na_outcomes cOCpD T GAction_outcome cls_Action MAction_outcome gbAction_outcome
  have F11 := fun_mk (st := sOsO) l11 c11 k11
  have b11 := F11.binds (ps := ["action"]) fun _ _ _ _ _ _ us hl => match us, hl with | [_], _ => rfl
  have coso := cal_oso (P := l.prog) (w := w) (K := K) (mg := mg) (base := base) cALn cAOu T F11 (PySem.W.mg_of X G a11) k11 b11
  have F12 := fun_mk (st := sCpO) l12 c12 k12
  have b12 := F12.binds (ps := ["action"]) fun _ _ _ _ _ _ us hl => match us, hl with | [_], _ => rfl
  have ccpo := cal_cpo (P := l.prog) (w := w) (K := K) (mg := mg) (base := base) na_need cls_Action coso cAc T F12 (PySem.W.mg_of X G a12) k12 b12
  have TE_NameInUse : SupK l.prog K mg C_NameInUse cdaE_NameInUse ccE_NameInUse := ⟨⟨⟨nmE_NameInUse, qE_NameInUse, NE_NameInUse, bsE_NameInUse, bmE_NameInUse, snE_NameInUse, subE_NameInUse, abE_NameInUse, colE_NameInUse, ddE_NameInUse, k0E_NameInUse, k1E_NameInUse, k2E_NameInUse, k3E_NameInUse, k5E_NameInUse, lCE_NameInUse, rvE_NameInUse⟩, saE_NameInUse, exCE_NameInUse, tyCE_NameInUse, kCE_NameInUse⟩, ⟨_, _, _, _, _, _, lcdE_NameInUse, hvsE_NameInUse, hfileE_NameInUse⟩, ⟨_, _, _, lccE_NameInUse⟩, msE_NameInUse, PySem.W.mg_none_of X G su_, tp_, iniE_NameInUse, basE_NameInUse, tpa_⟩
  have hm_NameInUse := PySem.W.mg_of X G aC_NameInUse
  have erc_NameInUse : Erc l.prog w K mg base 1 "NameInUse" C_NameInUse eOk_NameInUse eFl_NameInUse := Dl.erc_NameInUse TE_NameInUse lfE_NameInUse cfE_NameInUse tf_E_NameInUse iCE_NameInUse hm_NameInUse no_NameInUse_name
  have F13 := fun_mk (st := sCks) l13 c13 k13
  have b13 := F13.binds (ps := ["names"]) fun _ _ _ _ _ _ us hl => match us, hl with | [_], _ => rfl
  have cCks := cal_cks (P := l.prog) (w := w) (K := K) (mg := mg) (base := base) cChE erc_NameInUse T F13 (PySem.W.mg_of X G a13) k13 b13
  have cls_World : Cls K C_World := ⟨pg_World, hd_World, po_World, sa_World⟩
  have na_facts : NoAttr K C_World ("_facts" : Str) := pna_facts
  have na_piles : NoAttr K C_World ("_piles" : Str) := pna_piles
  have na_reserves : NoAttr K C_World ("_reserves" : Str) := pna_reserves
  have na_actions : NoAttr K C_World ("_actions" : Str) := pna_actions
  have GWorld_init := fun_mk1 (st := sWIni) glWorld_init gcWorld_init
  obtain ⟨daWorld_init, raWorld_init, gbWorld_init⟩ := binds_d (st := sWIni) (ps := ["self", "facts", "piles", "reserves"]) (dvs := [.ref eWorld_init0, .ref eWorld_init1, .ref eWorld_init2]) 4 3 glWorld_init gcWorld_init gkWorld_init gTWorld_init (.cons rfl (.cons rfl (.cons rfl .nil))) (by simp) rfl fun _ _ _ _ _ _ _ us its hl hi => match us, its, hl, hi with | [_, _, _, _], [_, _, _], _, _ => ⟨_, rfl, rfl⟩
  cases raWorld_init
  obtain ⟨dnWorld_init, hvWorld_init, gbnWorld_init⟩ := binds_d (st := sWIni) (ps := ["self", "facts", "piles", "reserves"]) (dvs := [.ref eWorld_init0, .ref eWorld_init1, .ref eWorld_init2]) 1 0 glWorld_init gcWorld_init gkWorld_init gTWorld_init (.cons rfl (.cons rfl (.cons rfl .nil))) (by simp) rfl fun _ _ _ _ _ _ _ us its hl hi => match us, its, hl, hi with | [_], [_, _, _], _, _ => ⟨_, rfl, rfl⟩
  have haWorld_init : ∀ ι H, Ats K ι H [.ref eWorld_init0, .ref eWorld_init1, .ref eWorld_init2] [.tup [], .tup [], .tup []] := fun ι H => (.cons (.ktup (vs := []) (ds := []) (fun H0 => .inr ⟨_, #[], eWorld_init0n, leWorld_init0, rfl, rfl, by decide, .nil⟩) rfl fun _ _ _ h => nomatch h) (.cons (.ktup (vs := []) (ds := []) (fun H0 => .inr ⟨_, #[], eWorld_init1n, leWorld_init1, rfl, rfl, by decide, .nil⟩) rfl fun _ _ _ h => nomatch h) (.cons (.ktup (vs := []) (ds := []) (fun H0 => .inr ⟨_, #[], eWorld_init2n, leWorld_init2, rfl, rfl, by decide, .nil⟩) rfl fun _ _ _ h => nomatch h) .nil)))
  have MWorld_init : Mk K C_World gWorld_init := ⟨mk_World, giWorld_init, gfWorld_init, kC_World⟩
  have cWo := mak_wo (P := l.prog) (w := w) (K := K) (mg := mg) (base := base) cls_World na_facts na_piles na_reserves na_actions cCks T GWorld_init (PySem.W.mg_of X G aC_World) MWorld_init gbWorld_init .nil (dds := []) (fun _ _ => .nil)
  have cWoN := mak_wo (P := l.prog) (w := w) (K := K) (mg := mg) (base := base) cls_World na_facts na_piles na_reserves na_actions cCks T GWorld_init (PySem.W.mg_of X G aC_World) MWorld_init gbnWorld_init hvWorld_init haWorld_init
  have GWorld_facts := fun_mk1 (st := sWFa) glWorld_facts gcWorld_facts
  have gbWorld_facts := (fun_mk (st := sWFa) glWorld_facts gcWorld_facts gkWorld_facts).binds (ps := ["self"]) fun _ _ _ _ _ _ us hl => match us, hl with | [_], _ => rfl
  have MWorld_facts : Meth K C_World "facts" gWorld_facts := ⟨giWorld_facts, gfWorld_facts, gkWorld_facts⟩
  have cWfa := met_Wfa (P := l.prog) (w := w) (K := K) (mg := mg) (base := base) na_facts T GWorld_facts cls_World MWorld_facts gbWorld_facts
  have GWorld_piles := fun_mk1 (st := sWPi) glWorld_piles gcWorld_piles
  have gbWorld_piles := (fun_mk (st := sWPi) glWorld_piles gcWorld_piles gkWorld_piles).binds (ps := ["self"]) fun _ _ _ _ _ _ us hl => match us, hl with | [_], _ => rfl
  have MWorld_piles : Meth K C_World "piles" gWorld_piles := ⟨giWorld_piles, gfWorld_piles, gkWorld_piles⟩
  have cWpi := met_Wpi (P := l.prog) (w := w) (K := K) (mg := mg) (base := base) na_piles T GWorld_piles cls_World MWorld_piles gbWorld_piles
  have GWorld_reserves := fun_mk1 (st := sWRe) glWorld_reserves gcWorld_reserves
  have gbWorld_reserves := (fun_mk (st := sWRe) glWorld_reserves gcWorld_reserves gkWorld_reserves).binds (ps := ["self"]) fun _ _ _ _ _ _ us hl => match us, hl with | [_], _ => rfl
  have MWorld_reserves : Meth K C_World "reserves" gWorld_reserves := ⟨giWorld_reserves, gfWorld_reserves, gkWorld_reserves⟩
  have cWre := met_Wre (P := l.prog) (w := w) (K := K) (mg := mg) (base := base) na_reserves T GWorld_reserves cls_World MWorld_reserves gbWorld_reserves
  have GWorld_seen := fun_mk1 (st := sWSe) glWorld_seen gcWorld_seen
  have gbWorld_seen := (fun_mk (st := sWSe) glWorld_seen gcWorld_seen gkWorld_seen).binds (ps := ["self"]) fun _ _ _ _ _ _ us hl => match us, hl with | [_], _ => rfl
  have MWorld_seen : Meth K C_World "seen" gWorld_seen := ⟨giWorld_seen, gfWorld_seen, gkWorld_seen⟩
  have cWse := met_Wse (P := l.prog) (w := w) (K := K) (mg := mg) (base := base) na_facts na_piles T GWorld_seen cls_World MWorld_seen gbWorld_seen
  have GWorld_counters := fun_mk1 (st := sWCo) glWorld_counters gcWorld_counters
  have gbWorld_counters := (fun_mk (st := sWCo) glWorld_counters gcWorld_counters gkWorld_counters).binds (ps := ["self"]) fun _ _ _ _ _ _ us hl => match us, hl with | [_], _ => rfl
  have MWorld_counters : Meth K C_World "counters" gWorld_counters := ⟨giWorld_counters, gfWorld_counters, gkWorld_counters⟩
  have cWco := met_Wco (P := l.prog) (w := w) (K := K) (mg := mg) (base := base) na_piles na_reserves T GWorld_counters cls_World MWorld_counters gbWorld_counters
  have F14 := fun_mk (st := sFiF) l14 c14 k14
  have b14 := F14.binds (ps := ["change"]) fun _ _ _ _ _ _ us hl => match us, hl with | [_], _ => rfl
  have cfif := cal_fif (P := l.prog) (w := w) (K := K) (mg := mg) (base := base) kit_bb kit_sb kit_nb T F14 (PySem.W.mg_of X G a14) k14 b14
  have F15 := fun_mk (st := sFiP) l15 c15 k15
  have b15 := F15.binds (ps := ["change"]) fun _ _ _ _ _ _ us hl => match us, hl with | [_], _ => rfl
  have cfip := cal_fip (P := l.prog) (w := w) (K := K) (mg := mg) (base := base)  T F15 (PySem.W.mg_of X G a15) k15 b15
  have F16 := fun_mk (st := sFiR) l16 c16 k16
  have b16 := F16.binds (ps := ["change"]) fun _ _ _ _ _ _ us hl => match us, hl with | [_], _ => rfl
  have cfir := cal_fir (P := l.prog) (w := w) (K := K) (mg := mg) (base := base)  T F16 (PySem.W.mg_of X G a16) k16 b16
  have F17 := fun_mk (st := sHaN) l17 c17 k17
  have b17 := F17.binds (ps := ["world", "name"]) fun _ _ _ _ _ _ us hl => match us, hl with | [_, _], _ => rfl
  have chan := cal_han (P := l.prog) (w := w) (K := K) (mg := mg) (base := base) cWfa cWco T F17 (PySem.W.mg_of X G a17) k17 b17
  have F18 := fun_mk (st := sFit) l18 c18 k18
  have b18 := F18.binds (ps := ["world", "name", "change"]) fun _ _ _ _ _ _ us hl => match us, hl with | [_, _, _], _ => rfl
  have cfit := cal_fit (P := l.prog) (w := w) (K := K) (mg := mg) (base := base) cfif cfip cfir cWfa cWpi T F18 (PySem.W.mg_of X G a18) k18 b18
  have cOGif : ∀ f, Meth K C_Outcome "__getitem__" f → PySem.W.fnIn K f = true := fun f hf => by
    have e := hf.at_.symm.trans giOutcome_getitem
    cases e
    exact pcOGif
  have F19 := fun_mk (st := sCkO) l19 c19 k19
  have b19 := F19.binds (ps := ["world", "outcome"]) fun _ _ _ _ _ _ us hl => match us, hl with | [_, _], _ => rfl
  have ccko := cal_cko (P := l.prog) (w := w) (K := K) (mg := mg) (base := base) cONm cOGi cOGif chan cfit T F19 (PySem.W.mg_of X G a19) k19 b19
  have F20 := fun_mk (st := sTkR) l20 c20 k20
  have b20 := F20.binds (ps := ["world", "outcome"]) fun _ _ _ _ _ _ us hl => match us, hl with | [_, _], _ => rfl
  have ctkr := cal_tkr (P := l.prog) (w := w) (K := K) (mg := mg) (base := base) cOGi cOGif cWre T F20 (PySem.W.mg_of X G a20) k20 b20
  have F21 := fun_mk (st := sCkS) l21 c21 k21
  have b21 := F21.binds (ps := ["condition", "seen"]) fun _ _ _ _ _ _ us hl => match us, hl with | [_, _], _ => rfl
  have ccksn := cal_cksn (P := l.prog) (w := w) (K := K) (mg := mg) (base := base) cNms T F21 (PySem.W.mg_of X G a21) k21 b21
  have F22 := fun_mk (st := sCkA) l22 c22 k22
  have b22 := F22.binds (ps := ["world", "name", "action"]) fun _ _ _ _ _ _ us hl => match us, hl with | [_, _, _], _ => rfl
  have ccka := cal_cka (P := l.prog) (w := w) (K := K) (mg := mg) (base := base) na_need cls_Action cChE cWse ccksn coso ccko ctkr T F22 (PySem.W.mg_of X G a22) k22 b22
  have GWorld_setitem := fun_mk1 (st := sWSi) glWorld_setitem gcWorld_setitem
  have gbWorld_setitem := (fun_mk (st := sWSi) glWorld_setitem gcWorld_setitem gkWorld_setitem).binds (ps := ["self", "name", "action"]) fun _ _ _ _ _ _ us hl => match us, hl with | [_, _, _], _ => rfl
  have MWorld_setitem : Meth K C_World "__setitem__" gWorld_setitem := ⟨giWorld_setitem, gfWorld_setitem, gkWorld_setitem⟩
  have cWSi := met_WSi (P := l.prog) (w := w) (K := K) (mg := mg) (base := base) na_actions cls_World ccka ccpo T GWorld_setitem cls_World MWorld_setitem gbWorld_setitem
  have hm_Condition := PySem.W.mg_of X G aC_Condition
  have isC_Condition : IsC K C_Condition := ⟨cls_Condition, ia_Condition, in_, it_, im_Condition⟩
  have GCondition_and := fun_mk1 (st := sAnd) glCondition_and gcCondition_and
  have gbCondition_and := (fun_mk (st := sAnd) glCondition_and gcCondition_and gkCondition_and).binds (ps := ["self", "other"]) fun _ _ _ _ _ _ us hl => match us, hl with | [_, _], _ => rfl
  have MCondition_and : Meth K C_Condition "__and__" gCondition_and := ⟨giCondition_and, gfCondition_and, gkCondition_and⟩
  have cAnd := met_And (P := l.prog) (w := w) (K := K) (mg := mg) (base := base) hm_Condition isC_Condition kit_Condition na_words cCo T GCondition_and cls_Condition MCondition_and gbCondition_and
  have GCondition_or := fun_mk1 (st := sOr) glCondition_or gcCondition_or
  have gbCondition_or := (fun_mk (st := sOr) glCondition_or gcCondition_or gkCondition_or).binds (ps := ["self", "other"]) fun _ _ _ _ _ _ us hl => match us, hl with | [_, _], _ => rfl
  have MCondition_or : Meth K C_Condition "__or__" gCondition_or := ⟨giCondition_or, gfCondition_or, gkCondition_or⟩
  have cOr := met_Or (P := l.prog) (w := w) (K := K) (mg := mg) (base := base) hm_Condition isC_Condition kit_Condition na_words cCo T GCondition_or cls_Condition MCondition_or gbCondition_or
  have GCondition_invert := fun_mk1 (st := sInv) glCondition_invert gcCondition_invert
  have gbCondition_invert := (fun_mk (st := sInv) glCondition_invert gcCondition_invert gkCondition_invert).binds (ps := ["self"]) fun _ _ _ _ _ _ us hl => match us, hl with | [_], _ => rfl
  have MCondition_invert : Meth K C_Condition "__invert__" gCondition_invert := ⟨giCondition_invert, gfCondition_invert, gkCondition_invert⟩
  have cInv := met_Inv (P := l.prog) (w := w) (K := K) (mg := mg) (base := base) na_words cCo T GCondition_invert cls_Condition MCondition_invert gbCondition_invert
  have F23 := fun_mk (st := sMixed) l23 c23 k23
  have b23 := F23.binds (ps := ["_law_stream", "_law_some"]) fun _ _ _ _ _ _ us hl => match us, hl with | [_, _], _ => rfl
  have cM := cal_mixed (P := l.prog) (w := w) (K := K) (mg := mg) (base := base) cD T F23 (PySem.W.mg_of X G a23) k23 b23
  have F24 := fun_mk (st := sCnd) l24 c24 k24
  have b24 := F24.binds (ps := ["_law_stream", "_law_names_here", "_law_deep"]) fun _ _ _ _ _ _ us hl => match us, hl with | [_, _, _], _ => rfl
  have cC5 : Cal l.prog w K mg base 7 "_law_condition" (FCnd 5) [] := by
    have h : ∀ n, Cal l.prog w K mg base (n + 2) "_law_condition" (FCnd n) [] := fun n => by
      induction n with
      | zero => exact cal_no (PySem.W.mg_of X G a24) k24 b24 fun ds μ Q E ⟨_, _, _, _, _, h, _, _, _, _, _, _, _⟩ => Nat.not_lt_zero _ h
      | succ n ih => exact cal_cnd n cD cP ih T F24 (PySem.W.mg_of X G a24) k24 b24
    exact h 5
  have F25 := fun_mk (st := sBlt) l25 c25 k25
  have b25 := F25.binds (ps := ["_law_tree"]) fun _ _ _ _ _ _ us hl => match us, hl with | [_], _ => rfl
  have cB : Cal l.prog w K mg base 12 "_law_built" (FBlt C_Condition 8) [] := by
    have h : ∀ n, Cal l.prog w K mg base (n + 4) "_law_built" (FBlt C_Condition n) [] := fun n => by
      induction n with
      | zero => exact cal_no (PySem.W.mg_of X G a25) k25 b25 fun ds μ Q E ⟨_, _, _, h, _, _, _⟩ => Nat.not_lt_zero _ h
      | succ n ih => exact cal_blt n hm_Condition isC_Condition sf_Condition cOf cAl cNv cAnd cOr cInv ih T F25 (PySem.W.mg_of X G a25) k25 b25
    exact h 8
  have F26 := fun_mk (st := sLLi) l26 c26 k26
  have b26 := F26.binds (ps := ["_law_stream", "_law_facts", "_law_piles", "_law_reserves"]) fun _ _ _ _ _ _ us hl => match us, hl with | [_, _, _, _], _ => rfl
  have cLLi := cal_lli (P := l.prog) (w := w) (K := K) (mg := mg) (base := base) cNs T F26 (PySem.W.mg_of X G a26) k26 b26
  have F27 := fun_mk (st := sLSe) l27 c27 k27
  have b27 := F27.binds (ps := ["_law_w"]) fun _ _ _ _ _ _ us hl => match us, hl with | [_], _ => rfl
  have cLSe := cal_lse (P := l.prog) (w := w) (K := K) (mg := mg) (base := base)  T F27 (PySem.W.mg_of X G a27) k27 b27
  have F28 := fun_mk (st := sLCh) l28 c28 k28
  have b28 := F28.binds (ps := ["_law_stream", "_law_w", "_law_free"]) fun _ _ _ _ _ _ us hl => match us, hl with | [_, _, _], _ => rfl
  have cLCh := cal_lch (P := l.prog) (w := w) (K := K) (mg := mg) (base := base) cD cM T F28 (PySem.W.mg_of X G a28) k28 b28
  have F29 := fun_mk (st := sLAc) l29 c29 k29
  have b29 := F29.binds (ps := ["_law_stream", "_law_w", "_law_name_here", "_law_most"]) fun _ _ _ _ _ _ us hl => match us, hl with | [_, _, _, _], _ => rfl
  have cLAc := cal_lac (P := l.prog) (w := w) (K := K) (mg := mg) (base := base) cD cLSe cC5 cLCh T F29 (PySem.W.mg_of X G a29) k29 b29
  have F30 := fun_mk (st := sLMa) l30 c30 k30
  have b30 := F30.binds (ps := ["_law_w"]) fun _ _ _ _ _ _ us hl => match us, hl with | [_], _ => rfl
  have cLMa := cal_lma (P := l.prog) (w := w) (K := K) (mg := mg) (base := base) hnq cWo cAc couD cB cWSi T F30 (PySem.W.mg_of X G a30) k30 b30
  have F31 := fun_mk (st := sAlS) l31 c31 k31
  have b31 := F31.binds (ps := ["seen"]) fun _ _ _ _ _ _ us hl => match us, hl with | [_], _ => rfl
  have cals := cal_als (P := l.prog) (w := w) (K := K) (mg := mg) (base := base)  T F31 (PySem.W.mg_of X G a31) k31 b31
  have F32 := fun_mk (st := sASo) l32 c32 k32
  have b32 := F32.binds (ps := ["names", "known"]) fun _ _ _ _ _ _ us hl => match us, hl with | [_, _], _ => rfl
  have caso := cal_aso (P := l.prog) (w := w) (K := K) (mg := mg) (base := base)  T F32 (PySem.W.mg_of X G a32) k32 b32
  have F33 := fun_mk (st := sInO) l33 c33 k33
  have b33 := F33.binds (ps := ["names", "known"]) fun _ _ _ _ _ _ us hl => match us, hl with | [_, _], _ => rfl
  have cino := cal_ino (P := l.prog) (w := w) (K := K) (mg := mg) (base := base)  T F33 (PySem.W.mg_of X G a33) k33 b33
  have GWorld_state_of := fun_mk1 (st := sWSo) glWorld_state_of gcWorld_state_of
  have gbWorld_state_of := (fun_mk (st := sWSo) glWorld_state_of gcWorld_state_of gkWorld_state_of).binds (ps := ["self", "names"]) fun _ _ _ _ _ _ us hl => match us, hl with | [_, _], _ => rfl
  have MWorld_state_of : Meth K C_World "state_of" gWorld_state_of := ⟨giWorld_state_of, gfWorld_state_of, gkWorld_state_of⟩
  have cWSo := met_WSo (P := l.prog) (w := w) (K := K) (mg := mg) (base := base) cWse caso cino T GWorld_state_of cls_World MWorld_state_of gbWorld_state_of
  have GWorld_states := fun_mk1 (st := sWSt) glWorld_states gcWorld_states
  have gbWorld_states := (fun_mk (st := sWSt) glWorld_states gcWorld_states gkWorld_states).binds (ps := ["self"]) fun _ _ _ _ _ _ us hl => match us, hl with | [_], _ => rfl
  have MWorld_states : Meth K C_World "states" gWorld_states := ⟨giWorld_states, gfWorld_states, gkWorld_states⟩
  have cWSt := met_WSt (P := l.prog) (w := w) (K := K) (mg := mg) (base := base) cWse cals T GWorld_states cls_World MWorld_states gbWorld_states
  have calsC := cal_alsC (P := l.prog) (w := w) (K := K) (mg := mg) (base := base)  T F31 (PySem.W.mg_of X G a31) k31 b31
  have cWStC := met_WStC (P := l.prog) (w := w) (K := K) (mg := mg) (base := base) cWse calsC T GWorld_states cls_World MWorld_states gbWorld_states
  have GWorld_remove := fun_mk1 (st := sWRm) glWorld_remove gcWorld_remove
  have gbWorld_remove := (fun_mk (st := sWRm) glWorld_remove gcWorld_remove gkWorld_remove).binds (ps := ["self", "name"]) fun _ _ _ _ _ _ us hl => match us, hl with | [_, _], _ => rfl
  have MWorld_remove : Meth K C_World "remove" gWorld_remove := ⟨giWorld_remove, gfWorld_remove, gkWorld_remove⟩
  have cWRm := met_WRm (P := l.prog) (w := w) (K := K) (mg := mg) (base := base) na_actions T GWorld_remove cls_World MWorld_remove gbWorld_remove
  have GWorld_copy := fun_mk1 (st := sWCp) glWorld_copy gcWorld_copy
  have gbWorld_copy := (fun_mk (st := sWCp) glWorld_copy gcWorld_copy gkWorld_copy).binds (ps := ["self"]) fun _ _ _ _ _ _ us hl => match us, hl with | [_], _ => rfl
  have MWorld_copy : Meth K C_World "copy" gWorld_copy := ⟨giWorld_copy, gfWorld_copy, gkWorld_copy⟩
  have cWCp := met_WCp (P := l.prog) (w := w) (K := K) (mg := mg) (base := base) na_facts na_piles na_reserves na_actions cls_World cWo T GWorld_copy cls_World MWorld_copy gbWorld_copy
  have F34 := fun_mk (st := sLSs) l34 c34 k34
  have b34 := F34.binds (ps := ["_law_w"]) fun _ _ _ _ _ _ us hl => match us, hl with | [_], _ => rfl
  have cLSs := cal_lss (P := l.prog) (w := w) (K := K) (mg := mg) (base := base) cLSe T F34 (PySem.W.mg_of X G a34) k34 b34
  have cmixedT := cal_mixedT (P := l.prog) (w := w) (K := K) (mg := mg) (base := base) cD T F23 (PySem.W.mg_of X G a23) k23 b23
  have F35 := fun_mk (st := sLaw) l35 c35 k35
  have b35 := F35.binds (ps := ["_law_script"]) fun _ _ _ _ _ _ us hl => match us, hl with | [_], _ => rfl
  exact cal_law cD cP cmixedT cSm cLLi cLAc cLMa cLSs cWSt cWStC cWSo cWRm cWCp T F35 hfa k35 b35
/-! ### what the top leaves -/
def tXs : List (PySem.W.Frag → Bool) := [fun K => decide (PySem.W.nsIn K mainGlobals "_law_draw" = some (some (.ref (gA "_law_draw" K)))),
  fun K => PySem.W.keepIn K (.ref (gA "_law_draw" K)),
  fun K => decide (PySem.W.nsIn K mainGlobals "_law_pick" = some (some (.ref (gA "_law_pick" K)))),
  fun K => PySem.W.keepIn K (.ref (gA "_law_pick" K)),
  fun K => decide (PySem.W.nsIn K mainGlobals "_law_same" = some (some (.ref (gA "_law_same" K)))),
  fun K => PySem.W.keepIn K (.ref (gA "_law_same" K)),
  fun K => decide (PySem.W.nsIn K mainGlobals "_law_name" = some (some (.ref (gA "_law_name" K)))),
  fun K => PySem.W.keepIn K (.ref (gA "_law_name" K)),
  fun K => decide (PySem.W.nsIn K mainGlobals "_law_names" = some (some (.ref (gA "_law_names" K)))),
  fun K => PySem.W.keepIn K (.ref (gA "_law_names" K)),
  fun K => decide (PySem.W.nsIn K mainGlobals "is_letter" = some (some (.ref (gA "is_letter" K)))),
  fun K => PySem.W.keepIn K (.ref (gA "is_letter" K)),
  fun K => decide (PySem.W.nsIn K mainGlobals "RESERVED" = some (some (.ref (gA "RESERVED" K)))),
  fun K => tupB (gA "RESERVED" K) (Reserved.map V.str) K,
  intB "LONGEST" 8,
  fun K => decide (PySem.W.nsIn K mainGlobals "is_name" = some (some (.ref (gA "is_name" K)))),
  fun K => PySem.W.keepIn K (.ref (gA "is_name" K)),
  fun K => decide (PySem.W.nsIn K mainGlobals "BadName" = some (some (.ref (gA "BadName" K)))),
  fun K => excB (gA "BadName" K) K,
  fun K => decide (PySem.W.findIn K (.ref (gA "BadName" K)) "__setattr__" = some (some (.builtin "object.__setattr__"))),
  fun K => decide (PySem.W.subIn K (.ref (gA "BadName" K)) (.type "BaseException") = some true),
  fun K => decide (PySem.W.typeIn K (.ref (gA "BadName" K)) = some (.type "type")),
  fun K => PySem.W.keepIn K (.ref (gA "BadName" K)),
  fun K => decide (PySem.W.findIn K (.ref (gA "BadName" K)) "__init__" = some (some (.ref (mA "BadName" "__init__" K)))),
  codB (mA "BadName" "__init__"),
  fun K => decide (PySem.W.typeIn K (.ref (mA "BadName" "__init__" K)) = some (.type "function")),
  fun K => fileB PySem.Challenge.rw_noneorsome_k16_states_listed.prog (codeAt (mA "BadName" "__init__") K) K,
  fun K => cellB (cellAt (mA "BadName" "__init__") K) (gA "BadName" K) K,
  fun K => decide (PySem.W.mroIn K (gA "BadName" K) (.ref (gA "BadName" K)) = some true),
  fun K => decide (PySem.W.nsIn K mainGlobals "super" = some none),
  fun K => decide (PySem.W.ks_superIn K (gA "BadName" K) (gA "BadName" K) "__init__" = some (some (.builtin "ValueError.__init__"))),
  fun K => decide (PySem.W.subIn K (.ref (gA "BadName" K)) (.type "ValueError") = some true),
  fun K => decide (PySem.W.nsIn K cStatics "thirdparty.any" = some none),
  fun K => decide (PySem.W.findIn K (.ref (gA "BadName" K)) "name" = some none),
  fun K => decide (PySem.W.nsIn K mainGlobals "check_name" = some (some (.ref (gA "check_name" K)))),
  fun K => PySem.W.keepIn K (.ref (gA "check_name" K)),
  fun K => decide (PySem.W.nsIn K mainGlobals "BadChange" = some (some (.ref (gA "BadChange" K)))),
  fun K => excB (gA "BadChange" K) K,
  fun K => decide (PySem.W.findIn K (.ref (gA "BadChange" K)) "__setattr__" = some (some (.builtin "object.__setattr__"))),
  fun K => decide (PySem.W.subIn K (.ref (gA "BadChange" K)) (.type "BaseException") = some true),
  fun K => decide (PySem.W.typeIn K (.ref (gA "BadChange" K)) = some (.type "type")),
  fun K => PySem.W.keepIn K (.ref (gA "BadChange" K)),
  fun K => decide (PySem.W.findIn K (.ref (gA "BadChange" K)) "__init__" = some (some (.ref (mA "BadChange" "__init__" K)))),
  codB (mA "BadChange" "__init__"),
  fun K => decide (PySem.W.typeIn K (.ref (mA "BadChange" "__init__" K)) = some (.type "function")),
  fun K => fileB PySem.Challenge.rw_noneorsome_k16_states_listed.prog (codeAt (mA "BadChange" "__init__") K) K,
  fun K => cellB (cellAt (mA "BadChange" "__init__") K) (gA "BadChange" K) K,
  fun K => decide (PySem.W.mroIn K (gA "BadChange" K) (.ref (gA "BadChange" K)) = some true),
  fun K => decide (PySem.W.ks_superIn K (gA "BadChange" K) (gA "BadChange" K) "__init__" = some (some (.builtin "ValueError.__init__"))),
  fun K => decide (PySem.W.subIn K (.ref (gA "BadChange" K)) (.type "ValueError") = some true),
  fun K => decide (PySem.W.findIn K (.ref (gA "BadChange" K)) "name" = some none),
  fun K => decide (PySem.W.findIn K (.ref (gA "BadChange" K)) "change" = some none),
  fun K => decide (PySem.W.kitOne K (.type "bool") (.type "bool") = some true),
  fun K => decide (PySem.W.kitOne K (.type "str") (.type "bool") = some false),
  fun K => decide (PySem.W.kitOne K (.type "str") (.type "str") = some true),
  fun K => decide (PySem.W.kitOne K (.type "NoneType") (.type "bool") = some false),
  fun K => decide (PySem.W.kitOne K (.type "NoneType") (.type "str") = some false),
  fun K => decide (PySem.W.nsIn K mainGlobals "is_change" = some (some (.ref (gA "is_change" K)))),
  fun K => PySem.W.keepIn K (.ref (gA "is_change" K)),
  fun K => decide (PySem.W.nsIn K mainGlobals "check_entry" = some (some (.ref (gA "check_entry" K)))),
  fun K => PySem.W.keepIn K (.ref (gA "check_entry" K)),
  fun K => decide (PySem.W.nsIn K mainGlobals "Outcome" = some (some (.ref (gA "Outcome" K)))),
  fun K => decide (PySem.W.findIn K (.ref (gA "Outcome" K)) "_changes" = some none),
  fun K => PySem.W.plainGet K (gA "Outcome" K) Str.empty,
  fun K => PySem.W.hasDictIn K (gA "Outcome" K),
  fun K => PySem.W.plainOver K (gA "Outcome" K),
  fun K => decide (PySem.W.findIn K (.ref (gA "Outcome" K)) "__setattr__" = some (some (.builtin "object.__setattr__"))),
  fun K => decide (PySem.W.findIn K (.ref (gA "Outcome" K)) "names" = some (some (.ref (mA "Outcome" "names" K)))),
  fun K => PySem.W.isFn K (.ref (mA "Outcome" "names" K)),
  fun K => PySem.W.keepIn K (.ref (mA "Outcome" "names" K)),
  fun K => decide (PySem.W.findIn K (.ref (gA "Outcome" K)) "__getitem__" = some (some (.ref (mA "Outcome" "__getitem__" K)))),
  fun K => PySem.W.isFn K (.ref (mA "Outcome" "__getitem__" K)),
  fun K => PySem.W.keepIn K (.ref (mA "Outcome" "__getitem__" K)),
  fun K => decide (PySem.W.nsIn K mainGlobals "names_among" = some (some (.ref (gA "names_among" K)))),
  fun K => PySem.W.keepIn K (.ref (gA "names_among" K)),
  fun K => decide (PySem.W.nsIn K mainGlobals "Condition" = some (some (.ref (gA "Condition" K)))),
  fun K => PySem.W.plainGet K (gA "Condition" K) Str.empty,
  fun K => PySem.W.hasDictIn K (gA "Condition" K),
  fun K => PySem.W.plainOver K (gA "Condition" K),
  fun K => decide (PySem.W.findIn K (.ref (gA "Condition" K)) "__setattr__" = some (some (.builtin "object.__setattr__"))),
  fun K => decide (PySem.W.findIn K (.ref (gA "Condition" K)) "_words" = some none),
  fun K => decide (PySem.W.findIn K (.ref (gA "Condition" K)) "__init__" = some (some (.ref (mA "Condition" "__init__" K)))),
  fun K => PySem.W.isFn K (.ref (mA "Condition" "__init__" K)),
  fun K => PySem.W.keepIn K (.ref (mA "Condition" "__init__" K)),
  fun K => PySem.W.makesIn K (gA "Condition" K),
  fun K => PySem.W.keepIn K (.ref (gA "Condition" K)),
  fun K => decide (PySem.W.specialIn K (.ref (gA "Condition" K)) "__getattribute__" = some (some (.builtin "type.__getattribute__"))),
  fun K => decide (PySem.W.typeIn K (.ref (gA "Condition" K)) = some (.type "type")),
  fun K => PySem.W.readsIn K (gA "Condition" K) (.type "type"),
  fun K => decide (PySem.W.findIn K (.type "type") "of" = some none),
  fun K => decide (PySem.W.findIn K (.ref (gA "Condition" K)) "of" = some (some (.ref (mA "Condition" "of" K)))),
  fun K => decide (PySem.W.typeIn K (.ref (mA "Condition" "of" K)) = some (.type "staticmethod")),
  fun K => decide (PySem.W.specialIn K (.ref (mA "Condition" "of" K)) "__get__" = some (some (.builtin "staticmethod.__get__"))),
  fun K => staB (mA "Condition" "of" K) K,
  fun K => PySem.W.keepIn K (.ref (sA "Condition" "of" K)),
  fun K => decide (PySem.W.findIn K (.type "type") "always" = some none),
  fun K => decide (PySem.W.findIn K (.ref (gA "Condition" K)) "always" = some (some (.ref (mA "Condition" "always" K)))),
  fun K => decide (PySem.W.typeIn K (.ref (mA "Condition" "always" K)) = some (.type "staticmethod")),
  fun K => decide (PySem.W.specialIn K (.ref (mA "Condition" "always" K)) "__get__" = some (some (.builtin "staticmethod.__get__"))),
  fun K => staB (mA "Condition" "always" K) K,
  fun K => PySem.W.keepIn K (.ref (sA "Condition" "always" K)),
  fun K => decide (PySem.W.findIn K (.type "type") "never" = some none),
  fun K => decide (PySem.W.findIn K (.ref (gA "Condition" K)) "never" = some (some (.ref (mA "Condition" "never" K)))),
  fun K => decide (PySem.W.typeIn K (.ref (mA "Condition" "never" K)) = some (.type "staticmethod")),
  fun K => decide (PySem.W.specialIn K (.ref (mA "Condition" "never" K)) "__get__" = some (some (.builtin "staticmethod.__get__"))),
  fun K => staB (mA "Condition" "never" K) K,
  fun K => PySem.W.keepIn K (.ref (sA "Condition" "never" K)),
  fun K => decide (PySem.W.findIn K (.ref (gA "Condition" K)) "names" = some (some (.ref (mA "Condition" "names" K)))),
  fun K => PySem.W.isFn K (.ref (mA "Condition" "names" K)),
  fun K => PySem.W.keepIn K (.ref (mA "Condition" "names" K)),
  fun K => decide (PySem.W.findIn K (.ref (gA "Outcome" K)) "__init__" = some (some (.ref (mA "Outcome" "__init__" K)))),
  fun K => PySem.W.isFn K (.ref (mA "Outcome" "__init__" K)),
  fun K => PySem.W.keepIn K (.ref (mA "Outcome" "__init__" K)),
  fun K => tupVB (dflAt (mA "Outcome" "__init__") K) [.none] K,
  fun K => PySem.W.makesIn K (gA "Outcome" K),
  fun K => PySem.W.keepIn K (.ref (gA "Outcome" K)),
  fun K => decide (PySem.W.findIn K (.ref (gA "Outcome" K)) "copy" = some (some (.ref (mA "Outcome" "copy" K)))),
  fun K => PySem.W.isFn K (.ref (mA "Outcome" "copy" K)),
  fun K => PySem.W.keepIn K (.ref (mA "Outcome" "copy" K)),
  fun K => decide (PySem.W.nsIn K mainGlobals "Action" = some (some (.ref (gA "Action" K)))),
  fun K => PySem.W.plainGet K (gA "Action" K) Str.empty,
  fun K => PySem.W.hasDictIn K (gA "Action" K),
  fun K => PySem.W.plainOver K (gA "Action" K),
  fun K => decide (PySem.W.findIn K (.ref (gA "Action" K)) "__setattr__" = some (some (.builtin "object.__setattr__"))),
  fun K => decide (PySem.W.findIn K (.ref (gA "Action" K)) "need" = some none),
  fun K => decide (PySem.W.findIn K (.ref (gA "Action" K)) "_outcomes" = some none),
  fun K => decide (PySem.W.findIn K (.ref (gA "Action" K)) "__init__" = some (some (.ref (mA "Action" "__init__" K)))),
  fun K => PySem.W.isFn K (.ref (mA "Action" "__init__" K)),
  fun K => PySem.W.keepIn K (.ref (mA "Action" "__init__" K)),
  fun K => PySem.W.makesIn K (gA "Action" K),
  fun K => PySem.W.keepIn K (.ref (gA "Action" K)),
  fun K => decide (PySem.W.findIn K (.ref (gA "Action" K)) "__len__" = some (some (.ref (mA "Action" "__len__" K)))),
  fun K => PySem.W.isFn K (.ref (mA "Action" "__len__" K)),
  fun K => PySem.W.keepIn K (.ref (mA "Action" "__len__" K)),
  fun K => decide (PySem.W.findIn K (.ref (gA "Action" K)) "outcome" = some (some (.ref (mA "Action" "outcome" K)))),
  fun K => PySem.W.isFn K (.ref (mA "Action" "outcome" K)),
  fun K => PySem.W.keepIn K (.ref (mA "Action" "outcome" K)),
  fun K => decide (PySem.W.nsIn K mainGlobals "outcomes_of" = some (some (.ref (gA "outcomes_of" K)))),
  fun K => PySem.W.keepIn K (.ref (gA "outcomes_of" K)),
  fun K => decide (PySem.W.nsIn K mainGlobals "copy_of" = some (some (.ref (gA "copy_of" K)))),
  fun K => PySem.W.keepIn K (.ref (gA "copy_of" K)),
  fun K => decide (PySem.W.nsIn K mainGlobals "NameInUse" = some (some (.ref (gA "NameInUse" K)))),
  fun K => excB (gA "NameInUse" K) K,
  fun K => decide (PySem.W.findIn K (.ref (gA "NameInUse" K)) "__setattr__" = some (some (.builtin "object.__setattr__"))),
  fun K => decide (PySem.W.subIn K (.ref (gA "NameInUse" K)) (.type "BaseException") = some true),
  fun K => decide (PySem.W.typeIn K (.ref (gA "NameInUse" K)) = some (.type "type")),
  fun K => PySem.W.keepIn K (.ref (gA "NameInUse" K)),
  fun K => decide (PySem.W.findIn K (.ref (gA "NameInUse" K)) "__init__" = some (some (.ref (mA "NameInUse" "__init__" K)))),
  codB (mA "NameInUse" "__init__"),
  fun K => decide (PySem.W.typeIn K (.ref (mA "NameInUse" "__init__" K)) = some (.type "function")),
  fun K => fileB PySem.Challenge.rw_noneorsome_k16_states_listed.prog (codeAt (mA "NameInUse" "__init__") K) K,
  fun K => cellB (cellAt (mA "NameInUse" "__init__") K) (gA "NameInUse" K) K,
  fun K => decide (PySem.W.mroIn K (gA "NameInUse" K) (.ref (gA "NameInUse" K)) = some true),
  fun K => decide (PySem.W.ks_superIn K (gA "NameInUse" K) (gA "NameInUse" K) "__init__" = some (some (.builtin "ValueError.__init__"))),
  fun K => decide (PySem.W.subIn K (.ref (gA "NameInUse" K)) (.type "ValueError") = some true),
  fun K => decide (PySem.W.findIn K (.ref (gA "NameInUse" K)) "name" = some none),
  fun K => decide (PySem.W.nsIn K mainGlobals "check_names" = some (some (.ref (gA "check_names" K)))),
  fun K => PySem.W.keepIn K (.ref (gA "check_names" K)),
  fun K => decide (PySem.W.nsIn K mainGlobals "World" = some (some (.ref (gA "World" K)))),
  fun K => PySem.W.plainGet K (gA "World" K) Str.empty,
  fun K => PySem.W.hasDictIn K (gA "World" K),
  fun K => PySem.W.plainOver K (gA "World" K),
  fun K => decide (PySem.W.findIn K (.ref (gA "World" K)) "__setattr__" = some (some (.builtin "object.__setattr__"))),
  fun K => decide (PySem.W.findIn K (.ref (gA "World" K)) "_facts" = some none),
  fun K => decide (PySem.W.findIn K (.ref (gA "World" K)) "_piles" = some none),
  fun K => decide (PySem.W.findIn K (.ref (gA "World" K)) "_reserves" = some none),
  fun K => decide (PySem.W.findIn K (.ref (gA "World" K)) "_actions" = some none),
  fun K => decide (PySem.W.findIn K (.ref (gA "World" K)) "__init__" = some (some (.ref (mA "World" "__init__" K)))),
  fun K => PySem.W.isFn K (.ref (mA "World" "__init__" K)),
  fun K => PySem.W.keepIn K (.ref (mA "World" "__init__" K)),
  fun K => tupVB (dflAt (mA "World" "__init__") K) [.ref (dfiAt (mA "World" "__init__") 0 K), .ref (dfiAt (mA "World" "__init__") 1 K), .ref (dfiAt (mA "World" "__init__") 2 K)] K,
  fun K => tupVB (dfiAt (mA "World" "__init__") 0 K) [] K,
  fun K => tupVB (dfiAt (mA "World" "__init__") 1 K) [] K,
  fun K => tupVB (dfiAt (mA "World" "__init__") 2 K) [] K,
  fun K => PySem.W.makesIn K (gA "World" K),
  fun K => PySem.W.keepIn K (.ref (gA "World" K)),
  fun K => decide (PySem.W.findIn K (.ref (gA "World" K)) "facts" = some (some (.ref (mA "World" "facts" K)))),
  fun K => PySem.W.isFn K (.ref (mA "World" "facts" K)),
  fun K => PySem.W.keepIn K (.ref (mA "World" "facts" K)),
  fun K => decide (PySem.W.findIn K (.ref (gA "World" K)) "piles" = some (some (.ref (mA "World" "piles" K)))),
  fun K => PySem.W.isFn K (.ref (mA "World" "piles" K)),
  fun K => PySem.W.keepIn K (.ref (mA "World" "piles" K)),
  fun K => decide (PySem.W.findIn K (.ref (gA "World" K)) "reserves" = some (some (.ref (mA "World" "reserves" K)))),
  fun K => PySem.W.isFn K (.ref (mA "World" "reserves" K)),
  fun K => PySem.W.keepIn K (.ref (mA "World" "reserves" K)),
  fun K => decide (PySem.W.findIn K (.ref (gA "World" K)) "seen" = some (some (.ref (mA "World" "seen" K)))),
  fun K => PySem.W.isFn K (.ref (mA "World" "seen" K)),
  fun K => PySem.W.keepIn K (.ref (mA "World" "seen" K)),
  fun K => decide (PySem.W.findIn K (.ref (gA "World" K)) "counters" = some (some (.ref (mA "World" "counters" K)))),
  fun K => PySem.W.isFn K (.ref (mA "World" "counters" K)),
  fun K => PySem.W.keepIn K (.ref (mA "World" "counters" K)),
  fun K => decide (PySem.W.nsIn K mainGlobals "fits_fact" = some (some (.ref (gA "fits_fact" K)))),
  fun K => PySem.W.keepIn K (.ref (gA "fits_fact" K)),
  fun K => decide (PySem.W.nsIn K mainGlobals "fits_pile" = some (some (.ref (gA "fits_pile" K)))),
  fun K => PySem.W.keepIn K (.ref (gA "fits_pile" K)),
  fun K => decide (PySem.W.nsIn K mainGlobals "fits_reserve" = some (some (.ref (gA "fits_reserve" K)))),
  fun K => PySem.W.keepIn K (.ref (gA "fits_reserve" K)),
  fun K => decide (PySem.W.nsIn K mainGlobals "has_name" = some (some (.ref (gA "has_name" K)))),
  fun K => PySem.W.keepIn K (.ref (gA "has_name" K)),
  fun K => decide (PySem.W.nsIn K mainGlobals "fits" = some (some (.ref (gA "fits" K)))),
  fun K => PySem.W.keepIn K (.ref (gA "fits" K)),
  fun K => PySem.W.fnIn K (mA "Outcome" "__getitem__" K),
  fun K => decide (PySem.W.nsIn K mainGlobals "check_outcome" = some (some (.ref (gA "check_outcome" K)))),
  fun K => PySem.W.keepIn K (.ref (gA "check_outcome" K)),
  fun K => decide (PySem.W.nsIn K mainGlobals "takes_from_reserve" = some (some (.ref (gA "takes_from_reserve" K)))),
  fun K => PySem.W.keepIn K (.ref (gA "takes_from_reserve" K)),
  fun K => decide (PySem.W.nsIn K mainGlobals "check_seen" = some (some (.ref (gA "check_seen" K)))),
  fun K => PySem.W.keepIn K (.ref (gA "check_seen" K)),
  fun K => decide (PySem.W.nsIn K mainGlobals "check_action" = some (some (.ref (gA "check_action" K)))),
  fun K => PySem.W.keepIn K (.ref (gA "check_action" K)),
  fun K => decide (PySem.W.findIn K (.ref (gA "World" K)) "__setitem__" = some (some (.ref (mA "World" "__setitem__" K)))),
  fun K => PySem.W.isFn K (.ref (mA "World" "__setitem__" K)),
  fun K => PySem.W.keepIn K (.ref (mA "World" "__setitem__" K)),
  fun K => decide (PySem.W.findIn K (.ref (gA "Condition" K)) "__class__" = some (some (.builtin "object.__class__"))),
  fun K => decide (PySem.W.specialIn K (.builtin "object.__class__") "__get__" = some (some (.builtin "getset_descriptor.__get__"))),
  fun K => decide (PySem.W.takesIn K (.builtin "object.__class__") = some true),
  fun K => decide (PySem.W.mroIn K (gA "Condition" K) (.type "object") = some true),
  fun K => decide (PySem.W.kitOne K (.ref (gA "Condition" K)) (.ref (gA "Condition" K)) = some true),
  fun K => decide (PySem.W.findIn K (.ref (gA "Condition" K)) "__and__" = some (some (.ref (mA "Condition" "__and__" K)))),
  fun K => PySem.W.isFn K (.ref (mA "Condition" "__and__" K)),
  fun K => PySem.W.keepIn K (.ref (mA "Condition" "__and__" K)),
  fun K => decide (PySem.W.findIn K (.ref (gA "Condition" K)) "__or__" = some (some (.ref (mA "Condition" "__or__" K)))),
  fun K => PySem.W.isFn K (.ref (mA "Condition" "__or__" K)),
  fun K => PySem.W.keepIn K (.ref (mA "Condition" "__or__" K)),
  fun K => decide (PySem.W.findIn K (.ref (gA "Condition" K)) "__invert__" = some (some (.ref (mA "Condition" "__invert__" K)))),
  fun K => PySem.W.isFn K (.ref (mA "Condition" "__invert__" K)),
  fun K => PySem.W.keepIn K (.ref (mA "Condition" "__invert__" K)),
  fun K => decide (PySem.W.nsIn K mainGlobals "_law_mixed" = some (some (.ref (gA "_law_mixed" K)))),
  fun K => PySem.W.keepIn K (.ref (gA "_law_mixed" K)),
  fun K => decide (PySem.W.nsIn K mainGlobals "_law_condition" = some (some (.ref (gA "_law_condition" K)))),
  fun K => PySem.W.keepIn K (.ref (gA "_law_condition" K)),
  fun K => PySem.W.selfFirst K (gA "Condition" K),
  fun K => decide (PySem.W.nsIn K mainGlobals "_law_built" = some (some (.ref (gA "_law_built" K)))),
  fun K => PySem.W.keepIn K (.ref (gA "_law_built" K)),
  fun K => decide (PySem.W.nsIn K mainGlobals "_law_lists" = some (some (.ref (gA "_law_lists" K)))),
  fun K => PySem.W.keepIn K (.ref (gA "_law_lists" K)),
  fun K => decide (PySem.W.nsIn K mainGlobals "_law_seen" = some (some (.ref (gA "_law_seen" K)))),
  fun K => PySem.W.keepIn K (.ref (gA "_law_seen" K)),
  fun K => decide (PySem.W.nsIn K mainGlobals "_law_changes" = some (some (.ref (gA "_law_changes" K)))),
  fun K => PySem.W.keepIn K (.ref (gA "_law_changes" K)),
  fun K => decide (PySem.W.nsIn K mainGlobals "_law_action" = some (some (.ref (gA "_law_action" K)))),
  fun K => PySem.W.keepIn K (.ref (gA "_law_action" K)),
  fun K => PySem.W.noSeq K (gA "World" K),
  fun K => decide (PySem.W.nsIn K mainGlobals "_law_made" = some (some (.ref (gA "_law_made" K)))),
  fun K => PySem.W.keepIn K (.ref (gA "_law_made" K)),
  fun K => decide (PySem.W.nsIn K mainGlobals "all_states" = some (some (.ref (gA "all_states" K)))),
  fun K => PySem.W.keepIn K (.ref (gA "all_states" K)),
  fun K => decide (PySem.W.nsIn K mainGlobals "are_some_of" = some (some (.ref (gA "are_some_of" K)))),
  fun K => PySem.W.keepIn K (.ref (gA "are_some_of" K)),
  fun K => decide (PySem.W.nsIn K mainGlobals "in_order" = some (some (.ref (gA "in_order" K)))),
  fun K => PySem.W.keepIn K (.ref (gA "in_order" K)),
  fun K => decide (PySem.W.findIn K (.ref (gA "World" K)) "state_of" = some (some (.ref (mA "World" "state_of" K)))),
  fun K => PySem.W.isFn K (.ref (mA "World" "state_of" K)),
  fun K => PySem.W.keepIn K (.ref (mA "World" "state_of" K)),
  fun K => decide (PySem.W.findIn K (.ref (gA "World" K)) "states" = some (some (.ref (mA "World" "states" K)))),
  fun K => PySem.W.isFn K (.ref (mA "World" "states" K)),
  fun K => PySem.W.keepIn K (.ref (mA "World" "states" K)),
  fun K => decide (PySem.W.findIn K (.ref (gA "World" K)) "remove" = some (some (.ref (mA "World" "remove" K)))),
  fun K => PySem.W.isFn K (.ref (mA "World" "remove" K)),
  fun K => PySem.W.keepIn K (.ref (mA "World" "remove" K)),
  fun K => decide (PySem.W.findIn K (.ref (gA "World" K)) "copy" = some (some (.ref (mA "World" "copy" K)))),
  fun K => PySem.W.isFn K (.ref (mA "World" "copy" K)),
  fun K => PySem.W.keepIn K (.ref (mA "World" "copy" K)),
  fun K => decide (PySem.W.nsIn K mainGlobals "_law_states" = some (some (.ref (gA "_law_states" K)))),
  fun K => PySem.W.keepIn K (.ref (gA "_law_states" K)),
  fun K => decide (PySem.W.nsIn K mainGlobals "law" = some (some (.ref (gA "law" K)))),
  fun K => PySem.W.keepIn K (.ref (gA "law" K)),
  fun K => decide (PySem.W.nsIn K mainGlobals "len" = some none),
  fun K => decide (PySem.W.nsIn K mainGlobals "list" = some none),
  fun K => decide (PySem.W.nsIn K mainGlobals "tuple" = some none),
  fun K => decide (PySem.W.nsIn K mainGlobals "int" = some none),
  fun K => decide (PySem.W.nsIn K mainGlobals "repr" = some none),
  fun K => decide (PySem.W.nsIn K mainGlobals "range" = some none),
  fun K => decide (PySem.W.nsIn K mainGlobals "all" = some none),
  fun K => decide (PySem.W.nsIn K mainGlobals "zip" = some none),
  fun K => decide (PySem.W.nsIn K mainGlobals "enumerate" = some none),
  fun K => decide (PySem.W.nsIn K mainGlobals "isinstance" = some none),
  fun K => decide (PySem.W.nsIn K mainGlobals "str" = some none),
  fun K => decide (PySem.W.nsIn K mainGlobals "bool" = some none),
  fun K => decide (PySem.W.nsIn K mainGlobals "dict" = some none),
  fun K => decide (PySem.W.nsIn K mainGlobals "any" = some none),
  fun K => decide (PySem.W.nsIn K mainGlobals "min" = some none),
  fun K => decide (PySem.W.nsIn K mainGlobals "sorted" = some none),
  fun K => decide (PySem.W.nsIn K mainGlobals "set" = some none),
  fun K => decide (PySem.W.nsIn K mainGlobals "max" = some none),
  fun K => decide (PySem.W.nsIn K mainGlobals "sum" = some none)]
def tFs : List Fd := [⟨(gA "_law_draw"), "_law_draw", "_law_draw", sDraw, fun _ => [], fun _ => .none⟩,
  ⟨(gA "_law_pick"), "_law_pick", "_law_pick", sPick, fun _ => [], fun _ => .none⟩,
  ⟨(gA "_law_same"), "_law_same", "_law_same", sSame, fun _ => [], fun _ => .none⟩,
  ⟨(gA "_law_name"), "_law_name", "_law_name", sName, fun _ => [], fun _ => .none⟩,
  ⟨(gA "_law_names"), "_law_names", "_law_names", sNames, fun _ => [], fun _ => .none⟩,
  ⟨(gA "is_letter"), "is_letter", "is_letter", sLet, fun _ => [], fun _ => .none⟩,
  ⟨(gA "is_name"), "is_name", "is_name", sIsN, fun _ => [], fun _ => .none⟩,
  ⟨(mA "BadName" "__init__"), "__init__", "BadName.__init__", sE_BadName, fun K => [(("__class__" : Str), cellAt (mA "BadName" "__init__") K)], fun _ => .none⟩,
  ⟨(gA "check_name"), "check_name", "check_name", sChE, fun _ => [], fun _ => .none⟩,
  ⟨(mA "BadChange" "__init__"), "__init__", "BadChange.__init__", sE_BadChange, fun K => [(("__class__" : Str), cellAt (mA "BadChange" "__init__") K)], fun _ => .none⟩,
  ⟨(gA "is_change"), "is_change", "is_change", sIsC, fun _ => [], fun _ => .none⟩,
  ⟨(gA "check_entry"), "check_entry", "check_entry", sCkE, fun _ => [], fun _ => .none⟩,
  ⟨(mA "Outcome" "names"), "names", "Outcome.names", sONm, fun _ => [], fun _ => .none⟩,
  ⟨(mA "Outcome" "__getitem__"), "__getitem__", "Outcome.__getitem__", sOGi, fun _ => [], fun _ => .none⟩,
  ⟨(gA "names_among"), "names_among", "names_among", sNmA, fun _ => [], fun _ => .none⟩,
  ⟨(mA "Condition" "__init__"), "__init__", "Condition.__init__", sIni, fun _ => [], fun _ => .none⟩,
  ⟨(sA "Condition" "of"), "of", "Condition.of", sOf, fun _ => [], fun _ => .none⟩,
  ⟨(sA "Condition" "always"), "always", "Condition.always", sAl, fun _ => [], fun _ => .none⟩,
  ⟨(sA "Condition" "never"), "never", "Condition.never", sNv, fun _ => [], fun _ => .none⟩,
  ⟨(mA "Condition" "names"), "names", "Condition.names", sNms, fun _ => [], fun _ => .none⟩,
  ⟨(mA "Outcome" "__init__"), "__init__", "Outcome.__init__", sOIni, fun _ => [], fun K => .ref (dflAt (mA "Outcome" "__init__") K)⟩,
  ⟨(mA "Outcome" "copy"), "copy", "Outcome.copy", sOCp, fun _ => [], fun _ => .none⟩,
  ⟨(mA "Action" "__init__"), "__init__", "Action.__init__", sAIni, fun _ => [], fun _ => .none⟩,
  ⟨(mA "Action" "__len__"), "__len__", "Action.__len__", sALn, fun _ => [], fun _ => .none⟩,
  ⟨(mA "Action" "outcome"), "outcome", "Action.outcome", sAOu, fun _ => [], fun _ => .none⟩,
  ⟨(gA "outcomes_of"), "outcomes_of", "outcomes_of", sOsO, fun _ => [], fun _ => .none⟩,
  ⟨(gA "copy_of"), "copy_of", "copy_of", sCpO, fun _ => [], fun _ => .none⟩,
  ⟨(mA "NameInUse" "__init__"), "__init__", "NameInUse.__init__", sE_NameInUse, fun K => [(("__class__" : Str), cellAt (mA "NameInUse" "__init__") K)], fun _ => .none⟩,
  ⟨(gA "check_names"), "check_names", "check_names", sCks, fun _ => [], fun _ => .none⟩,
  ⟨(mA "World" "__init__"), "__init__", "World.__init__", sWIni, fun _ => [], fun K => .ref (dflAt (mA "World" "__init__") K)⟩,
  ⟨(mA "World" "facts"), "facts", "World.facts", sWFa, fun _ => [], fun _ => .none⟩,
  ⟨(mA "World" "piles"), "piles", "World.piles", sWPi, fun _ => [], fun _ => .none⟩,
  ⟨(mA "World" "reserves"), "reserves", "World.reserves", sWRe, fun _ => [], fun _ => .none⟩,
  ⟨(mA "World" "seen"), "seen", "World.seen", sWSe, fun _ => [], fun _ => .none⟩,
  ⟨(mA "World" "counters"), "counters", "World.counters", sWCo, fun _ => [], fun _ => .none⟩,
  ⟨(gA "fits_fact"), "fits_fact", "fits_fact", sFiF, fun _ => [], fun _ => .none⟩,
  ⟨(gA "fits_pile"), "fits_pile", "fits_pile", sFiP, fun _ => [], fun _ => .none⟩,
  ⟨(gA "fits_reserve"), "fits_reserve", "fits_reserve", sFiR, fun _ => [], fun _ => .none⟩,
  ⟨(gA "has_name"), "has_name", "has_name", sHaN, fun _ => [], fun _ => .none⟩,
  ⟨(gA "fits"), "fits", "fits", sFit, fun _ => [], fun _ => .none⟩,
  ⟨(gA "check_outcome"), "check_outcome", "check_outcome", sCkO, fun _ => [], fun _ => .none⟩,
  ⟨(gA "takes_from_reserve"), "takes_from_reserve", "takes_from_reserve", sTkR, fun _ => [], fun _ => .none⟩,
  ⟨(gA "check_seen"), "check_seen", "check_seen", sCkS, fun _ => [], fun _ => .none⟩,
  ⟨(gA "check_action"), "check_action", "check_action", sCkA, fun _ => [], fun _ => .none⟩,
  ⟨(mA "World" "__setitem__"), "__setitem__", "World.__setitem__", sWSi, fun _ => [], fun _ => .none⟩,
  ⟨(mA "Condition" "__and__"), "__and__", "Condition.__and__", sAnd, fun _ => [], fun _ => .none⟩,
  ⟨(mA "Condition" "__or__"), "__or__", "Condition.__or__", sOr, fun _ => [], fun _ => .none⟩,
  ⟨(mA "Condition" "__invert__"), "__invert__", "Condition.__invert__", sInv, fun _ => [], fun _ => .none⟩,
  ⟨(gA "_law_mixed"), "_law_mixed", "_law_mixed", sMixed, fun _ => [], fun _ => .none⟩,
  ⟨(gA "_law_condition"), "_law_condition", "_law_condition", sCnd, fun _ => [], fun _ => .none⟩,
  ⟨(gA "_law_built"), "_law_built", "_law_built", sBlt, fun _ => [], fun _ => .none⟩,
  ⟨(gA "_law_lists"), "_law_lists", "_law_lists", sLLi, fun _ => [], fun _ => .none⟩,
  ⟨(gA "_law_seen"), "_law_seen", "_law_seen", sLSe, fun _ => [], fun _ => .none⟩,
  ⟨(gA "_law_changes"), "_law_changes", "_law_changes", sLCh, fun _ => [], fun _ => .none⟩,
  ⟨(gA "_law_action"), "_law_action", "_law_action", sLAc, fun _ => [], fun _ => .none⟩,
  ⟨(gA "_law_made"), "_law_made", "_law_made", sLMa, fun _ => [], fun _ => .none⟩,
  ⟨(gA "all_states"), "all_states", "all_states", sAlS, fun _ => [], fun _ => .none⟩,
  ⟨(gA "are_some_of"), "are_some_of", "are_some_of", sASo, fun _ => [], fun _ => .none⟩,
  ⟨(gA "in_order"), "in_order", "in_order", sInO, fun _ => [], fun _ => .none⟩,
  ⟨(mA "World" "state_of"), "state_of", "World.state_of", sWSo, fun _ => [], fun _ => .none⟩,
  ⟨(mA "World" "states"), "states", "World.states", sWSt, fun _ => [], fun _ => .none⟩,
  ⟨(mA "World" "remove"), "remove", "World.remove", sWRm, fun _ => [], fun _ => .none⟩,
  ⟨(mA "World" "copy"), "copy", "World.copy", sWCp, fun _ => [], fun _ => .none⟩,
  ⟨(gA "_law_states"), "_law_states", "_law_states", sLSs, fun _ => [], fun _ => .none⟩,
  ⟨(gA "law"), "law", "law", sLaw, fun _ => [], fun _ => .none⟩]
theorem all_told {w : World} {K : PySem.W.Frag} {h : Heap} {mg : Str → Option Value} {fa : Addr} (X : K.In h) (G : h.Ns mainGlobals mg) (hfa : mg "law" = some (.ref fa)) (c : Told tXs tFs K) :
    ∃ fd : FuncData, (∀ (s : Shared) (v : Value), BindsTo s fd ⟨[v], []⟩ [("_law_script", v)]) ∧ ∀ base : Heap, K.In base → base.Ns mainGlobals mg → FnG PySem.Challenge.rw_noneorsome_k16_states_listed.prog w K mg base (L2.CX PySem.Challenge.rw_noneorsome_k16_states_listed.prog w) 15 fa fd ["_law_script"] (spD K FLaw) := by
  have a0 := of_dec (show (decide (PySem.W.nsIn K mainGlobals "_law_draw" = some (some (.ref (gA "_law_draw" K))))) = true from c.ex 0 (f := fun K => decide (PySem.W.nsIn K mainGlobals "_law_draw" = some (some (.ref (gA "_law_draw" K))))))
  obtain ⟨_, _, _, _, _, _, _, _, _, l0, c0⟩ := c.pl 0
  have k0 := (show (PySem.W.keepIn K (.ref (gA "_law_draw" K))) = true from c.ex 1 (f := fun K => PySem.W.keepIn K (.ref (gA "_law_draw" K))))
  have a1 := of_dec (show (decide (PySem.W.nsIn K mainGlobals "_law_pick" = some (some (.ref (gA "_law_pick" K))))) = true from c.ex 2 (f := fun K => decide (PySem.W.nsIn K mainGlobals "_law_pick" = some (some (.ref (gA "_law_pick" K))))))
  obtain ⟨_, _, _, _, _, _, _, _, _, l1, c1⟩ := c.pl 1
  have k1 := (show (PySem.W.keepIn K (.ref (gA "_law_pick" K))) = true from c.ex 3 (f := fun K => PySem.W.keepIn K (.ref (gA "_law_pick" K))))
  have a2 := of_dec (show (decide (PySem.W.nsIn K mainGlobals "_law_same" = some (some (.ref (gA "_law_same" K))))) = true from c.ex 4 (f := fun K => decide (PySem.W.nsIn K mainGlobals "_law_same" = some (some (.ref (gA "_law_same" K))))))
  obtain ⟨_, _, _, _, _, _, _, _, _, l2, c2⟩ := c.pl 2
  have k2 := (show (PySem.W.keepIn K (.ref (gA "_law_same" K))) = true from c.ex 5 (f := fun K => PySem.W.keepIn K (.ref (gA "_law_same" K))))
  have a3 := of_dec (show (decide (PySem.W.nsIn K mainGlobals "_law_name" = some (some (.ref (gA "_law_name" K))))) = true from c.ex 6 (f := fun K => decide (PySem.W.nsIn K mainGlobals "_law_name" = some (some (.ref (gA "_law_name" K))))))
  obtain ⟨_, _, _, _, _, _, _, _, _, l3, c3⟩ := c.pl 3
  have k3 := (show (PySem.W.keepIn K (.ref (gA "_law_name" K))) = true from c.ex 7 (f := fun K => PySem.W.keepIn K (.ref (gA "_law_name" K))))
  have a4 := of_dec (show (decide (PySem.W.nsIn K mainGlobals "_law_names" = some (some (.ref (gA "_law_names" K))))) = true from c.ex 8 (f := fun K => decide (PySem.W.nsIn K mainGlobals "_law_names" = some (some (.ref (gA "_law_names" K))))))
  obtain ⟨_, _, _, _, _, _, _, _, _, l4, c4⟩ := c.pl 4
  have k4 := (show (PySem.W.keepIn K (.ref (gA "_law_names" K))) = true from c.ex 9 (f := fun K => PySem.W.keepIn K (.ref (gA "_law_names" K))))
  have a5 := of_dec (show (decide (PySem.W.nsIn K mainGlobals "is_letter" = some (some (.ref (gA "is_letter" K))))) = true from c.ex 10 (f := fun K => decide (PySem.W.nsIn K mainGlobals "is_letter" = some (some (.ref (gA "is_letter" K))))))
  obtain ⟨_, _, _, _, _, _, _, _, _, l5, c5⟩ := c.pl 5
  have k5 := (show (PySem.W.keepIn K (.ref (gA "is_letter" K))) = true from c.ex 11 (f := fun K => PySem.W.keepIn K (.ref (gA "is_letter" K))))
  have ac_RESERVED := of_dec (show (decide (PySem.W.nsIn K mainGlobals "RESERVED" = some (some (.ref (gA "RESERVED" K))))) = true from c.ex 12 (f := fun K => decide (PySem.W.nsIn K mainGlobals "RESERVED" = some (some (.ref (gA "RESERVED" K))))))
  obtain ⟨_, _, _, _, lc_RESERVED, zc_RESERVED, vc_RESERVED⟩ := tupB_ok (show (tupB (gA "RESERVED" K) (Reserved.map V.str) K) = true from c.ex 13 (f := fun K => tupB (gA "RESERVED" K) (Reserved.map V.str) K))
  obtain ⟨_, ac_LONGEST⟩ := intB_ok (show (intB "LONGEST" 8 K) = true from c.ex 14 (f := intB "LONGEST" 8))
  have a6 := of_dec (show (decide (PySem.W.nsIn K mainGlobals "is_name" = some (some (.ref (gA "is_name" K))))) = true from c.ex 15 (f := fun K => decide (PySem.W.nsIn K mainGlobals "is_name" = some (some (.ref (gA "is_name" K))))))
  obtain ⟨_, _, _, _, _, _, _, _, _, l6, c6⟩ := c.pl 6
  have k6 := (show (PySem.W.keepIn K (.ref (gA "is_name" K))) = true from c.ex 16 (f := fun K => PySem.W.keepIn K (.ref (gA "is_name" K))))
  have aC_BadName := of_dec (show (decide (PySem.W.nsIn K mainGlobals "BadName" = some (some (.ref (gA "BadName" K))))) = true from c.ex 17 (f := fun K => decide (PySem.W.nsIn K mainGlobals "BadName" = some (some (.ref (gA "BadName" K))))))
  obtain ⟨_, _, _, _, _, _, _, _, _, _, _, _, _, _, _, lCE_BadName, rvE_BadName⟩ := excB_ok (show (excB (gA "BadName" K) K) = true from c.ex 18 (f := fun K => excB (gA "BadName" K) K))
  have saE_BadName := of_dec (show (decide (PySem.W.findIn K (.ref (gA "BadName" K)) "__setattr__" = some (some (.builtin "object.__setattr__")))) = true from c.ex 19 (f := fun K => decide (PySem.W.findIn K (.ref (gA "BadName" K)) "__setattr__" = some (some (.builtin "object.__setattr__")))))
  have exCE_BadName := of_dec (show (decide (PySem.W.subIn K (.ref (gA "BadName" K)) (.type "BaseException") = some true)) = true from c.ex 20 (f := fun K => decide (PySem.W.subIn K (.ref (gA "BadName" K)) (.type "BaseException") = some true)))
  have tyCE_BadName := of_dec (show (decide (PySem.W.typeIn K (.ref (gA "BadName" K)) = some (.type "type"))) = true from c.ex 21 (f := fun K => decide (PySem.W.typeIn K (.ref (gA "BadName" K)) = some (.type "type"))))
  have kCE_BadName := (show (PySem.W.keepIn K (.ref (gA "BadName" K))) = true from c.ex 22 (f := fun K => PySem.W.keepIn K (.ref (gA "BadName" K))))
  have iCE_BadName := of_dec (show (decide (PySem.W.findIn K (.ref (gA "BadName" K)) "__init__" = some (some (.ref (mA "BadName" "__init__" K))))) = true from c.ex 23 (f := fun K => decide (PySem.W.findIn K (.ref (gA "BadName" K)) "__init__" = some (some (.ref (mA "BadName" "__init__" K))))))
  obtain ⟨_, _, _, _, _, _, _, _, lfE_BadName, cfE_BadName⟩ := c.err 7 24
  have tf_E_BadName := of_dec (show (decide (PySem.W.typeIn K (.ref (mA "BadName" "__init__" K)) = some (.type "function"))) = true from c.ex 25 (f := fun K => decide (PySem.W.typeIn K (.ref (mA "BadName" "__init__" K)) = some (.type "function"))))
  obtain ⟨_, _, _, _, _, _, lcdE_BadName, hvsE_BadName, hfileE_BadName⟩ := fileB_ok (show (fileB PySem.Challenge.rw_noneorsome_k16_states_listed.prog (codeAt (mA "BadName" "__init__") K) K) = true from c.ex 26 (f := fun K => fileB PySem.Challenge.rw_noneorsome_k16_states_listed.prog (codeAt (mA "BadName" "__init__") K) K))
  obtain ⟨_, _, _, lccE_BadName⟩ := cellB_ok (show (cellB (cellAt (mA "BadName" "__init__") K) (gA "BadName" K) K) = true from c.ex 27 (f := fun K => cellB (cellAt (mA "BadName" "__init__") K) (gA "BadName" K) K))
  have msE_BadName := of_dec (show (decide (PySem.W.mroIn K (gA "BadName" K) (.ref (gA "BadName" K)) = some true)) = true from c.ex 28 (f := fun K => decide (PySem.W.mroIn K (gA "BadName" K) (.ref (gA "BadName" K)) = some true)))
  have su_ := of_dec (show (decide (PySem.W.nsIn K mainGlobals "super" = some none)) = true from c.ex 29 (f := fun K => decide (PySem.W.nsIn K mainGlobals "super" = some none)))
  have tp_ : (PySem.Challenge.rw_noneorsome_k16_states_listed.prog.main.scope.names.lookup ("super" : Str)).isSome = false := by first | rfl | decide +kernel
  have iniE_BadName := of_dec (show (decide (PySem.W.ks_superIn K (gA "BadName" K) (gA "BadName" K) "__init__" = some (some (.builtin "ValueError.__init__")))) = true from c.ex 30 (f := fun K => decide (PySem.W.ks_superIn K (gA "BadName" K) (gA "BadName" K) "__init__" = some (some (.builtin "ValueError.__init__")))))
  have basE_BadName := of_dec (show (decide (PySem.W.subIn K (.ref (gA "BadName" K)) (.type "ValueError") = some true)) = true from c.ex 31 (f := fun K => decide (PySem.W.subIn K (.ref (gA "BadName" K)) (.type "ValueError") = some true)))
  have tpa_ := of_dec (show (decide (PySem.W.nsIn K cStatics "thirdparty.any" = some none)) = true from c.ex 32 (f := fun K => decide (PySem.W.nsIn K cStatics "thirdparty.any" = some none)))
  have no_BadName_name := of_dec (show (decide (PySem.W.findIn K (.ref (gA "BadName" K)) "name" = some none)) = true from c.ex 33 (f := fun K => decide (PySem.W.findIn K (.ref (gA "BadName" K)) "name" = some none)))
  have a7 := of_dec (show (decide (PySem.W.nsIn K mainGlobals "check_name" = some (some (.ref (gA "check_name" K))))) = true from c.ex 34 (f := fun K => decide (PySem.W.nsIn K mainGlobals "check_name" = some (some (.ref (gA "check_name" K))))))
  obtain ⟨_, _, _, _, _, _, _, _, _, l7, c7⟩ := c.pl 8
  have k7 := (show (PySem.W.keepIn K (.ref (gA "check_name" K))) = true from c.ex 35 (f := fun K => PySem.W.keepIn K (.ref (gA "check_name" K))))
  have aC_BadChange := of_dec (show (decide (PySem.W.nsIn K mainGlobals "BadChange" = some (some (.ref (gA "BadChange" K))))) = true from c.ex 36 (f := fun K => decide (PySem.W.nsIn K mainGlobals "BadChange" = some (some (.ref (gA "BadChange" K))))))
  obtain ⟨_, _, _, _, _, _, _, _, _, _, _, _, _, _, _, lCE_BadChange, rvE_BadChange⟩ := excB_ok (show (excB (gA "BadChange" K) K) = true from c.ex 37 (f := fun K => excB (gA "BadChange" K) K))
  have saE_BadChange := of_dec (show (decide (PySem.W.findIn K (.ref (gA "BadChange" K)) "__setattr__" = some (some (.builtin "object.__setattr__")))) = true from c.ex 38 (f := fun K => decide (PySem.W.findIn K (.ref (gA "BadChange" K)) "__setattr__" = some (some (.builtin "object.__setattr__")))))
  have exCE_BadChange := of_dec (show (decide (PySem.W.subIn K (.ref (gA "BadChange" K)) (.type "BaseException") = some true)) = true from c.ex 39 (f := fun K => decide (PySem.W.subIn K (.ref (gA "BadChange" K)) (.type "BaseException") = some true)))
  have tyCE_BadChange := of_dec (show (decide (PySem.W.typeIn K (.ref (gA "BadChange" K)) = some (.type "type"))) = true from c.ex 40 (f := fun K => decide (PySem.W.typeIn K (.ref (gA "BadChange" K)) = some (.type "type"))))
  have kCE_BadChange := (show (PySem.W.keepIn K (.ref (gA "BadChange" K))) = true from c.ex 41 (f := fun K => PySem.W.keepIn K (.ref (gA "BadChange" K))))
  have iCE_BadChange := of_dec (show (decide (PySem.W.findIn K (.ref (gA "BadChange" K)) "__init__" = some (some (.ref (mA "BadChange" "__init__" K))))) = true from c.ex 42 (f := fun K => decide (PySem.W.findIn K (.ref (gA "BadChange" K)) "__init__" = some (some (.ref (mA "BadChange" "__init__" K))))))
  obtain ⟨_, _, _, _, _, _, _, _, lfE_BadChange, cfE_BadChange⟩ := c.err 9 43
  have tf_E_BadChange := of_dec (show (decide (PySem.W.typeIn K (.ref (mA "BadChange" "__init__" K)) = some (.type "function"))) = true from c.ex 44 (f := fun K => decide (PySem.W.typeIn K (.ref (mA "BadChange" "__init__" K)) = some (.type "function"))))
  obtain ⟨_, _, _, _, _, _, lcdE_BadChange, hvsE_BadChange, hfileE_BadChange⟩ := fileB_ok (show (fileB PySem.Challenge.rw_noneorsome_k16_states_listed.prog (codeAt (mA "BadChange" "__init__") K) K) = true from c.ex 45 (f := fun K => fileB PySem.Challenge.rw_noneorsome_k16_states_listed.prog (codeAt (mA "BadChange" "__init__") K) K))
  obtain ⟨_, _, _, lccE_BadChange⟩ := cellB_ok (show (cellB (cellAt (mA "BadChange" "__init__") K) (gA "BadChange" K) K) = true from c.ex 46 (f := fun K => cellB (cellAt (mA "BadChange" "__init__") K) (gA "BadChange" K) K))
  have msE_BadChange := of_dec (show (decide (PySem.W.mroIn K (gA "BadChange" K) (.ref (gA "BadChange" K)) = some true)) = true from c.ex 47 (f := fun K => decide (PySem.W.mroIn K (gA "BadChange" K) (.ref (gA "BadChange" K)) = some true)))
  have iniE_BadChange := of_dec (show (decide (PySem.W.ks_superIn K (gA "BadChange" K) (gA "BadChange" K) "__init__" = some (some (.builtin "ValueError.__init__")))) = true from c.ex 48 (f := fun K => decide (PySem.W.ks_superIn K (gA "BadChange" K) (gA "BadChange" K) "__init__" = some (some (.builtin "ValueError.__init__")))))
  have basE_BadChange := of_dec (show (decide (PySem.W.subIn K (.ref (gA "BadChange" K)) (.type "ValueError") = some true)) = true from c.ex 49 (f := fun K => decide (PySem.W.subIn K (.ref (gA "BadChange" K)) (.type "ValueError") = some true)))
  have no_BadChange_name := of_dec (show (decide (PySem.W.findIn K (.ref (gA "BadChange" K)) "name" = some none)) = true from c.ex 50 (f := fun K => decide (PySem.W.findIn K (.ref (gA "BadChange" K)) "name" = some none)))
  have no_BadChange_change := of_dec (show (decide (PySem.W.findIn K (.ref (gA "BadChange" K)) "change" = some none)) = true from c.ex 51 (f := fun K => decide (PySem.W.findIn K (.ref (gA "BadChange" K)) "change" = some none)))
  have kit_bb := of_dec (show (decide (PySem.W.kitOne K (.type "bool") (.type "bool") = some true)) = true from c.ex 52 (f := fun K => decide (PySem.W.kitOne K (.type "bool") (.type "bool") = some true)))
  have kit_sb := of_dec (show (decide (PySem.W.kitOne K (.type "str") (.type "bool") = some false)) = true from c.ex 53 (f := fun K => decide (PySem.W.kitOne K (.type "str") (.type "bool") = some false)))
  have kit_ss := of_dec (show (decide (PySem.W.kitOne K (.type "str") (.type "str") = some true)) = true from c.ex 54 (f := fun K => decide (PySem.W.kitOne K (.type "str") (.type "str") = some true)))
  have kit_nb := of_dec (show (decide (PySem.W.kitOne K (.type "NoneType") (.type "bool") = some false)) = true from c.ex 55 (f := fun K => decide (PySem.W.kitOne K (.type "NoneType") (.type "bool") = some false)))
  have kit_ns := of_dec (show (decide (PySem.W.kitOne K (.type "NoneType") (.type "str") = some false)) = true from c.ex 56 (f := fun K => decide (PySem.W.kitOne K (.type "NoneType") (.type "str") = some false)))
  have a8 := of_dec (show (decide (PySem.W.nsIn K mainGlobals "is_change" = some (some (.ref (gA "is_change" K))))) = true from c.ex 57 (f := fun K => decide (PySem.W.nsIn K mainGlobals "is_change" = some (some (.ref (gA "is_change" K))))))
  obtain ⟨_, _, _, _, _, _, _, _, _, l8, c8⟩ := c.pl 10
  have k8 := (show (PySem.W.keepIn K (.ref (gA "is_change" K))) = true from c.ex 58 (f := fun K => PySem.W.keepIn K (.ref (gA "is_change" K))))
  have a9 := of_dec (show (decide (PySem.W.nsIn K mainGlobals "check_entry" = some (some (.ref (gA "check_entry" K))))) = true from c.ex 59 (f := fun K => decide (PySem.W.nsIn K mainGlobals "check_entry" = some (some (.ref (gA "check_entry" K))))))
  obtain ⟨_, _, _, _, _, _, _, _, _, l9, c9⟩ := c.pl 11
  have k9 := (show (PySem.W.keepIn K (.ref (gA "check_entry" K))) = true from c.ex 60 (f := fun K => PySem.W.keepIn K (.ref (gA "check_entry" K))))
  have aC_Outcome := of_dec (show (decide (PySem.W.nsIn K mainGlobals "Outcome" = some (some (.ref (gA "Outcome" K))))) = true from c.ex 61 (f := fun K => decide (PySem.W.nsIn K mainGlobals "Outcome" = some (some (.ref (gA "Outcome" K))))))
  have pna_changes := of_dec (show (decide (PySem.W.findIn K (.ref (gA "Outcome" K)) "_changes" = some none)) = true from c.ex 62 (f := fun K => decide (PySem.W.findIn K (.ref (gA "Outcome" K)) "_changes" = some none)))
  have pg_Outcome := (show (PySem.W.plainGet K (gA "Outcome" K) Str.empty) = true from c.ex 63 (f := fun K => PySem.W.plainGet K (gA "Outcome" K) Str.empty))
  have hd_Outcome := (show (PySem.W.hasDictIn K (gA "Outcome" K)) = true from c.ex 64 (f := fun K => PySem.W.hasDictIn K (gA "Outcome" K)))
  have po_Outcome := (show (PySem.W.plainOver K (gA "Outcome" K)) = true from c.ex 65 (f := fun K => PySem.W.plainOver K (gA "Outcome" K)))
  have sa_Outcome := of_dec (show (decide (PySem.W.findIn K (.ref (gA "Outcome" K)) "__setattr__" = some (some (.builtin "object.__setattr__")))) = true from c.ex 66 (f := fun K => decide (PySem.W.findIn K (.ref (gA "Outcome" K)) "__setattr__" = some (some (.builtin "object.__setattr__")))))
  have giOutcome_names := of_dec (show (decide (PySem.W.findIn K (.ref (gA "Outcome" K)) "names" = some (some (.ref (mA "Outcome" "names" K))))) = true from c.ex 67 (f := fun K => decide (PySem.W.findIn K (.ref (gA "Outcome" K)) "names" = some (some (.ref (mA "Outcome" "names" K))))))
  obtain ⟨_, _, _, _, _, _, _, _, _, glOutcome_names, gcOutcome_names⟩ := c.pl 12
  have gfOutcome_names := (show (PySem.W.isFn K (.ref (mA "Outcome" "names" K))) = true from c.ex 68 (f := fun K => PySem.W.isFn K (.ref (mA "Outcome" "names" K))))
  have gkOutcome_names := (show (PySem.W.keepIn K (.ref (mA "Outcome" "names" K))) = true from c.ex 69 (f := fun K => PySem.W.keepIn K (.ref (mA "Outcome" "names" K))))
  have giOutcome_getitem := of_dec (show (decide (PySem.W.findIn K (.ref (gA "Outcome" K)) "__getitem__" = some (some (.ref (mA "Outcome" "__getitem__" K))))) = true from c.ex 70 (f := fun K => decide (PySem.W.findIn K (.ref (gA "Outcome" K)) "__getitem__" = some (some (.ref (mA "Outcome" "__getitem__" K))))))
  obtain ⟨_, _, _, _, _, _, _, _, _, glOutcome_getitem, gcOutcome_getitem⟩ := c.pl 13
  have gfOutcome_getitem := (show (PySem.W.isFn K (.ref (mA "Outcome" "__getitem__" K))) = true from c.ex 71 (f := fun K => PySem.W.isFn K (.ref (mA "Outcome" "__getitem__" K))))
  have gkOutcome_getitem := (show (PySem.W.keepIn K (.ref (mA "Outcome" "__getitem__" K))) = true from c.ex 72 (f := fun K => PySem.W.keepIn K (.ref (mA "Outcome" "__getitem__" K))))
  have a10 := of_dec (show (decide (PySem.W.nsIn K mainGlobals "names_among" = some (some (.ref (gA "names_among" K))))) = true from c.ex 73 (f := fun K => decide (PySem.W.nsIn K mainGlobals "names_among" = some (some (.ref (gA "names_among" K))))))
  obtain ⟨_, _, _, _, _, _, _, _, _, l10, c10⟩ := c.pl 14
  have k10 := (show (PySem.W.keepIn K (.ref (gA "names_among" K))) = true from c.ex 74 (f := fun K => PySem.W.keepIn K (.ref (gA "names_among" K))))
  have aC_Condition := of_dec (show (decide (PySem.W.nsIn K mainGlobals "Condition" = some (some (.ref (gA "Condition" K))))) = true from c.ex 75 (f := fun K => decide (PySem.W.nsIn K mainGlobals "Condition" = some (some (.ref (gA "Condition" K))))))
  have pg_Condition := (show (PySem.W.plainGet K (gA "Condition" K) Str.empty) = true from c.ex 76 (f := fun K => PySem.W.plainGet K (gA "Condition" K) Str.empty))
  have hd_Condition := (show (PySem.W.hasDictIn K (gA "Condition" K)) = true from c.ex 77 (f := fun K => PySem.W.hasDictIn K (gA "Condition" K)))
  have po_Condition := (show (PySem.W.plainOver K (gA "Condition" K)) = true from c.ex 78 (f := fun K => PySem.W.plainOver K (gA "Condition" K)))
  have sa_Condition := of_dec (show (decide (PySem.W.findIn K (.ref (gA "Condition" K)) "__setattr__" = some (some (.builtin "object.__setattr__")))) = true from c.ex 79 (f := fun K => decide (PySem.W.findIn K (.ref (gA "Condition" K)) "__setattr__" = some (some (.builtin "object.__setattr__")))))
  have pna_words := of_dec (show (decide (PySem.W.findIn K (.ref (gA "Condition" K)) "_words" = some none)) = true from c.ex 80 (f := fun K => decide (PySem.W.findIn K (.ref (gA "Condition" K)) "_words" = some none)))
  have giCondition_init := of_dec (show (decide (PySem.W.findIn K (.ref (gA "Condition" K)) "__init__" = some (some (.ref (mA "Condition" "__init__" K))))) = true from c.ex 81 (f := fun K => decide (PySem.W.findIn K (.ref (gA "Condition" K)) "__init__" = some (some (.ref (mA "Condition" "__init__" K))))))
  obtain ⟨_, _, _, _, _, _, _, _, _, glCondition_init, gcCondition_init⟩ := c.pl 15
  have gfCondition_init := (show (PySem.W.isFn K (.ref (mA "Condition" "__init__" K))) = true from c.ex 82 (f := fun K => PySem.W.isFn K (.ref (mA "Condition" "__init__" K))))
  have gkCondition_init := (show (PySem.W.keepIn K (.ref (mA "Condition" "__init__" K))) = true from c.ex 83 (f := fun K => PySem.W.keepIn K (.ref (mA "Condition" "__init__" K))))
  have mk_Condition := (show (PySem.W.makesIn K (gA "Condition" K)) = true from c.ex 84 (f := fun K => PySem.W.makesIn K (gA "Condition" K)))
  have kC_Condition := (show (PySem.W.keepIn K (.ref (gA "Condition" K))) = true from c.ex 85 (f := fun K => PySem.W.keepIn K (.ref (gA "Condition" K))))
  have sg_Condition := of_dec (show (decide (PySem.W.specialIn K (.ref (gA "Condition" K)) "__getattribute__" = some (some (.builtin "type.__getattribute__")))) = true from c.ex 86 (f := fun K => decide (PySem.W.specialIn K (.ref (gA "Condition" K)) "__getattribute__" = some (some (.builtin "type.__getattribute__")))))
  have st_Condition := of_dec (show (decide (PySem.W.typeIn K (.ref (gA "Condition" K)) = some (.type "type"))) = true from c.ex 87 (f := fun K => decide (PySem.W.typeIn K (.ref (gA "Condition" K)) = some (.type "type"))))
  have sr_Condition := (show (PySem.W.readsIn K (gA "Condition" K) (.type "type")) = true from c.ex 88 (f := fun K => PySem.W.readsIn K (gA "Condition" K) (.type "type")))
  have gaCondition_of := of_dec (show (decide (PySem.W.findIn K (.type "type") "of" = some none)) = true from c.ex 89 (f := fun K => decide (PySem.W.findIn K (.type "type") "of" = some none)))
  have giCondition_of := of_dec (show (decide (PySem.W.findIn K (.ref (gA "Condition" K)) "of" = some (some (.ref (mA "Condition" "of" K))))) = true from c.ex 90 (f := fun K => decide (PySem.W.findIn K (.ref (gA "Condition" K)) "of" = some (some (.ref (mA "Condition" "of" K))))))
  have gtCondition_of := of_dec (show (decide (PySem.W.typeIn K (.ref (mA "Condition" "of" K)) = some (.type "staticmethod"))) = true from c.ex 91 (f := fun K => decide (PySem.W.typeIn K (.ref (mA "Condition" "of" K)) = some (.type "staticmethod"))))
  have gsCondition_of := of_dec (show (decide (PySem.W.specialIn K (.ref (mA "Condition" "of" K)) "__get__" = some (some (.builtin "staticmethod.__get__")))) = true from c.ex 92 (f := fun K => decide (PySem.W.specialIn K (.ref (mA "Condition" "of" K)) "__get__" = some (some (.builtin "staticmethod.__get__")))))
  obtain ⟨_, _, _, _, gpCondition_of, gvCondition_of⟩ := staB_ok (show (staB (mA "Condition" "of" K) K) = true from c.ex 93 (f := fun K => staB (mA "Condition" "of" K) K))
  obtain ⟨_, _, _, _, _, _, _, _, _, glCondition_of, gcCondition_of⟩ := c.pl 16
  have gkCondition_of := (show (PySem.W.keepIn K (.ref (sA "Condition" "of" K))) = true from c.ex 94 (f := fun K => PySem.W.keepIn K (.ref (sA "Condition" "of" K))))
  have gaCondition_always := of_dec (show (decide (PySem.W.findIn K (.type "type") "always" = some none)) = true from c.ex 95 (f := fun K => decide (PySem.W.findIn K (.type "type") "always" = some none)))
  have giCondition_always := of_dec (show (decide (PySem.W.findIn K (.ref (gA "Condition" K)) "always" = some (some (.ref (mA "Condition" "always" K))))) = true from c.ex 96 (f := fun K => decide (PySem.W.findIn K (.ref (gA "Condition" K)) "always" = some (some (.ref (mA "Condition" "always" K))))))
  have gtCondition_always := of_dec (show (decide (PySem.W.typeIn K (.ref (mA "Condition" "always" K)) = some (.type "staticmethod"))) = true from c.ex 97 (f := fun K => decide (PySem.W.typeIn K (.ref (mA "Condition" "always" K)) = some (.type "staticmethod"))))
  have gsCondition_always := of_dec (show (decide (PySem.W.specialIn K (.ref (mA "Condition" "always" K)) "__get__" = some (some (.builtin "staticmethod.__get__")))) = true from c.ex 98 (f := fun K => decide (PySem.W.specialIn K (.ref (mA "Condition" "always" K)) "__get__" = some (some (.builtin "staticmethod.__get__")))))
  obtain ⟨_, _, _, _, gpCondition_always, gvCondition_always⟩ := staB_ok (show (staB (mA "Condition" "always" K) K) = true from c.ex 99 (f := fun K => staB (mA "Condition" "always" K) K))
  obtain ⟨_, _, _, _, _, _, _, _, _, glCondition_always, gcCondition_always⟩ := c.pl 17
  have gkCondition_always := (show (PySem.W.keepIn K (.ref (sA "Condition" "always" K))) = true from c.ex 100 (f := fun K => PySem.W.keepIn K (.ref (sA "Condition" "always" K))))
  have gaCondition_never := of_dec (show (decide (PySem.W.findIn K (.type "type") "never" = some none)) = true from c.ex 101 (f := fun K => decide (PySem.W.findIn K (.type "type") "never" = some none)))
  have giCondition_never := of_dec (show (decide (PySem.W.findIn K (.ref (gA "Condition" K)) "never" = some (some (.ref (mA "Condition" "never" K))))) = true from c.ex 102 (f := fun K => decide (PySem.W.findIn K (.ref (gA "Condition" K)) "never" = some (some (.ref (mA "Condition" "never" K))))))
  have gtCondition_never := of_dec (show (decide (PySem.W.typeIn K (.ref (mA "Condition" "never" K)) = some (.type "staticmethod"))) = true from c.ex 103 (f := fun K => decide (PySem.W.typeIn K (.ref (mA "Condition" "never" K)) = some (.type "staticmethod"))))
  have gsCondition_never := of_dec (show (decide (PySem.W.specialIn K (.ref (mA "Condition" "never" K)) "__get__" = some (some (.builtin "staticmethod.__get__")))) = true from c.ex 104 (f := fun K => decide (PySem.W.specialIn K (.ref (mA "Condition" "never" K)) "__get__" = some (some (.builtin "staticmethod.__get__")))))
  obtain ⟨_, _, _, _, gpCondition_never, gvCondition_never⟩ := staB_ok (show (staB (mA "Condition" "never" K) K) = true from c.ex 105 (f := fun K => staB (mA "Condition" "never" K) K))
  obtain ⟨_, _, _, _, _, _, _, _, _, glCondition_never, gcCondition_never⟩ := c.pl 18
  have gkCondition_never := (show (PySem.W.keepIn K (.ref (sA "Condition" "never" K))) = true from c.ex 106 (f := fun K => PySem.W.keepIn K (.ref (sA "Condition" "never" K))))
  have giCondition_names := of_dec (show (decide (PySem.W.findIn K (.ref (gA "Condition" K)) "names" = some (some (.ref (mA "Condition" "names" K))))) = true from c.ex 107 (f := fun K => decide (PySem.W.findIn K (.ref (gA "Condition" K)) "names" = some (some (.ref (mA "Condition" "names" K))))))
  obtain ⟨_, _, _, _, _, _, _, _, _, glCondition_names, gcCondition_names⟩ := c.pl 19
  have gfCondition_names := (show (PySem.W.isFn K (.ref (mA "Condition" "names" K))) = true from c.ex 108 (f := fun K => PySem.W.isFn K (.ref (mA "Condition" "names" K))))
  have gkCondition_names := (show (PySem.W.keepIn K (.ref (mA "Condition" "names" K))) = true from c.ex 109 (f := fun K => PySem.W.keepIn K (.ref (mA "Condition" "names" K))))
  have giOutcome_init := of_dec (show (decide (PySem.W.findIn K (.ref (gA "Outcome" K)) "__init__" = some (some (.ref (mA "Outcome" "__init__" K))))) = true from c.ex 110 (f := fun K => decide (PySem.W.findIn K (.ref (gA "Outcome" K)) "__init__" = some (some (.ref (mA "Outcome" "__init__" K))))))
  obtain ⟨_, _, _, _, _, _, _, _, _, glOutcome_init, gcOutcome_init⟩ := c.pl 20
  have gfOutcome_init := (show (PySem.W.isFn K (.ref (mA "Outcome" "__init__" K))) = true from c.ex 111 (f := fun K => PySem.W.isFn K (.ref (mA "Outcome" "__init__" K))))
  have gkOutcome_init := (show (PySem.W.keepIn K (.ref (mA "Outcome" "__init__" K))) = true from c.ex 112 (f := fun K => PySem.W.keepIn K (.ref (mA "Outcome" "__init__" K))))
  obtain ⟨_, _, _, gTOutcome_init⟩ := tupVB_ok (show (tupVB (dflAt (mA "Outcome" "__init__") K) [.none] K) = true from c.ex 113 (f := fun K => tupVB (dflAt (mA "Outcome" "__init__") K) [.none] K))
  have mk_Outcome := (show (PySem.W.makesIn K (gA "Outcome" K)) = true from c.ex 114 (f := fun K => PySem.W.makesIn K (gA "Outcome" K)))
  have kC_Outcome := (show (PySem.W.keepIn K (.ref (gA "Outcome" K))) = true from c.ex 115 (f := fun K => PySem.W.keepIn K (.ref (gA "Outcome" K))))
  have giOutcome_copy := of_dec (show (decide (PySem.W.findIn K (.ref (gA "Outcome" K)) "copy" = some (some (.ref (mA "Outcome" "copy" K))))) = true from c.ex 116 (f := fun K => decide (PySem.W.findIn K (.ref (gA "Outcome" K)) "copy" = some (some (.ref (mA "Outcome" "copy" K))))))
  obtain ⟨_, _, _, _, _, _, _, _, _, glOutcome_copy, gcOutcome_copy⟩ := c.pl 21
  have gfOutcome_copy := (show (PySem.W.isFn K (.ref (mA "Outcome" "copy" K))) = true from c.ex 117 (f := fun K => PySem.W.isFn K (.ref (mA "Outcome" "copy" K))))
  have gkOutcome_copy := (show (PySem.W.keepIn K (.ref (mA "Outcome" "copy" K))) = true from c.ex 118 (f := fun K => PySem.W.keepIn K (.ref (mA "Outcome" "copy" K))))
  have aC_Action := of_dec (show (decide (PySem.W.nsIn K mainGlobals "Action" = some (some (.ref (gA "Action" K))))) = true from c.ex 119 (f := fun K => decide (PySem.W.nsIn K mainGlobals "Action" = some (some (.ref (gA "Action" K))))))
  have pg_Action := (show (PySem.W.plainGet K (gA "Action" K) Str.empty) = true from c.ex 120 (f := fun K => PySem.W.plainGet K (gA "Action" K) Str.empty))
  have hd_Action := (show (PySem.W.hasDictIn K (gA "Action" K)) = true from c.ex 121 (f := fun K => PySem.W.hasDictIn K (gA "Action" K)))
  have po_Action := (show (PySem.W.plainOver K (gA "Action" K)) = true from c.ex 122 (f := fun K => PySem.W.plainOver K (gA "Action" K)))
  have sa_Action := of_dec (show (decide (PySem.W.findIn K (.ref (gA "Action" K)) "__setattr__" = some (some (.builtin "object.__setattr__")))) = true from c.ex 123 (f := fun K => decide (PySem.W.findIn K (.ref (gA "Action" K)) "__setattr__" = some (some (.builtin "object.__setattr__")))))
  have pna_need := of_dec (show (decide (PySem.W.findIn K (.ref (gA "Action" K)) "need" = some none)) = true from c.ex 124 (f := fun K => decide (PySem.W.findIn K (.ref (gA "Action" K)) "need" = some none)))
  have pna_outcomes := of_dec (show (decide (PySem.W.findIn K (.ref (gA "Action" K)) "_outcomes" = some none)) = true from c.ex 125 (f := fun K => decide (PySem.W.findIn K (.ref (gA "Action" K)) "_outcomes" = some none)))
  have giAction_init := of_dec (show (decide (PySem.W.findIn K (.ref (gA "Action" K)) "__init__" = some (some (.ref (mA "Action" "__init__" K))))) = true from c.ex 126 (f := fun K => decide (PySem.W.findIn K (.ref (gA "Action" K)) "__init__" = some (some (.ref (mA "Action" "__init__" K))))))
  obtain ⟨_, _, _, _, _, _, _, _, _, glAction_init, gcAction_init⟩ := c.pl 22
  have gfAction_init := (show (PySem.W.isFn K (.ref (mA "Action" "__init__" K))) = true from c.ex 127 (f := fun K => PySem.W.isFn K (.ref (mA "Action" "__init__" K))))
  have gkAction_init := (show (PySem.W.keepIn K (.ref (mA "Action" "__init__" K))) = true from c.ex 128 (f := fun K => PySem.W.keepIn K (.ref (mA "Action" "__init__" K))))
  have mk_Action := (show (PySem.W.makesIn K (gA "Action" K)) = true from c.ex 129 (f := fun K => PySem.W.makesIn K (gA "Action" K)))
  have kC_Action := (show (PySem.W.keepIn K (.ref (gA "Action" K))) = true from c.ex 130 (f := fun K => PySem.W.keepIn K (.ref (gA "Action" K))))
  have giAction_len := of_dec (show (decide (PySem.W.findIn K (.ref (gA "Action" K)) "__len__" = some (some (.ref (mA "Action" "__len__" K))))) = true from c.ex 131 (f := fun K => decide (PySem.W.findIn K (.ref (gA "Action" K)) "__len__" = some (some (.ref (mA "Action" "__len__" K))))))
  obtain ⟨_, _, _, _, _, _, _, _, _, glAction_len, gcAction_len⟩ := c.pl 23
  have gfAction_len := (show (PySem.W.isFn K (.ref (mA "Action" "__len__" K))) = true from c.ex 132 (f := fun K => PySem.W.isFn K (.ref (mA "Action" "__len__" K))))
  have gkAction_len := (show (PySem.W.keepIn K (.ref (mA "Action" "__len__" K))) = true from c.ex 133 (f := fun K => PySem.W.keepIn K (.ref (mA "Action" "__len__" K))))
  have giAction_outcome := of_dec (show (decide (PySem.W.findIn K (.ref (gA "Action" K)) "outcome" = some (some (.ref (mA "Action" "outcome" K))))) = true from c.ex 134 (f := fun K => decide (PySem.W.findIn K (.ref (gA "Action" K)) "outcome" = some (some (.ref (mA "Action" "outcome" K))))))
  obtain ⟨_, _, _, _, _, _, _, _, _, glAction_outcome, gcAction_outcome⟩ := c.pl 24
  have gfAction_outcome := (show (PySem.W.isFn K (.ref (mA "Action" "outcome" K))) = true from c.ex 135 (f := fun K => PySem.W.isFn K (.ref (mA "Action" "outcome" K))))
  have gkAction_outcome := (show (PySem.W.keepIn K (.ref (mA "Action" "outcome" K))) = true from c.ex 136 (f := fun K => PySem.W.keepIn K (.ref (mA "Action" "outcome" K))))
  have a11 := of_dec (show (decide (PySem.W.nsIn K mainGlobals "outcomes_of" = some (some (.ref (gA "outcomes_of" K))))) = true from c.ex 137 (f := fun K => decide (PySem.W.nsIn K mainGlobals "outcomes_of" = some (some (.ref (gA "outcomes_of" K))))))
  obtain ⟨_, _, _, _, _, _, _, _, _, l11, c11⟩ := c.pl 25
  have k11 := (show (PySem.W.keepIn K (.ref (gA "outcomes_of" K))) = true from c.ex 138 (f := fun K => PySem.W.keepIn K (.ref (gA "outcomes_of" K))))
  have a12 := of_dec (show (decide (PySem.W.nsIn K mainGlobals "copy_of" = some (some (.ref (gA "copy_of" K))))) = true from c.ex 139 (f := fun K => decide (PySem.W.nsIn K mainGlobals "copy_of" = some (some (.ref (gA "copy_of" K))))))
  obtain ⟨_, _, _, _, _, _, _, _, _, l12, c12⟩ := c.pl 26
  have k12 := (show (PySem.W.keepIn K (.ref (gA "copy_of" K))) = true from c.ex 140 (f := fun K => PySem.W.keepIn K (.ref (gA "copy_of" K))))
  have aC_NameInUse := of_dec (show (decide (PySem.W.nsIn K mainGlobals "NameInUse" = some (some (.ref (gA "NameInUse" K))))) = true from c.ex 141 (f := fun K => decide (PySem.W.nsIn K mainGlobals "NameInUse" = some (some (.ref (gA "NameInUse" K))))))
  obtain ⟨_, _, _, _, _, _, _, _, _, _, _, _, _, _, _, lCE_NameInUse, rvE_NameInUse⟩ := excB_ok (show (excB (gA "NameInUse" K) K) = true from c.ex 142 (f := fun K => excB (gA "NameInUse" K) K))
  have saE_NameInUse := of_dec (show (decide (PySem.W.findIn K (.ref (gA "NameInUse" K)) "__setattr__" = some (some (.builtin "object.__setattr__")))) = true from c.ex 143 (f := fun K => decide (PySem.W.findIn K (.ref (gA "NameInUse" K)) "__setattr__" = some (some (.builtin "object.__setattr__")))))
  have exCE_NameInUse := of_dec (show (decide (PySem.W.subIn K (.ref (gA "NameInUse" K)) (.type "BaseException") = some true)) = true from c.ex 144 (f := fun K => decide (PySem.W.subIn K (.ref (gA "NameInUse" K)) (.type "BaseException") = some true)))
  have tyCE_NameInUse := of_dec (show (decide (PySem.W.typeIn K (.ref (gA "NameInUse" K)) = some (.type "type"))) = true from c.ex 145 (f := fun K => decide (PySem.W.typeIn K (.ref (gA "NameInUse" K)) = some (.type "type"))))
  have kCE_NameInUse := (show (PySem.W.keepIn K (.ref (gA "NameInUse" K))) = true from c.ex 146 (f := fun K => PySem.W.keepIn K (.ref (gA "NameInUse" K))))
  have iCE_NameInUse := of_dec (show (decide (PySem.W.findIn K (.ref (gA "NameInUse" K)) "__init__" = some (some (.ref (mA "NameInUse" "__init__" K))))) = true from c.ex 147 (f := fun K => decide (PySem.W.findIn K (.ref (gA "NameInUse" K)) "__init__" = some (some (.ref (mA "NameInUse" "__init__" K))))))
  obtain ⟨_, _, _, _, _, _, _, _, lfE_NameInUse, cfE_NameInUse⟩ := c.err 27 148
  have tf_E_NameInUse := of_dec (show (decide (PySem.W.typeIn K (.ref (mA "NameInUse" "__init__" K)) = some (.type "function"))) = true from c.ex 149 (f := fun K => decide (PySem.W.typeIn K (.ref (mA "NameInUse" "__init__" K)) = some (.type "function"))))
  obtain ⟨_, _, _, _, _, _, lcdE_NameInUse, hvsE_NameInUse, hfileE_NameInUse⟩ := fileB_ok (show (fileB PySem.Challenge.rw_noneorsome_k16_states_listed.prog (codeAt (mA "NameInUse" "__init__") K) K) = true from c.ex 150 (f := fun K => fileB PySem.Challenge.rw_noneorsome_k16_states_listed.prog (codeAt (mA "NameInUse" "__init__") K) K))
  obtain ⟨_, _, _, lccE_NameInUse⟩ := cellB_ok (show (cellB (cellAt (mA "NameInUse" "__init__") K) (gA "NameInUse" K) K) = true from c.ex 151 (f := fun K => cellB (cellAt (mA "NameInUse" "__init__") K) (gA "NameInUse" K) K))
  have msE_NameInUse := of_dec (show (decide (PySem.W.mroIn K (gA "NameInUse" K) (.ref (gA "NameInUse" K)) = some true)) = true from c.ex 152 (f := fun K => decide (PySem.W.mroIn K (gA "NameInUse" K) (.ref (gA "NameInUse" K)) = some true)))
  have iniE_NameInUse := of_dec (show (decide (PySem.W.ks_superIn K (gA "NameInUse" K) (gA "NameInUse" K) "__init__" = some (some (.builtin "ValueError.__init__")))) = true from c.ex 153 (f := fun K => decide (PySem.W.ks_superIn K (gA "NameInUse" K) (gA "NameInUse" K) "__init__" = some (some (.builtin "ValueError.__init__")))))
  have basE_NameInUse := of_dec (show (decide (PySem.W.subIn K (.ref (gA "NameInUse" K)) (.type "ValueError") = some true)) = true from c.ex 154 (f := fun K => decide (PySem.W.subIn K (.ref (gA "NameInUse" K)) (.type "ValueError") = some true)))
  have no_NameInUse_name := of_dec (show (decide (PySem.W.findIn K (.ref (gA "NameInUse" K)) "name" = some none)) = true from c.ex 155 (f := fun K => decide (PySem.W.findIn K (.ref (gA "NameInUse" K)) "name" = some none)))
  have a13 := of_dec (show (decide (PySem.W.nsIn K mainGlobals "check_names" = some (some (.ref (gA "check_names" K))))) = true from c.ex 156 (f := fun K => decide (PySem.W.nsIn K mainGlobals "check_names" = some (some (.ref (gA "check_names" K))))))
  obtain ⟨_, _, _, _, _, _, _, _, _, l13, c13⟩ := c.pl 28
  have k13 := (show (PySem.W.keepIn K (.ref (gA "check_names" K))) = true from c.ex 157 (f := fun K => PySem.W.keepIn K (.ref (gA "check_names" K))))
  have aC_World := of_dec (show (decide (PySem.W.nsIn K mainGlobals "World" = some (some (.ref (gA "World" K))))) = true from c.ex 158 (f := fun K => decide (PySem.W.nsIn K mainGlobals "World" = some (some (.ref (gA "World" K))))))
  have pg_World := (show (PySem.W.plainGet K (gA "World" K) Str.empty) = true from c.ex 159 (f := fun K => PySem.W.plainGet K (gA "World" K) Str.empty))
  have hd_World := (show (PySem.W.hasDictIn K (gA "World" K)) = true from c.ex 160 (f := fun K => PySem.W.hasDictIn K (gA "World" K)))
  have po_World := (show (PySem.W.plainOver K (gA "World" K)) = true from c.ex 161 (f := fun K => PySem.W.plainOver K (gA "World" K)))
  have sa_World := of_dec (show (decide (PySem.W.findIn K (.ref (gA "World" K)) "__setattr__" = some (some (.builtin "object.__setattr__")))) = true from c.ex 162 (f := fun K => decide (PySem.W.findIn K (.ref (gA "World" K)) "__setattr__" = some (some (.builtin "object.__setattr__")))))
  have pna_facts := of_dec (show (decide (PySem.W.findIn K (.ref (gA "World" K)) "_facts" = some none)) = true from c.ex 163 (f := fun K => decide (PySem.W.findIn K (.ref (gA "World" K)) "_facts" = some none)))
  have pna_piles := of_dec (show (decide (PySem.W.findIn K (.ref (gA "World" K)) "_piles" = some none)) = true from c.ex 164 (f := fun K => decide (PySem.W.findIn K (.ref (gA "World" K)) "_piles" = some none)))
  have pna_reserves := of_dec (show (decide (PySem.W.findIn K (.ref (gA "World" K)) "_reserves" = some none)) = true from c.ex 165 (f := fun K => decide (PySem.W.findIn K (.ref (gA "World" K)) "_reserves" = some none)))
  have pna_actions := of_dec (show (decide (PySem.W.findIn K (.ref (gA "World" K)) "_actions" = some none)) = true from c.ex 166 (f := fun K => decide (PySem.W.findIn K (.ref (gA "World" K)) "_actions" = some none)))
  have giWorld_init := of_dec (show (decide (PySem.W.findIn K (.ref (gA "World" K)) "__init__" = some (some (.ref (mA "World" "__init__" K))))) = true from c.ex 167 (f := fun K => decide (PySem.W.findIn K (.ref (gA "World" K)) "__init__" = some (some (.ref (mA "World" "__init__" K))))))
  obtain ⟨_, _, _, _, _, _, _, _, _, glWorld_init, gcWorld_init⟩ := c.pl 29
  have gfWorld_init := (show (PySem.W.isFn K (.ref (mA "World" "__init__" K))) = true from c.ex 168 (f := fun K => PySem.W.isFn K (.ref (mA "World" "__init__" K))))
  have gkWorld_init := (show (PySem.W.keepIn K (.ref (mA "World" "__init__" K))) = true from c.ex 169 (f := fun K => PySem.W.keepIn K (.ref (mA "World" "__init__" K))))
  obtain ⟨_, _, _, gTWorld_init⟩ := tupVB_ok (show (tupVB (dflAt (mA "World" "__init__") K) [.ref (dfiAt (mA "World" "__init__") 0 K), .ref (dfiAt (mA "World" "__init__") 1 K), .ref (dfiAt (mA "World" "__init__") 2 K)] K) = true from c.ex 170 (f := fun K => tupVB (dflAt (mA "World" "__init__") K) [.ref (dfiAt (mA "World" "__init__") 0 K), .ref (dfiAt (mA "World" "__init__") 1 K), .ref (dfiAt (mA "World" "__init__") 2 K)] K))
  obtain ⟨_, _, _, leWorld_init0⟩ := tupVB_ok (show (tupVB (dfiAt (mA "World" "__init__") 0 K) [] K) = true from c.ex 171 (f := fun K => tupVB (dfiAt (mA "World" "__init__") 0 K) [] K))
  obtain ⟨_, _, _, leWorld_init1⟩ := tupVB_ok (show (tupVB (dfiAt (mA "World" "__init__") 1 K) [] K) = true from c.ex 172 (f := fun K => tupVB (dfiAt (mA "World" "__init__") 1 K) [] K))
  obtain ⟨_, _, _, leWorld_init2⟩ := tupVB_ok (show (tupVB (dfiAt (mA "World" "__init__") 2 K) [] K) = true from c.ex 173 (f := fun K => tupVB (dfiAt (mA "World" "__init__") 2 K) [] K))
  have mk_World := (show (PySem.W.makesIn K (gA "World" K)) = true from c.ex 174 (f := fun K => PySem.W.makesIn K (gA "World" K)))
  have kC_World := (show (PySem.W.keepIn K (.ref (gA "World" K))) = true from c.ex 175 (f := fun K => PySem.W.keepIn K (.ref (gA "World" K))))
  have giWorld_facts := of_dec (show (decide (PySem.W.findIn K (.ref (gA "World" K)) "facts" = some (some (.ref (mA "World" "facts" K))))) = true from c.ex 176 (f := fun K => decide (PySem.W.findIn K (.ref (gA "World" K)) "facts" = some (some (.ref (mA "World" "facts" K))))))
  obtain ⟨_, _, _, _, _, _, _, _, _, glWorld_facts, gcWorld_facts⟩ := c.pl 30
  have gfWorld_facts := (show (PySem.W.isFn K (.ref (mA "World" "facts" K))) = true from c.ex 177 (f := fun K => PySem.W.isFn K (.ref (mA "World" "facts" K))))
  have gkWorld_facts := (show (PySem.W.keepIn K (.ref (mA "World" "facts" K))) = true from c.ex 178 (f := fun K => PySem.W.keepIn K (.ref (mA "World" "facts" K))))
  have giWorld_piles := of_dec (show (decide (PySem.W.findIn K (.ref (gA "World" K)) "piles" = some (some (.ref (mA "World" "piles" K))))) = true from c.ex 179 (f := fun K => decide (PySem.W.findIn K (.ref (gA "World" K)) "piles" = some (some (.ref (mA "World" "piles" K))))))
  obtain ⟨_, _, _, _, _, _, _, _, _, glWorld_piles, gcWorld_piles⟩ := c.pl 31
  have gfWorld_piles := (show (PySem.W.isFn K (.ref (mA "World" "piles" K))) = true from c.ex 180 (f := fun K => PySem.W.isFn K (.ref (mA "World" "piles" K))))
  have gkWorld_piles := (show (PySem.W.keepIn K (.ref (mA "World" "piles" K))) = true from c.ex 181 (f := fun K => PySem.W.keepIn K (.ref (mA "World" "piles" K))))
  have giWorld_reserves := of_dec (show (decide (PySem.W.findIn K (.ref (gA "World" K)) "reserves" = some (some (.ref (mA "World" "reserves" K))))) = true from c.ex 182 (f := fun K => decide (PySem.W.findIn K (.ref (gA "World" K)) "reserves" = some (some (.ref (mA "World" "reserves" K))))))
  obtain ⟨_, _, _, _, _, _, _, _, _, glWorld_reserves, gcWorld_reserves⟩ := c.pl 32
  have gfWorld_reserves := (show (PySem.W.isFn K (.ref (mA "World" "reserves" K))) = true from c.ex 183 (f := fun K => PySem.W.isFn K (.ref (mA "World" "reserves" K))))
  have gkWorld_reserves := (show (PySem.W.keepIn K (.ref (mA "World" "reserves" K))) = true from c.ex 184 (f := fun K => PySem.W.keepIn K (.ref (mA "World" "reserves" K))))
  have giWorld_seen := of_dec (show (decide (PySem.W.findIn K (.ref (gA "World" K)) "seen" = some (some (.ref (mA "World" "seen" K))))) = true from c.ex 185 (f := fun K => decide (PySem.W.findIn K (.ref (gA "World" K)) "seen" = some (some (.ref (mA "World" "seen" K))))))
  obtain ⟨_, _, _, _, _, _, _, _, _, glWorld_seen, gcWorld_seen⟩ := c.pl 33
  have gfWorld_seen := (show (PySem.W.isFn K (.ref (mA "World" "seen" K))) = true from c.ex 186 (f := fun K => PySem.W.isFn K (.ref (mA "World" "seen" K))))
  have gkWorld_seen := (show (PySem.W.keepIn K (.ref (mA "World" "seen" K))) = true from c.ex 187 (f := fun K => PySem.W.keepIn K (.ref (mA "World" "seen" K))))
  have giWorld_counters := of_dec (show (decide (PySem.W.findIn K (.ref (gA "World" K)) "counters" = some (some (.ref (mA "World" "counters" K))))) = true from c.ex 188 (f := fun K => decide (PySem.W.findIn K (.ref (gA "World" K)) "counters" = some (some (.ref (mA "World" "counters" K))))))
  obtain ⟨_, _, _, _, _, _, _, _, _, glWorld_counters, gcWorld_counters⟩ := c.pl 34
  have gfWorld_counters := (show (PySem.W.isFn K (.ref (mA "World" "counters" K))) = true from c.ex 189 (f := fun K => PySem.W.isFn K (.ref (mA "World" "counters" K))))
  have gkWorld_counters := (show (PySem.W.keepIn K (.ref (mA "World" "counters" K))) = true from c.ex 190 (f := fun K => PySem.W.keepIn K (.ref (mA "World" "counters" K))))
  have a14 := of_dec (show (decide (PySem.W.nsIn K mainGlobals "fits_fact" = some (some (.ref (gA "fits_fact" K))))) = true from c.ex 191 (f := fun K => decide (PySem.W.nsIn K mainGlobals "fits_fact" = some (some (.ref (gA "fits_fact" K))))))
  obtain ⟨_, _, _, _, _, _, _, _, _, l14, c14⟩ := c.pl 35
  have k14 := (show (PySem.W.keepIn K (.ref (gA "fits_fact" K))) = true from c.ex 192 (f := fun K => PySem.W.keepIn K (.ref (gA "fits_fact" K))))
  have a15 := of_dec (show (decide (PySem.W.nsIn K mainGlobals "fits_pile" = some (some (.ref (gA "fits_pile" K))))) = true from c.ex 193 (f := fun K => decide (PySem.W.nsIn K mainGlobals "fits_pile" = some (some (.ref (gA "fits_pile" K))))))
  obtain ⟨_, _, _, _, _, _, _, _, _, l15, c15⟩ := c.pl 36
  have k15 := (show (PySem.W.keepIn K (.ref (gA "fits_pile" K))) = true from c.ex 194 (f := fun K => PySem.W.keepIn K (.ref (gA "fits_pile" K))))
  have a16 := of_dec (show (decide (PySem.W.nsIn K mainGlobals "fits_reserve" = some (some (.ref (gA "fits_reserve" K))))) = true from c.ex 195 (f := fun K => decide (PySem.W.nsIn K mainGlobals "fits_reserve" = some (some (.ref (gA "fits_reserve" K))))))
  obtain ⟨_, _, _, _, _, _, _, _, _, l16, c16⟩ := c.pl 37
  have k16 := (show (PySem.W.keepIn K (.ref (gA "fits_reserve" K))) = true from c.ex 196 (f := fun K => PySem.W.keepIn K (.ref (gA "fits_reserve" K))))
  have a17 := of_dec (show (decide (PySem.W.nsIn K mainGlobals "has_name" = some (some (.ref (gA "has_name" K))))) = true from c.ex 197 (f := fun K => decide (PySem.W.nsIn K mainGlobals "has_name" = some (some (.ref (gA "has_name" K))))))
  obtain ⟨_, _, _, _, _, _, _, _, _, l17, c17⟩ := c.pl 38
  have k17 := (show (PySem.W.keepIn K (.ref (gA "has_name" K))) = true from c.ex 198 (f := fun K => PySem.W.keepIn K (.ref (gA "has_name" K))))
  have a18 := of_dec (show (decide (PySem.W.nsIn K mainGlobals "fits" = some (some (.ref (gA "fits" K))))) = true from c.ex 199 (f := fun K => decide (PySem.W.nsIn K mainGlobals "fits" = some (some (.ref (gA "fits" K))))))
  obtain ⟨_, _, _, _, _, _, _, _, _, l18, c18⟩ := c.pl 39
  have k18 := (show (PySem.W.keepIn K (.ref (gA "fits" K))) = true from c.ex 200 (f := fun K => PySem.W.keepIn K (.ref (gA "fits" K))))
  have pcOGif := (show (PySem.W.fnIn K (mA "Outcome" "__getitem__" K)) = true from c.ex 201 (f := fun K => PySem.W.fnIn K (mA "Outcome" "__getitem__" K)))
  have a19 := of_dec (show (decide (PySem.W.nsIn K mainGlobals "check_outcome" = some (some (.ref (gA "check_outcome" K))))) = true from c.ex 202 (f := fun K => decide (PySem.W.nsIn K mainGlobals "check_outcome" = some (some (.ref (gA "check_outcome" K))))))
  obtain ⟨_, _, _, _, _, _, _, _, _, l19, c19⟩ := c.pl 40
  have k19 := (show (PySem.W.keepIn K (.ref (gA "check_outcome" K))) = true from c.ex 203 (f := fun K => PySem.W.keepIn K (.ref (gA "check_outcome" K))))
  have a20 := of_dec (show (decide (PySem.W.nsIn K mainGlobals "takes_from_reserve" = some (some (.ref (gA "takes_from_reserve" K))))) = true from c.ex 204 (f := fun K => decide (PySem.W.nsIn K mainGlobals "takes_from_reserve" = some (some (.ref (gA "takes_from_reserve" K))))))
  obtain ⟨_, _, _, _, _, _, _, _, _, l20, c20⟩ := c.pl 41
  have k20 := (show (PySem.W.keepIn K (.ref (gA "takes_from_reserve" K))) = true from c.ex 205 (f := fun K => PySem.W.keepIn K (.ref (gA "takes_from_reserve" K))))
  have a21 := of_dec (show (decide (PySem.W.nsIn K mainGlobals "check_seen" = some (some (.ref (gA "check_seen" K))))) = true from c.ex 206 (f := fun K => decide (PySem.W.nsIn K mainGlobals "check_seen" = some (some (.ref (gA "check_seen" K))))))
  obtain ⟨_, _, _, _, _, _, _, _, _, l21, c21⟩ := c.pl 42
  have k21 := (show (PySem.W.keepIn K (.ref (gA "check_seen" K))) = true from c.ex 207 (f := fun K => PySem.W.keepIn K (.ref (gA "check_seen" K))))
  have a22 := of_dec (show (decide (PySem.W.nsIn K mainGlobals "check_action" = some (some (.ref (gA "check_action" K))))) = true from c.ex 208 (f := fun K => decide (PySem.W.nsIn K mainGlobals "check_action" = some (some (.ref (gA "check_action" K))))))
  obtain ⟨_, _, _, _, _, _, _, _, _, l22, c22⟩ := c.pl 43
  have k22 := (show (PySem.W.keepIn K (.ref (gA "check_action" K))) = true from c.ex 209 (f := fun K => PySem.W.keepIn K (.ref (gA "check_action" K))))
  have giWorld_setitem := of_dec (show (decide (PySem.W.findIn K (.ref (gA "World" K)) "__setitem__" = some (some (.ref (mA "World" "__setitem__" K))))) = true from c.ex 210 (f := fun K => decide (PySem.W.findIn K (.ref (gA "World" K)) "__setitem__" = some (some (.ref (mA "World" "__setitem__" K))))))
  obtain ⟨_, _, _, _, _, _, _, _, _, glWorld_setitem, gcWorld_setitem⟩ := c.pl 44
  have gfWorld_setitem := (show (PySem.W.isFn K (.ref (mA "World" "__setitem__" K))) = true from c.ex 211 (f := fun K => PySem.W.isFn K (.ref (mA "World" "__setitem__" K))))
  have gkWorld_setitem := (show (PySem.W.keepIn K (.ref (mA "World" "__setitem__" K))) = true from c.ex 212 (f := fun K => PySem.W.keepIn K (.ref (mA "World" "__setitem__" K))))
  have ia_Condition := of_dec (show (decide (PySem.W.findIn K (.ref (gA "Condition" K)) "__class__" = some (some (.builtin "object.__class__")))) = true from c.ex 213 (f := fun K => decide (PySem.W.findIn K (.ref (gA "Condition" K)) "__class__" = some (some (.builtin "object.__class__")))))
  have in_ := of_dec (show (decide (PySem.W.specialIn K (.builtin "object.__class__") "__get__" = some (some (.builtin "getset_descriptor.__get__")))) = true from c.ex 214 (f := fun K => decide (PySem.W.specialIn K (.builtin "object.__class__") "__get__" = some (some (.builtin "getset_descriptor.__get__")))))
  have it_ := of_dec (show (decide (PySem.W.takesIn K (.builtin "object.__class__") = some true)) = true from c.ex 215 (f := fun K => decide (PySem.W.takesIn K (.builtin "object.__class__") = some true)))
  have im_Condition := of_dec (show (decide (PySem.W.mroIn K (gA "Condition" K) (.type "object") = some true)) = true from c.ex 216 (f := fun K => decide (PySem.W.mroIn K (gA "Condition" K) (.type "object") = some true)))
  have kit_Condition := of_dec (show (decide (PySem.W.kitOne K (.ref (gA "Condition" K)) (.ref (gA "Condition" K)) = some true)) = true from c.ex 217 (f := fun K => decide (PySem.W.kitOne K (.ref (gA "Condition" K)) (.ref (gA "Condition" K)) = some true)))
  have giCondition_and := of_dec (show (decide (PySem.W.findIn K (.ref (gA "Condition" K)) "__and__" = some (some (.ref (mA "Condition" "__and__" K))))) = true from c.ex 218 (f := fun K => decide (PySem.W.findIn K (.ref (gA "Condition" K)) "__and__" = some (some (.ref (mA "Condition" "__and__" K))))))
  obtain ⟨_, _, _, _, _, _, _, _, _, glCondition_and, gcCondition_and⟩ := c.pl 45
  have gfCondition_and := (show (PySem.W.isFn K (.ref (mA "Condition" "__and__" K))) = true from c.ex 219 (f := fun K => PySem.W.isFn K (.ref (mA "Condition" "__and__" K))))
  have gkCondition_and := (show (PySem.W.keepIn K (.ref (mA "Condition" "__and__" K))) = true from c.ex 220 (f := fun K => PySem.W.keepIn K (.ref (mA "Condition" "__and__" K))))
  have giCondition_or := of_dec (show (decide (PySem.W.findIn K (.ref (gA "Condition" K)) "__or__" = some (some (.ref (mA "Condition" "__or__" K))))) = true from c.ex 221 (f := fun K => decide (PySem.W.findIn K (.ref (gA "Condition" K)) "__or__" = some (some (.ref (mA "Condition" "__or__" K))))))
  obtain ⟨_, _, _, _, _, _, _, _, _, glCondition_or, gcCondition_or⟩ := c.pl 46
  have gfCondition_or := (show (PySem.W.isFn K (.ref (mA "Condition" "__or__" K))) = true from c.ex 222 (f := fun K => PySem.W.isFn K (.ref (mA "Condition" "__or__" K))))
  have gkCondition_or := (show (PySem.W.keepIn K (.ref (mA "Condition" "__or__" K))) = true from c.ex 223 (f := fun K => PySem.W.keepIn K (.ref (mA "Condition" "__or__" K))))
  have giCondition_invert := of_dec (show (decide (PySem.W.findIn K (.ref (gA "Condition" K)) "__invert__" = some (some (.ref (mA "Condition" "__invert__" K))))) = true from c.ex 224 (f := fun K => decide (PySem.W.findIn K (.ref (gA "Condition" K)) "__invert__" = some (some (.ref (mA "Condition" "__invert__" K))))))
  obtain ⟨_, _, _, _, _, _, _, _, _, glCondition_invert, gcCondition_invert⟩ := c.pl 47
  have gfCondition_invert := (show (PySem.W.isFn K (.ref (mA "Condition" "__invert__" K))) = true from c.ex 225 (f := fun K => PySem.W.isFn K (.ref (mA "Condition" "__invert__" K))))
  have gkCondition_invert := (show (PySem.W.keepIn K (.ref (mA "Condition" "__invert__" K))) = true from c.ex 226 (f := fun K => PySem.W.keepIn K (.ref (mA "Condition" "__invert__" K))))
  have a23 := of_dec (show (decide (PySem.W.nsIn K mainGlobals "_law_mixed" = some (some (.ref (gA "_law_mixed" K))))) = true from c.ex 227 (f := fun K => decide (PySem.W.nsIn K mainGlobals "_law_mixed" = some (some (.ref (gA "_law_mixed" K))))))
  obtain ⟨_, _, _, _, _, _, _, _, _, l23, c23⟩ := c.pl 48
  have k23 := (show (PySem.W.keepIn K (.ref (gA "_law_mixed" K))) = true from c.ex 228 (f := fun K => PySem.W.keepIn K (.ref (gA "_law_mixed" K))))
  have a24 := of_dec (show (decide (PySem.W.nsIn K mainGlobals "_law_condition" = some (some (.ref (gA "_law_condition" K))))) = true from c.ex 229 (f := fun K => decide (PySem.W.nsIn K mainGlobals "_law_condition" = some (some (.ref (gA "_law_condition" K))))))
  obtain ⟨_, _, _, _, _, _, _, _, _, l24, c24⟩ := c.pl 49
  have k24 := (show (PySem.W.keepIn K (.ref (gA "_law_condition" K))) = true from c.ex 230 (f := fun K => PySem.W.keepIn K (.ref (gA "_law_condition" K))))
  have sf_Condition := (show (PySem.W.selfFirst K (gA "Condition" K)) = true from c.ex 231 (f := fun K => PySem.W.selfFirst K (gA "Condition" K)))
  have a25 := of_dec (show (decide (PySem.W.nsIn K mainGlobals "_law_built" = some (some (.ref (gA "_law_built" K))))) = true from c.ex 232 (f := fun K => decide (PySem.W.nsIn K mainGlobals "_law_built" = some (some (.ref (gA "_law_built" K))))))
  obtain ⟨_, _, _, _, _, _, _, _, _, l25, c25⟩ := c.pl 50
  have k25 := (show (PySem.W.keepIn K (.ref (gA "_law_built" K))) = true from c.ex 233 (f := fun K => PySem.W.keepIn K (.ref (gA "_law_built" K))))
  have a26 := of_dec (show (decide (PySem.W.nsIn K mainGlobals "_law_lists" = some (some (.ref (gA "_law_lists" K))))) = true from c.ex 234 (f := fun K => decide (PySem.W.nsIn K mainGlobals "_law_lists" = some (some (.ref (gA "_law_lists" K))))))
  obtain ⟨_, _, _, _, _, _, _, _, _, l26, c26⟩ := c.pl 51
  have k26 := (show (PySem.W.keepIn K (.ref (gA "_law_lists" K))) = true from c.ex 235 (f := fun K => PySem.W.keepIn K (.ref (gA "_law_lists" K))))
  have a27 := of_dec (show (decide (PySem.W.nsIn K mainGlobals "_law_seen" = some (some (.ref (gA "_law_seen" K))))) = true from c.ex 236 (f := fun K => decide (PySem.W.nsIn K mainGlobals "_law_seen" = some (some (.ref (gA "_law_seen" K))))))
  obtain ⟨_, _, _, _, _, _, _, _, _, l27, c27⟩ := c.pl 52
  have k27 := (show (PySem.W.keepIn K (.ref (gA "_law_seen" K))) = true from c.ex 237 (f := fun K => PySem.W.keepIn K (.ref (gA "_law_seen" K))))
  have a28 := of_dec (show (decide (PySem.W.nsIn K mainGlobals "_law_changes" = some (some (.ref (gA "_law_changes" K))))) = true from c.ex 238 (f := fun K => decide (PySem.W.nsIn K mainGlobals "_law_changes" = some (some (.ref (gA "_law_changes" K))))))
  obtain ⟨_, _, _, _, _, _, _, _, _, l28, c28⟩ := c.pl 53
  have k28 := (show (PySem.W.keepIn K (.ref (gA "_law_changes" K))) = true from c.ex 239 (f := fun K => PySem.W.keepIn K (.ref (gA "_law_changes" K))))
  have a29 := of_dec (show (decide (PySem.W.nsIn K mainGlobals "_law_action" = some (some (.ref (gA "_law_action" K))))) = true from c.ex 240 (f := fun K => decide (PySem.W.nsIn K mainGlobals "_law_action" = some (some (.ref (gA "_law_action" K))))))
  obtain ⟨_, _, _, _, _, _, _, _, _, l29, c29⟩ := c.pl 54
  have k29 := (show (PySem.W.keepIn K (.ref (gA "_law_action" K))) = true from c.ex 241 (f := fun K => PySem.W.keepIn K (.ref (gA "_law_action" K))))
  have hnq := (show (PySem.W.noSeq K (gA "World" K)) = true from c.ex 242 (f := fun K => PySem.W.noSeq K (gA "World" K)))
  have a30 := of_dec (show (decide (PySem.W.nsIn K mainGlobals "_law_made" = some (some (.ref (gA "_law_made" K))))) = true from c.ex 243 (f := fun K => decide (PySem.W.nsIn K mainGlobals "_law_made" = some (some (.ref (gA "_law_made" K))))))
  obtain ⟨_, _, _, _, _, _, _, _, _, l30, c30⟩ := c.pl 55
  have k30 := (show (PySem.W.keepIn K (.ref (gA "_law_made" K))) = true from c.ex 244 (f := fun K => PySem.W.keepIn K (.ref (gA "_law_made" K))))
  have a31 := of_dec (show (decide (PySem.W.nsIn K mainGlobals "all_states" = some (some (.ref (gA "all_states" K))))) = true from c.ex 245 (f := fun K => decide (PySem.W.nsIn K mainGlobals "all_states" = some (some (.ref (gA "all_states" K))))))
  obtain ⟨_, _, _, _, _, _, _, _, _, l31, c31⟩ := c.pl 56
  have k31 := (show (PySem.W.keepIn K (.ref (gA "all_states" K))) = true from c.ex 246 (f := fun K => PySem.W.keepIn K (.ref (gA "all_states" K))))
  have a32 := of_dec (show (decide (PySem.W.nsIn K mainGlobals "are_some_of" = some (some (.ref (gA "are_some_of" K))))) = true from c.ex 247 (f := fun K => decide (PySem.W.nsIn K mainGlobals "are_some_of" = some (some (.ref (gA "are_some_of" K))))))
  obtain ⟨_, _, _, _, _, _, _, _, _, l32, c32⟩ := c.pl 57
  have k32 := (show (PySem.W.keepIn K (.ref (gA "are_some_of" K))) = true from c.ex 248 (f := fun K => PySem.W.keepIn K (.ref (gA "are_some_of" K))))
  have a33 := of_dec (show (decide (PySem.W.nsIn K mainGlobals "in_order" = some (some (.ref (gA "in_order" K))))) = true from c.ex 249 (f := fun K => decide (PySem.W.nsIn K mainGlobals "in_order" = some (some (.ref (gA "in_order" K))))))
  obtain ⟨_, _, _, _, _, _, _, _, _, l33, c33⟩ := c.pl 58
  have k33 := (show (PySem.W.keepIn K (.ref (gA "in_order" K))) = true from c.ex 250 (f := fun K => PySem.W.keepIn K (.ref (gA "in_order" K))))
  have giWorld_state_of := of_dec (show (decide (PySem.W.findIn K (.ref (gA "World" K)) "state_of" = some (some (.ref (mA "World" "state_of" K))))) = true from c.ex 251 (f := fun K => decide (PySem.W.findIn K (.ref (gA "World" K)) "state_of" = some (some (.ref (mA "World" "state_of" K))))))
  obtain ⟨_, _, _, _, _, _, _, _, _, glWorld_state_of, gcWorld_state_of⟩ := c.pl 59
  have gfWorld_state_of := (show (PySem.W.isFn K (.ref (mA "World" "state_of" K))) = true from c.ex 252 (f := fun K => PySem.W.isFn K (.ref (mA "World" "state_of" K))))
  have gkWorld_state_of := (show (PySem.W.keepIn K (.ref (mA "World" "state_of" K))) = true from c.ex 253 (f := fun K => PySem.W.keepIn K (.ref (mA "World" "state_of" K))))
  have giWorld_states := of_dec (show (decide (PySem.W.findIn K (.ref (gA "World" K)) "states" = some (some (.ref (mA "World" "states" K))))) = true from c.ex 254 (f := fun K => decide (PySem.W.findIn K (.ref (gA "World" K)) "states" = some (some (.ref (mA "World" "states" K))))))
  obtain ⟨_, _, _, _, _, _, _, _, _, glWorld_states, gcWorld_states⟩ := c.pl 60
  have gfWorld_states := (show (PySem.W.isFn K (.ref (mA "World" "states" K))) = true from c.ex 255 (f := fun K => PySem.W.isFn K (.ref (mA "World" "states" K))))
  have gkWorld_states := (show (PySem.W.keepIn K (.ref (mA "World" "states" K))) = true from c.ex 256 (f := fun K => PySem.W.keepIn K (.ref (mA "World" "states" K))))
  have giWorld_remove := of_dec (show (decide (PySem.W.findIn K (.ref (gA "World" K)) "remove" = some (some (.ref (mA "World" "remove" K))))) = true from c.ex 257 (f := fun K => decide (PySem.W.findIn K (.ref (gA "World" K)) "remove" = some (some (.ref (mA "World" "remove" K))))))
  obtain ⟨_, _, _, _, _, _, _, _, _, glWorld_remove, gcWorld_remove⟩ := c.pl 61
  have gfWorld_remove := (show (PySem.W.isFn K (.ref (mA "World" "remove" K))) = true from c.ex 258 (f := fun K => PySem.W.isFn K (.ref (mA "World" "remove" K))))
  have gkWorld_remove := (show (PySem.W.keepIn K (.ref (mA "World" "remove" K))) = true from c.ex 259 (f := fun K => PySem.W.keepIn K (.ref (mA "World" "remove" K))))
  have giWorld_copy := of_dec (show (decide (PySem.W.findIn K (.ref (gA "World" K)) "copy" = some (some (.ref (mA "World" "copy" K))))) = true from c.ex 260 (f := fun K => decide (PySem.W.findIn K (.ref (gA "World" K)) "copy" = some (some (.ref (mA "World" "copy" K))))))
  obtain ⟨_, _, _, _, _, _, _, _, _, glWorld_copy, gcWorld_copy⟩ := c.pl 62
  have gfWorld_copy := (show (PySem.W.isFn K (.ref (mA "World" "copy" K))) = true from c.ex 261 (f := fun K => PySem.W.isFn K (.ref (mA "World" "copy" K))))
  have gkWorld_copy := (show (PySem.W.keepIn K (.ref (mA "World" "copy" K))) = true from c.ex 262 (f := fun K => PySem.W.keepIn K (.ref (mA "World" "copy" K))))
  have a34 := of_dec (show (decide (PySem.W.nsIn K mainGlobals "_law_states" = some (some (.ref (gA "_law_states" K))))) = true from c.ex 263 (f := fun K => decide (PySem.W.nsIn K mainGlobals "_law_states" = some (some (.ref (gA "_law_states" K))))))
  obtain ⟨_, _, _, _, _, _, _, _, _, l34, c34⟩ := c.pl 63
  have k34 := (show (PySem.W.keepIn K (.ref (gA "_law_states" K))) = true from c.ex 264 (f := fun K => PySem.W.keepIn K (.ref (gA "_law_states" K))))
  have a35 := of_dec (show (decide (PySem.W.nsIn K mainGlobals "law" = some (some (.ref (gA "law" K))))) = true from c.ex 265 (f := fun K => decide (PySem.W.nsIn K mainGlobals "law" = some (some (.ref (gA "law" K))))))
  obtain ⟨_, _, _, _, _, _, _, _, _, l35, c35⟩ := c.pl 64
  have k35 := (show (PySem.W.keepIn K (.ref (gA "law" K))) = true from c.ex 266 (f := fun K => PySem.W.keepIn K (.ref (gA "law" K))))
  have z_len := of_dec (show (decide (PySem.W.nsIn K mainGlobals "len" = some none)) = true from c.ex 267 (f := fun K => decide (PySem.W.nsIn K mainGlobals "len" = some none)))
  have z_list := of_dec (show (decide (PySem.W.nsIn K mainGlobals "list" = some none)) = true from c.ex 268 (f := fun K => decide (PySem.W.nsIn K mainGlobals "list" = some none)))
  have z_tuple := of_dec (show (decide (PySem.W.nsIn K mainGlobals "tuple" = some none)) = true from c.ex 269 (f := fun K => decide (PySem.W.nsIn K mainGlobals "tuple" = some none)))
  have z_int := of_dec (show (decide (PySem.W.nsIn K mainGlobals "int" = some none)) = true from c.ex 270 (f := fun K => decide (PySem.W.nsIn K mainGlobals "int" = some none)))
  have z_repr := of_dec (show (decide (PySem.W.nsIn K mainGlobals "repr" = some none)) = true from c.ex 271 (f := fun K => decide (PySem.W.nsIn K mainGlobals "repr" = some none)))
  have z_range := of_dec (show (decide (PySem.W.nsIn K mainGlobals "range" = some none)) = true from c.ex 272 (f := fun K => decide (PySem.W.nsIn K mainGlobals "range" = some none)))
  have z_all := of_dec (show (decide (PySem.W.nsIn K mainGlobals "all" = some none)) = true from c.ex 273 (f := fun K => decide (PySem.W.nsIn K mainGlobals "all" = some none)))
  have z_zip := of_dec (show (decide (PySem.W.nsIn K mainGlobals "zip" = some none)) = true from c.ex 274 (f := fun K => decide (PySem.W.nsIn K mainGlobals "zip" = some none)))
  have z_enumerate := of_dec (show (decide (PySem.W.nsIn K mainGlobals "enumerate" = some none)) = true from c.ex 275 (f := fun K => decide (PySem.W.nsIn K mainGlobals "enumerate" = some none)))
  have z_isinstance := of_dec (show (decide (PySem.W.nsIn K mainGlobals "isinstance" = some none)) = true from c.ex 276 (f := fun K => decide (PySem.W.nsIn K mainGlobals "isinstance" = some none)))
  have z_str := of_dec (show (decide (PySem.W.nsIn K mainGlobals "str" = some none)) = true from c.ex 277 (f := fun K => decide (PySem.W.nsIn K mainGlobals "str" = some none)))
  have z_bool := of_dec (show (decide (PySem.W.nsIn K mainGlobals "bool" = some none)) = true from c.ex 278 (f := fun K => decide (PySem.W.nsIn K mainGlobals "bool" = some none)))
  have z_dict := of_dec (show (decide (PySem.W.nsIn K mainGlobals "dict" = some none)) = true from c.ex 279 (f := fun K => decide (PySem.W.nsIn K mainGlobals "dict" = some none)))
  have z_any := of_dec (show (decide (PySem.W.nsIn K mainGlobals "any" = some none)) = true from c.ex 280 (f := fun K => decide (PySem.W.nsIn K mainGlobals "any" = some none)))
  have z_min := of_dec (show (decide (PySem.W.nsIn K mainGlobals "min" = some none)) = true from c.ex 281 (f := fun K => decide (PySem.W.nsIn K mainGlobals "min" = some none)))
  have z_sorted := of_dec (show (decide (PySem.W.nsIn K mainGlobals "sorted" = some none)) = true from c.ex 282 (f := fun K => decide (PySem.W.nsIn K mainGlobals "sorted" = some none)))
  have z_set := of_dec (show (decide (PySem.W.nsIn K mainGlobals "set" = some none)) = true from c.ex 283 (f := fun K => decide (PySem.W.nsIn K mainGlobals "set" = some none)))
  have z_max := of_dec (show (decide (PySem.W.nsIn K mainGlobals "max" = some none)) = true from c.ex 284 (f := fun K => decide (PySem.W.nsIn K mainGlobals "max" = some none)))
  have z_sum := of_dec (show (decide (PySem.W.nsIn K mainGlobals "sum" = some none)) = true from c.ex 285 (f := fun K => decide (PySem.W.nsIn K mainGlobals "sum" = some none)))
  exact all_mk (l := PySem.Challenge.rw_noneorsome_k16_states_listed) X G hfa a0 l0 c0 k0 a1 l1 c1 k1 a2 l2 c2 k2 a3 l3 c3 k3 a4 l4 c4 k4 a5 l5 c5 k5 ac_RESERVED lc_RESERVED zc_RESERVED vc_RESERVED ac_LONGEST a6 l6 c6 k6 aC_BadName lCE_BadName rvE_BadName saE_BadName exCE_BadName tyCE_BadName kCE_BadName iCE_BadName lfE_BadName cfE_BadName tf_E_BadName lcdE_BadName hvsE_BadName hfileE_BadName lccE_BadName msE_BadName su_ tp_ iniE_BadName basE_BadName tpa_ no_BadName_name a7 l7 c7 k7 aC_BadChange lCE_BadChange rvE_BadChange saE_BadChange exCE_BadChange tyCE_BadChange kCE_BadChange iCE_BadChange lfE_BadChange cfE_BadChange tf_E_BadChange lcdE_BadChange hvsE_BadChange hfileE_BadChange lccE_BadChange msE_BadChange iniE_BadChange basE_BadChange no_BadChange_name no_BadChange_change kit_bb kit_sb kit_ss kit_nb kit_ns a8 l8 c8 k8 a9 l9 c9 k9 aC_Outcome pna_changes pg_Outcome hd_Outcome po_Outcome sa_Outcome giOutcome_names glOutcome_names gcOutcome_names gfOutcome_names gkOutcome_names giOutcome_getitem glOutcome_getitem gcOutcome_getitem gfOutcome_getitem gkOutcome_getitem a10 l10 c10 k10 aC_Condition pg_Condition hd_Condition po_Condition sa_Condition pna_words giCondition_init glCondition_init gcCondition_init gfCondition_init gkCondition_init mk_Condition kC_Condition sg_Condition st_Condition sr_Condition gaCondition_of giCondition_of gtCondition_of gsCondition_of gpCondition_of gvCondition_of glCondition_of gcCondition_of gkCondition_of gaCondition_always giCondition_always gtCondition_always gsCondition_always gpCondition_always gvCondition_always glCondition_always gcCondition_always gkCondition_always gaCondition_never giCondition_never gtCondition_never gsCondition_never gpCondition_never gvCondition_never glCondition_never gcCondition_never gkCondition_never giCondition_names glCondition_names gcCondition_names gfCondition_names gkCondition_names giOutcome_init glOutcome_init gcOutcome_init gfOutcome_init gkOutcome_init gTOutcome_init mk_Outcome kC_Outcome giOutcome_copy glOutcome_copy gcOutcome_copy gfOutcome_copy gkOutcome_copy aC_Action pg_Action hd_Action po_Action sa_Action pna_need pna_outcomes giAction_init glAction_init gcAction_init gfAction_init gkAction_init mk_Action kC_Action giAction_len glAction_len gcAction_len gfAction_len gkAction_len giAction_outcome glAction_outcome gcAction_outcome gfAction_outcome gkAction_outcome a11 l11 c11 k11 a12 l12 c12 k12 aC_NameInUse lCE_NameInUse rvE_NameInUse saE_NameInUse exCE_NameInUse tyCE_NameInUse kCE_NameInUse iCE_NameInUse lfE_NameInUse cfE_NameInUse tf_E_NameInUse lcdE_NameInUse hvsE_NameInUse hfileE_NameInUse lccE_NameInUse msE_NameInUse iniE_NameInUse basE_NameInUse no_NameInUse_name a13 l13 c13 k13 aC_World pg_World hd_World po_World sa_World pna_facts pna_piles pna_reserves pna_actions giWorld_init glWorld_init gcWorld_init gfWorld_init gkWorld_init gTWorld_init leWorld_init0 leWorld_init1 leWorld_init2 mk_World kC_World giWorld_facts glWorld_facts gcWorld_facts gfWorld_facts gkWorld_facts giWorld_piles glWorld_piles gcWorld_piles gfWorld_piles gkWorld_piles giWorld_reserves glWorld_reserves gcWorld_reserves gfWorld_reserves gkWorld_reserves giWorld_seen glWorld_seen gcWorld_seen gfWorld_seen gkWorld_seen giWorld_counters glWorld_counters gcWorld_counters gfWorld_counters gkWorld_counters a14 l14 c14 k14 a15 l15 c15 k15 a16 l16 c16 k16 a17 l17 c17 k17 a18 l18 c18 k18 pcOGif a19 l19 c19 k19 a20 l20 c20 k20 a21 l21 c21 k21 a22 l22 c22 k22 giWorld_setitem glWorld_setitem gcWorld_setitem gfWorld_setitem gkWorld_setitem ia_Condition in_ it_ im_Condition kit_Condition giCondition_and glCondition_and gcCondition_and gfCondition_and gkCondition_and giCondition_or glCondition_or gcCondition_or gfCondition_or gkCondition_or giCondition_invert glCondition_invert gcCondition_invert gfCondition_invert gkCondition_invert a23 l23 c23 k23 a24 l24 c24 k24 sf_Condition a25 l25 c25 k25 a26 l26 c26 k26 a27 l27 c27 k27 a28 l28 c28 k28 a29 l29 c29 k29 hnq a30 l30 c30 k30 a31 l31 c31 k31 a32 l32 c32 k32 a33 l33 c33 k33 giWorld_state_of glWorld_state_of gcWorld_state_of gfWorld_state_of gkWorld_state_of giWorld_states glWorld_states gcWorld_states gfWorld_states gkWorld_states giWorld_remove glWorld_remove gcWorld_remove gfWorld_remove gkWorld_remove giWorld_copy glWorld_copy gcWorld_copy gfWorld_copy gkWorld_copy a34 l34 c34 k34 a35 l35 c35 k35 z_len z_list z_tuple z_int z_repr z_range z_all z_zip z_enumerate z_isinstance z_str z_bool z_dict z_any z_min z_sorted z_set z_max z_sum
abbrev tR : PySem.W.OpenRow := PySem.W.OpenLaw.row PySem.Challenge.rw_noneorsome_k16_states_listed
abbrev tQ : Program := PySem.W.view tR.prog [71]
def tNames : List PySem.Str := (["_wall", "PlanError", "BadName", "NameInUse", "UnknownName", "BadChange", "NoOutcome", "NoFreeOutcome", "UnknownAction", "NoState", "Action", "outcomes_of", "copy_of", "all_states", "are_some_of", "in_order", "is_change", "fits_fact", "fits_pile", "fits_reserve", "RESERVED", "LONGEST", "is_letter", "is_name", "check_name"] : List (PySem.Str)) ++ (["check_names", "check_seen", "check_action", "check_outcome", "has_name", "fits", "takes_from_reserve", "check_apart", "World", "ENCLOSED", "names_among", "work_out", "holds_for", "truth_columns", "are_equal", "is_within", "write_words", "enclose", "Condition", "check_entry", "Outcome", "_law_draw", "_law_pick", "_law_mixed", "_law_same"] : List (PySem.Str)) ++ (["_law_name", "_law_names", "_law_condition", "_law_built", "_law_seen", "_law_changes", "_law_action", "_law_lists", "_law_made", "_law_states"] : List (PySem.Str))
theorem tRunF (w : World) : HandSHeadRun.RunEq tR tQ (topHook tXs tFs) (topOb tXs tFs) 20000 tNames (w.withFollow "special-get-raises" false) := fun os => by kernel_rfl
theorem tRunT (w : World) : HandSHeadRun.RunEq tR tQ (topHook tXs tFs) (topOb tXs tFs) 20000 tNames (w.withFollow "special-get-raises" true) := fun os => by kernel_rfl
theorem tRun (w : World) : HandSHeadRun.RunEq tR tQ (topHook tXs tFs) (topOb tXs tFs) 20000 tNames w :=
  PySem.W.byRow2 "special-get-raises" (P := fun w => HandSHeadRun.RunEq tR tQ (topHook tXs tFs) (topOb tXs tFs) 20000 tNames w) tRunF tRunT w
end Dl
open PySem PySem.W PySem.Calls PyProof.Rows in
set_option maxRecDepth 100000 in
set_option maxHeartbeats 0 in
theorem PySem.Challenge.cw_noneorsome_k16_states_listed_holds : PySem.Challenge.rw_noneorsome_k16_states_listed.Holds := by
  w_on; o_law
  refine HandSHeadRun.head_any (r := OpenLaw.row PySem.Challenge.rw_noneorsome_k16_states_listed) (q := Dl.tQ) (H := Dl.topHook Dl.tXs Dl.tFs) (ob := Dl.topOb Dl.tXs Dl.tFs) (M := 20000) (loose := Dl.tNames) (d := HandSHeadRun.topDef (OpenLaw.row PySem.Challenge.rw_noneorsome_k16_states_listed).prog 71) (kwd := []) (fun s => Dl.topOb_eq Dl.tXs Dl.tFs s) (by kernel_rfl) (fun s => by kernel_rfl) Dl.tRun (by kernel_rfl) (by kernel_rfl) (by kernel_rfl) (by rfl) (by first | assumption | decide +kernel) (by decide +kernel) ⟨rfl, rfl, rfl, rfl, rfl, by decide +kernel⟩ ?hw ?hc
  case hw => w_witness2
  case hc =>
    refine Dl.walkY (l := PySem.Challenge.rw_noneorsome_k16_states_listed) (n := 63) (k := 15) (F := Dl.FLaw) (x := "_law_script") rfl (by decide) (by kernel_rfl) ⟨rfl, by decide, by decide⟩ ?G (fun ns Q E hl hq => ⟨ns, rfl, hl, rfl, hq⟩)
    intro w mg fa h Y G hmg0
    obtain ⟨K, KX, c⟩ := Y
    have hmg : mg ("law" : PySem.Str) = some (.ref fa) := by
      have e : (HandSHeadRun.topDef (OpenLaw.row PySem.Challenge.rw_noneorsome_k16_states_listed).prog 71).name = ("law" : PySem.Str) := by kernel_rfl
      rw [← e]
      exact hmg0
    exact ⟨K, KX, Dl.all_told KX G hmg c⟩


