import PyProof.Rows.All
import Wide.All
import OpenK.AllK
import Wide.FinOn
import HandS.Base
import HandS.Call
import HandS.List
import HandS.Comp
import HandS.Ends
import HandS.Words
import HandS.WordsList
import HandS.Codes
import HandS.Wide
import HandS.Iter
import HandS.Zip
import HandS.Star
import HandS.More
import HandS.IsInst
import HandS.Conv
import HandS.NoneIn
import HandS.WideBits
import HandS.WordsExc
import HandS.Exc
import HandS.TryMany
import HandS.HotCalls
import HandS.ExcInit
import HandS.ExcField
import HandS.Lambda
import HandS.EndTab
import HandS.Defaults
import KE.KNest
import HandS.Text
import HandS.StrMore
import KE.IntTextText
import HandS.Style
import PyProof.ListStr
import PyProof.StrBlock2
import HandS.SetTxt0
import HandS.Set
import HandS.Strs
import HandS.Dict
import HandS.DictComp
import HandS.RaiseMore
import HandS.Deep
import HandS.TupMul
import HandS.Finally
import KE.KDictPairs
import HandS.Replace
import KE.KDflt
import HandS.ExcValue
import HandS.ExcIs
import HandS.ClsMeth
import HandS.MakeKw
import HandS.MakeKwOnly
import KE.GoesEnum
import HandS.OwnEq
import HandS.FStr
import HandS.ExcBuiltin
import HandS.MethStar
import KE.KExcInit
import HandS.Keys
import HandS.DictTup
import KE.KStateDown
import KE.KNest
import KE.KNestM
import HandS.Head0
import HandS.Head1
import HandS.Head2
import HandS.HeadHook1
import HandS.HeadHook2
import HandS.HeadHook3
import HandS.HeadHook4
import HandS.HeadWalk
import PySem.Challenge.RW_tiespan_k12_rows_refused
set_option Elab.async false
set_option linter.all false
set_option maxRecDepth 100000
set_option maxHeartbeats 4000000
namespace EK
open PySem PySem.Spec PyProof.Rows L2
/-! ### try: body, except (c1, c2) as n: suite, and what stands behind it is not reached -/
theorem flyingZ_push {B h : Heap} {l : List Env} {e : Addr} {Z : Obj → Prop} (x : PySem.HandSPX.FlyingZ B l e Z h) (o : Obj) : PySem.HandSPX.FlyingZ B l e Z (h.push o) := by
  obtain ⟨h1, h2, h3, oe, vs, tb, ot, ts, a1, a2, a3, a4, a5, a6, a7, a8, a9⟩ := x
  exact ⟨fun b u q => Heap.get?_push_of_some _ (h1 b u q), h2, h3.of_keeps fun b u q _ => ⟨u, Heap.get?_push_of_some _ q, rfl⟩, oe, vs, tb, ot, ts, Heap.get?_push_of_some _ a1, a2, a3, a4, a5, a6, Heap.get?_push_of_some _ a7, a8, a9⟩
/-- the wish: the clause takes it -/
def wTup (K : PySem.W.Frag) (c1 c2 : Value) (i : Nat) (ts : Addr → Value → Option Addr → TS) (D : Ends) : WX := fun cls d σ H =>
  PySem.W.exmAny K cls [c1, c2] = some true ∧ ∀ a, H a = none → ts a cls d { nx := fun σ' H' => D.nx (σ'.set i none) H', rt := D.rt, bk := fun σ' H' => D.bk (σ'.set i none) H', ct := fun σ' H' => D.ct (σ'.set i none) H' } (σ.set i (some (.ref a))) H
theorem ps_try_tup {X : Cx} {x1 x2 n : Str} {c1 c2 : Value} {i kk : Nat} {body suite : List Stmt} {b₀ : Stmt} {np1 np2 tpos pos pos' : Pos} {tb : WX → TS} {ts : Addr → Value → Option Addr → TS} {hds : List ExceptHandler}
    (hs : X.stack = X.env :: X.outer) (hf : X.env.frame = some X.env.locals) (hN : X.N.Nodup) (hi : X.N[i]? = some n) (hln : X.env.kindOf n = some .local) (h1 : Gl X x1) (m1 : X.mg x1 = some c1) (h2 : Gl X x2) (m2 : X.mg x2 = some c2)
    (hb : ∀ (W : WX) (pn : List (Addr × Obj)) (xe : Value → Shared → Prop), Takes (X.tr pn xe) W → PassesOwn (model X.prog X.w) X.A X.env xe → PSs (X.tr pn xe) body (tb W))
    (hsu : ∀ (a : Addr) (oe : Obj) (cls : Value) (d : Option Addr) (pn : List (Addr × Obj)), Zc cls d oe → (∃ vs, oe.data = .fields vs) → PSs (X.suite a ((a, oe) :: pn)) (b₀ :: suite) (ts a cls d))
    (d1 : (x1 == ("__debug__" : Str)) = false := by decide) (d2 : (x2 == ("__debug__" : Str)) = false := by decide) :
    PS X (.Try body (.ExceptHandler (some (.Tuple [.Name x1 np1, .Name x2 np2] kk tpos)) (some n) (b₀ :: suite) pos' :: hds) [] [] pos) (fun D σ H => tb (wTup X.K c1 c2 i ts D) D σ H) := by
  refine ⟨fun pins s σ H D I h => ?_⟩
  have ok := I.ok
  have hfr : X.A.frames = some (X.env :: X.outer) := by rw [ok.frames, hs]
  have hloc : Loc X.env.scope n := .inl hln
  refine wpAny_Try_except (wpAny_mono ((hb (wTup X.K c1 c2 i ts D) (X.pn ++ pins) (fun e s₁ => wpAny (model X.prog X.w) X.A (noteFrame e X.env) (fun _ s₂ => wpAny (model X.prog X.w) X.A (setFlight e none) (fun _ s₃ =>
    wpAny (model X.prog X.w) X.A (handleBy e X.env (.ExceptHandler (some (.Tuple [.Name x1 np1, .Name x2 np2] kk tpos)) (some n) (b₀ :: suite) pos' :: hds)) (SP X pins D) X.xe s₃) X.xe s₂) X.xe s₁) (fun u s' xx => ?_) PassesOwn.looking).run [] s σ H D (I.toTry _) h) (fun f s1 hsp => ?_) (fun e s1 he => he))
  · obtain ⟨a, B, sI, pins', σ', H', cls, d, rfl, J', nb, up, sky, na, os, ag, hb1, hyes⟩ := xx
    have J : Inv X pins σ' H' sI := J'.ofTry ok
    have sky' : Sky B (X.env :: X.outer) a (Zc cls d) X.env.locals s'.heap := by rw [← hs]; exact sky
    show wpAny (model X.prog X.w) X.A (noteFrame (.ref a) X.env) _ _ _
    refine Sky.land Zc.steady hfr hf sky' fun h3 fl3 up3 => ?_
    have J3 : Inv X pins σ' H' { s' with heap := h3 } := J.landed nb fl3.1 (up.trans up3) os ag
    obtain ⟨oe3, vs3, he3, hz3, hd3⟩ := fl3.there
    have nfr : a ∉ frs (X.env :: X.outer) := fun hm => by
      obtain ⟨_, o', e', hnf⟩ := fl3.2.2.1.mem hm
      rw [he3] at e'
      cases e'
      exact hnf _ hd3
    have nL : a ≠ X.env.locals := fun z => nfr (List.mem_filterMap.mpr ⟨X.env, List.mem_cons_self, by rw [hf, z]⟩)
    have nF : a ∉ X.fs := fun hm => by
      obtain ⟨e, he, q⟩ := List.mem_filterMap.mp hm
      exact nfr (List.mem_filterMap.mpr ⟨e, List.mem_cons_of_mem _ he, q⟩)
    have S3 := J3.suite he3 hd3 na nL nF
    refine wpAny_handleBy_cons (codeAny_handlers_test ?_) (by intro q; cases q)
    refine wpAny_Tuple ?_
    refine wpAny_items_cons (ld_glob (X := X.suite a ((a, oe3) :: (X.pn ++ pins))) S3 h1 m1 ?_ d1)
    refine wpAny_items_cons (ld_glob (X := X.suite a ((a, oe3) :: (X.pn ++ pins))) S3 h2 m2 ?_ d2)
    refine wpAny_items_nil ⟨Nat.le_trans (by decide : 2 ≤ 1000) (Nat.le_of_lt (small1000 (Nat.le_refl _))), ?_⟩
    have kp : ∀ q o, h3.get? q = some o → (h3.push { cls := .type "tuple", data := .seq [c1, c2].toArray }).get? q = some o := fun _ _ z => Heap.get?_push_of_some _ z
    have LT : PySem.W.Looks (model X.prog X.w) (h3.push { cls := .type "tuple", data := .seq [c1, c2].toArray }) (typeOf (.ref a)) cls := fun A Q E s k q => wpAny_typeOf_ref (k _ _ (kp _ _ he3)) (by rw [hz3.1]; exact q)
    refine (PySem.W.exm_tup2 (M := model X.prog X.w) (J3.kIn.keeps kp) LT (Heap.get?_push_size h3 rfl) hb1).here ?_
    have up3p := (up.trans up3).trans (Heap.UpToSlots.of_keeps kp)
    have fl3p := flyingZ_push fl3 { cls := .type "tuple", data := .seq [c1, c2].toArray }
    generalize h3.push { cls := .type "tuple", data := .seq [c1, c2].toArray } = g3 at up3p fl3p
    refine codeAny_handlers_suite_as ?_
    refine PySem.HandSPX.lands_againZ fl3p fun h4 fl4 up4 => ?_
    have J4 : Inv X pins σ' H' { s' with heap := h4 } := J.landed nb fl4.1 (up3p.trans up4) os ag
    obtain ⟨oe4, vs4, he4, hz4, hd4⟩ := fl4.there
    have S4 := J4.suite he4 hd4 na nL nF
    refine store_ok (X := X.suite a ((a, oe4) :: (X.pn ++ pins))) (v := .ref a) S4 hN hi hloc rfl (fun s5 S5 => ?_) (.inr hln)
    refine wpAny_mono ((hsu a oe4 cls d (X.pn ++ pins) hz4 ⟨_, hd4⟩).run [] s5 _ H' _ S5 (hyes a na)) (fun f s6 hsp => ?_) (fun _ _ z => False.elim z)
    have end_ : ∀ {σ6 : L2.St} {H6 : Hp} {Q : Shared → Prop}, Inv (X.suite a ((a, oe4) :: (X.pn ++ pins))) [] σ6 H6 s6 → (∀ s7, Inv X pins (σ6.set i none) H6 s7 → Q s7) →
        wpAny (model X.prog X.w) X.A (do bindName X.env n .none; unbindBehindTheSuite X.env n pos') (fun _ s7 => Q s7) X.xe s6 := fun {σ6 H6 Q} S6 hq => gone_ok (S6.unsuite ok) hN hi hln hq
    cases f with
    | next =>
      obtain ⟨σ6, H6, S6, q6⟩ := hsp
      exact end_ S6 fun s7 J7 => ⟨_, _, J7, q6⟩
    | brk =>
      obtain ⟨σ6, H6, S6, q6⟩ := hsp
      exact end_ S6 fun s7 J7 => ⟨_, _, J7, q6⟩
    | cont =>
      obtain ⟨σ6, H6, S6, q6⟩ := hsp
      exact end_ S6 fun s7 J7 => ⟨_, _, J7, q6⟩
    | ret u =>
      obtain ⟨v6, σ6, H6, S6, r6, q6⟩ := hsp
      exact end_ S6 fun s7 J7 => ⟨_, _, _, J7, r6, q6⟩
  · cases f with
    | next =>
      obtain ⟨σ', H', J', q⟩ := hsp
      exact wpAny_execs_nil ⟨σ', H', J'.ofTry ok, q⟩
    | brk =>
      obtain ⟨σ', H', J', q⟩ := hsp
      exact ⟨σ', H', J'.ofTry ok, q⟩
    | cont =>
      obtain ⟨σ', H', J', q⟩ := hsp
      exact ⟨σ', H', J'.ofTry ok, q⟩
    | ret u =>
      obtain ⟨v, σ', H', J', r, q⟩ := hsp
      exact ⟨v, σ', H', J'.ofTry ok, r, q⟩
/-! ### defs that are called where an exception is handled, and read it; nothing is raised there -/
structure FnP (P : Program) (w : World) (K : PySem.W.Frag) (mg : Str → Option Value) (base : Heap) (k : Nat) (f : Addr) (fd : FuncData) (ps : List Str) (sp : Addr × Obj → Sp) : Prop where
  len : ∀ p vs H Q E, sp p vs H Q E → vs.length = ps.length
  run : ∀ (A : Around) (outer : List Env) (s : Shared) (H : Hp) (args : Args) (us : List Value) (vs : List V) (Q : VK) (p : Addr × Obj), L2H.RoomH k A → L2H.PinOk outer H s p → Env0 P w K mg base A outer s H → BindsTo s fd args (ps.zip us) → Vals vs us → sp p vs H Q E0 →
    codeAny (model P w) A (.call (.ref f) args) (CR CX0 outer P w H s Q E0) s
theorem fn_ofP {P : Program} {w : World} {K : PySem.W.Frag} {mg : Str → Option Value} {base : Heap} {k : Nat} {x : Str} {st : Stmt} {f : Addr} {fd : FuncData} {N ps : List Str} {sp : Addr × Obj → Sp} (F : Fun K x x st f fd) (S : FnScope N ps (defScope st))
    (len : ∀ p vs H Q E, sp p vs H Q E → vs.length = ps.length)
    (hbody : ∀ (cdv : Value) (A : Around) (outer : List Env) (s : Shared) (H : Hp) (vs : List V) (Q : VK) (p : Addr × Obj), L2H.RoomH k (A.deeper (envOfC x (defScope st) s.heap.objs.size f cdv)) → sp p vs H Q E0 →
      ∃ t, PSs (L2H.cxH CX0 P w K mg base N x (defScope st) f cdv A outer s H E0 p) (defBody st) t ∧ t { nx := fun _ H' => Q .non H', rt := Q } (L2.start N vs) H) : FnP P w K mg base (k + 1) f fd ps sp := by
  obtain ⟨oc, od, kV, doc, pm, an, cdv, ct, osl, rfl, lk, hcd⟩ := F.ex
  refine ⟨len, fun A outer s H args us vs Q p hr hpin e0 hb r hsp => ?_⟩
  have hl := len _ _ _ _ _ hsp
  have KX : K.In s.heap := e0.mod.kin.keeps fun b o e => (e0.bs b o e).1
  have lim : s.heap.NoLimit := e0.mod.nolimit.keeps fun b o e => (e0.bs b o e).1
  refine codeAny_call_function hr.depth (KX _ _ lk) rfl S.co S.gen rfl (PySem.W.codeRec_of KX hcd) (hb _ _ _ _ ?_)
  refine wpAny_newFunctionEnv_cells S.kind (fun ⟨n, v⟩ hy => ?_) fun env he s1 xc => ?_
  · rcases S.par n (List.of_mem_zip hy).1 with q | q
    · exact .inl q
    · exact .inr ⟨q, PySem.W.cellsFrom_some _ _ _ (.inl q)⟩
  · subst he
    refine ⟨lim.keeps xc.toInCall.keep, codeAny_func ?_⟩
    obtain ⟨t, ht, hq⟩ := hbody cdv A outer s H vs Q p (hr.deeper _) hsp
    refine wpAny_mono (ht.run [] s1 (L2.start N vs) H _ (L2H.inv_startH S hpin e0 hl r xc) hq) (fun fl s' hs => ?_) fun e s' hs => hs
    cases fl with
    | ret u =>
      obtain ⟨v, σ', H', J, rv, q⟩ := hs
      exact ⟨v, H', J.os, J.bare, J.base, J.hok, rv, q⟩
    | next =>
      obtain ⟨σ', H', J, q⟩ := hs
      exact ⟨.non, H', J.os, J.bare, J.base, J.hok, rfl, q⟩
    | brk =>
      obtain ⟨_, _, _, q⟩ := hs
      exact False.elim q
    | cont =>
      obtain ⟨_, _, _, q⟩ := hs
      exact False.elim q
theorem pe_callP {X : Cx} {k : Nat} {f : Addr} {fd : FuncData} {ps : List Str} {sp : Addr × Obj → Sp} {x : Str} {q pos : Pos} {e : Expr} {es : List Expr} {t : TA} {p : Addr × Obj} (F : FnP X.prog X.w X.K X.mg X.base k f fd ps sp) (hr : L2H.RoomH k X.A) (hp : p ∈ X.pn) (hg : Gl X x) (hm : X.mg x = some (.ref f))
    (hk : PySem.W.keepIn X.K (.ref f) = true) (hb : Binds X.K fd ps []) (ha : PA X (e :: es) t) (hdb : (x == ("__debug__" : Str)) = false := by decide) (he : starEach (e :: es) X.env = (false, eval e X.env) :: starEach es X.env := by rfl) (hpl : (backTo pos (starEach es X.env)).any (·.1) = false := by rfl) :
    PE X (.Call (.Name x q) (e :: es) [] pos) (fun σ H Q => t σ H fun vs H1 => sp p vs H1 Q E0) := by
  refine ⟨fun pins s σ H Q I h => wpAny_Call_Name_kw (ld_glob I hg hm (PySem.W.callWith_K (h₀ := X.base) I.ok.mod.kin hk (thn (ha.run pos pins s σ H _ I h) fun us s1 ⟨vs, H1, I1, r, q1⟩ => ⟨I1.kIn, ?_⟩) he hpl) hdb)⟩
  have hl : us.length = ps.length := by rw [← r.length]; exact F.len _ _ _ _ _ q1
  have b := hb s1 us I1.kIn (by rw [List.append_nil]; exact hl)
  rw [List.append_nil] at b
  have P1 := I1.pin p (List.mem_append_left _ hp)
  have hpin : L2H.PinOk X.stack H1 s1 p := ⟨P1.1, P1.2.1, fun hm => (List.mem_cons.mp (I1.stkSub p.1 hm)).elim P1.2.2.1 P1.2.2.2.1, P1.2.2.2.2⟩
  refine wpAny_call (codeAny_mono (F.run X.A X.stack s1 H1 ⟨us, []⟩ us vs Q p hr hpin I1.env0 b r q1) fun r s' hq => ?_)
  cases r with
  | error e => exact (show False from hq).elim
  | ok fl =>
    cases fl with
    | ret u => exact I1.after hq
    | next => exact False.elim hq
    | brk => exact False.elim hq
    | cont => exact False.elim hq
/-- what is told of the exception at p: its class, its own dict, the fields -/
structure Xat (K : PySem.W.Frag) (p : Addr × Obj) (C dd : Addr) : Prop where
  z : Zc (.ref C) (some dd) p.2
  fl : ∃ vs, p.2.data = .fields vs
  xf : XfC K C
def tXp (K : PySem.W.Frag) (p : Addr × Obj) (n : Str) (te : TE) : TE := fun σ H Q => te σ H fun x H1 => x = .ref p.1 ∧ ∃ (C dd : Addr) (fs : List (Str × V)) (v : V), Xat K p C dd ∧ PySem.W.findIn K (.ref C) n = some none ∧ H1 dd = some (.xd fs) ∧ fs.lookup n = some v ∧ Q v H1
theorem pe_xp {X : Cx} {p : Addr × Obj} {e : Expr} {te : TE} {pos : Pos} {n : Str} (hp : p ∈ X.pn) (he : PE X e te) (hb : attributeBase e n X.env (eval e X.env) = eval e X.env := by rfl) : PE X (.Attribute e n pos) (tXp X.K p n te) := by
  refine ⟨fun pins s σ H Q I h => attr_of hb (thn (he.run pins s σ H _ I h) fun u s1 hh => ?_)⟩
  obtain ⟨x, H1, I1, rx, ex, C, dd, fs, v, T, hno, ea, l, q⟩ := hh
  subst ex
  obtain rfl : u = Value.ref p.1 := rx
  obtain ⟨ha, _⟩ := I1.pin p (List.mem_append_left _ hp)
  obtain ⟨vs, hd⟩ := T.fl
  have hx : ObjOk X.prog X.w H1 s1.heap dd (.xd fs) := I1.hok dd _ ea
  obtain ⟨mA, hns, hr⟩ := hx
  obtain ⟨od, ho, hl⟩ := lookIn_ns hns
  obtain ⟨u, hu, ru⟩ := RelO.some_of (v := v) (o := mA n) (by rw [← l]; exact hr n)
  have J : PySem.W.InstAt s1.heap p.1 p.2 C (some od) := ⟨ha, T.z.1, by unfold PySem.W.notCls; rw [hd] <;> rfl, by rw [T.z.2]; exact ho⟩
  exact PySem.HandSPX.exc_get I1.kIn J T.xf.ga T.xf.gg T.xf.exC (PySem.W.findObj_own T.xf.hdC hno rfl (by rw [hl, hu])) (handed_of ru) ⟨v, H1, I1.tok _, ru, q⟩
/-! ### own errors: what K tells of a class, making one, what why tells of it -/
structure ErrC (K : PySem.W.Frag) (mg : Str → Option Value) (x : Str) (C Tie Miss fI : Addr) : Prop where
  oex : OexC K C
  xf : XfC K C
  gC : mg x = some (.ref C)
  tag : PySem.W.findIn K (.ref C) "tag" = some none
  any : PySem.W.exmAny K (.ref C) [.ref Tie, .ref Miss] = some true
  iC : PySem.W.findIn K (.ref C) "__init__" = some (some (.ref fI))
  tI : PySem.W.typeIn K (.ref fI) = some (.type "function")
/-- __init__(self, v): self.n = v; self.tag = x -/
def spInit1 (K : PySem.W.Frag) (n x : Str) : Sp := fun vs H Q _ => ∃ (a C : Addr) (v : V), vs = [.ref a, v] ∧ OexC K C ∧ PySem.W.findIn K (.ref C) n = some none ∧ PySem.W.findIn K (.ref C) "tag" = some none ∧ H a = some (exo a C none) ∧
  ∀ dx, H dx = none → dx ≠ a → Q .non (upd (upd (upd H dx (exd dx [(n, v)])) a (exo a C (some dx))) dx (exd dx [("tag", .str x), (n, v)]))
def spInit0 (K : PySem.W.Frag) (x : Str) : Sp := fun vs H Q _ => ∃ (a C : Addr), vs = [.ref a] ∧ OexC K C ∧ PySem.W.findIn K (.ref C) "tag" = some none ∧ H a = some (exo a C none) ∧
  ∀ dx, H dx = none → dx ≠ a → Q .non (upd (upd H dx (exd dx [("tag", .str x)])) a (exo a C (some dx)))
theorem Same.del {H H2 : Hp} {a d : Addr} {o : HO} (na : H a = none) (nd : H d = none) (h : ∀ b u, b ≠ a → H b = some u → H2 b = some u) : Same H (upd (del H2 a) d o) := fun b u e => by
  rw [upd_ne (ne_of_none e nd), del_ne (ne_of_none e na)]
  exact h b u (ne_of_none e na) e
/-! ### a def whose code object is known -/
structure FunC (K : PySem.W.Frag) (x : Str) (st : Stmt) (f : Addr) (fd : FuncData) (c : Addr) : Prop where
  ex : ∃ (oc : Value) (od : Option Addr) (kV doc pm : Value) (an : Option Addr) (ct : Value) (osl : Array (Option Value)),
    fd = PySem.W.fnOf x x (defArgs st) (defBody st) (defScope st) .none kV doc pm an (.ref c) ct ∧ K.lookup f = some ⟨oc, od, .func fd, osl⟩ ∧ PySem.W.codeIn K (.ref c) x = true
theorem FunC.ok {P : Program} {w : World} {K : PySem.W.Frag} {mg : Str → Option Value} {base : Heap} {x : Str} {st : Stmt} {f c : Addr} {fd : FuncData} {N ps : List Str} {k : Nat} {sp : Sp} (F : FunC K x st f fd c) (S : FnScope N ps (defScope st)) (len : ∀ vs H Q E, sp vs H Q E → vs.length = ps.length)
    (hbody : ∀ (A : Around) (outer : List Env) (s : Shared) (H : Hp) (vs : List V) (Q : VK) (E : XK), Room k (A.deeper (envOfC x (defScope st) s.heap.objs.size f (.ref c))) → sp vs H Q E →
      ∃ t, PSs (cxOf CX0 P w K mg base N x (defScope st) f (.ref c) A outer s H E).nox (defBody st) t ∧ t { nx := fun _ H' => Q .non H', rt := Q } (L2.start N vs) H) : FnOk P w K mg base CX0 (k + 1) f fd ps sp := by
  obtain ⟨oc, od, kV, doc, pm, an, ct, osl, rfl, lk, hcd⟩ := F.ex
  refine fn_of lk hcd S len fun A outer s H vs Q E hr hsp => ?_
  obtain ⟨t, h, q⟩ := hbody A outer s H vs Q E hr hsp
  exact ⟨t, h.nox, q⟩
theorem ExtN.same {H H' : Hp} (s : Same H H') : LamX.ExtN H H' := fun b o e _ => s b o e
/-! ### the end with tables -/
theorem walk_T {l : PySem.W.OpenLaw} {n k : Nat} {q : Program} {loose : List Str} {XP : (Str → Option Value) → Heap → Prop} {YP : World → Heap → Prop} {d : DefRec} {K : Params → PySem.W.Frag} {CX : World → CXT} {x : Str}
    (hn : l.most = some n) (hn2 : n ≤ sizeLine) (hdf : d.params.defaults = []) (hr : Room k callerA) (hY : ∀ (w : World) (h : Heap), YP w h → (K w.params).In h)
    (F : ∀ (w : World) (lo : List Str) (mean : ExcName → Option Value) (mg mb : Str → Option Value) (fa : Addr) (h : Heap), Top q lo mean mg mb h → (K w.params).In h → mg d.name = some (.ref fa) → LamX.LawAtS l w (K w.params) (CX w) k n x mg fa h)
    (hCX : ∀ (w : World) (H : Hp) (s : Shared) (e : Value) (s' : Shared), CX w [] H s (fun _ _ _ => False) e s' → False) :
    PySem.W.WalkO q loose XP YP l.row.toRowW d [] (fun f vs => PySem.call f vs) := by
  refine Att.attach_callB hn hdf fun w s₀ s₁ mg mb fa o pm cd doc a vs ns G Y ho hd hcd hmg hobj hints hlen hbits hg => ?_
  have KX := hY w _ Y
  obtain ⟨fd, cs, sp, hT, nT, C, hb, hsp, hF⟩ := F w _ _ mg mb fa _ G.T KX hmg
  exact LamX.law_callTs KX G.T.g G.T.b G.T.builtins G.T.nolimit hg hT nT C G.T.bmain hobj hints (Nat.le_trans hlen hn2) hr hF hb (fun H hH hS => hsp H a ns hlen hbits hH hS) fun H e s' => hCX w H s₁ e s'
theorem exm_by {K : PySem.W.Frag} {S : Addr} {cls : Value} {b : Bool} (h1 : PySem.W.subIn K (.ref S) (.type "BaseException") = some true) (h2 : PySem.W.isClsIn K S = true) (h3 : PySem.W.typeIn K (.ref S) = some (.type "type")) (h4 : PySem.W.subIn K cls (.ref S) = some b) :
    PySem.W.exmOne K cls (.ref S) = some b := by
  have e1 : (PySem.W.subIn K (.ref S) (.type "BaseException") == some true) = true := by rw [h1] <;> rfl
  have e2 : ((PySem.W.clsIn K S).isSome && PySem.W.typeIn K (.ref S) == some (.type "type")) = true := by
    have h2' : (PySem.W.clsIn K S).isSome = true := h2
    rw [h2', h3] <;> rfl
  unfold PySem.W.exmOne PySem.W.kitCls
  rw [if_pos e1]
  exact (if_pos e2).trans h4
theorem exm_any {K : PySem.W.Frag} {c1 c2 cls : Value} (h1 : PySem.W.exmOne K cls c1 = some true) (h2 : PySem.W.exmOne K cls c2 = some false) : PySem.W.exmAny K cls [c1, c2] = some true := by
  unfold PySem.W.exmAny PySem.W.exmAny PySem.W.exmAny
  rw [h1, h2]
  rfl
/-! ### calls with keywords alone -/
theorem pe_callN0 {X : Cx} {CX : CXT} {k : Nat} {f : Addr} {fd : FuncData} {ps ks : List Str} {sp : Sp} {E : XK} {x : Str} {p pos : Pos} {kws : List Keyword} {tk : TA} {g : List Value → List Value → List Value} {gV : List V → List V → List V}
    (F : FnOk X.prog X.w X.K X.mg X.base CX k f fd ps sp) (hr : Room k X.A) (hg : Gl X x) (hm : X.mg x = some (.ref f)) (hk : PySem.W.keepIn X.K (.ref f) = true) (hb : KBn X.K fd ps 0 ks g gV) (hx : Passes CX X E) (hkw : PK X kws tk)
    (hall : (backToKw pos (keywordEach kws X.env)).all (·.1.isSome) = true := by rfl) (hks : (backToKw pos (keywordEach kws X.env)).filterMap (·.1) = ks := by rfl) (hdb : (x == ("__debug__" : Str)) = false := by decide)
    (hpl : ((backTo pos (starEach [] X.env)).any (·.1) || (backToKw pos (keywordEach kws X.env)).any (·.1.isNone)) = false := by rfl) :
    PE X (.Call (.Name x p) [] kws pos) (fun σ H Q => tk σ H fun zs H2 => zs.length = ks.length ∧ sp (gV [] zs) H2 Q E) := by
  refine ⟨fun pins s σ H Q I h => wpAny_Call_Name_kw (ld_glob I hg hm (PySem.W.callWith_KW0 (h₀ := X.base) I.ok.mod.kin hk hall (thn (hkw.run pos pins s σ H _ I h) fun ws s2 ⟨zs, H2, I2, rz, l2, q2⟩ => ⟨I2.kIn, ?_⟩) hpl) hdb)⟩
  rw [hks]
  exact run_fnN (us := []) (vs := []) F hr hb hx I2 .nil rz rfl l2 q2
/-- two values in the other order -/
theorem swap_rel : ∀ {vs : List V} {us : List Value} {zs : List V} {ws : List Value}, Vals vs us → Vals zs ws → Vals [zs.getD 1 .non, zs.getD 0 .non] [ws.getD 1 Value.none, ws.getD 0 Value.none]
  | _, _, _, _, _, .nil => .cons rfl (.cons rfl .nil)
  | _, _, _, _, _, .cons r .nil => .cons rfl (.cons r .nil)
  | _, _, _, _, _, .cons r (.cons r2 _) => .cons r2 (.cons r .nil)
/-! ### an error as a value -/
/-- at a: an exception whose object is known -/
def ExV (oe : Obj) (a : Addr) : HO := .ext fun h => h.get? a = some oe
theorem exv_ok {P : Program} {w : World} {H : Hp} {h : Heap} {a : Addr} {oe : Obj} (e : h.get? a = some oe) : ObjOk P w H h a (ExV oe a) := ⟨e, ⟨_, e⟩, fun _ _ z k => k _ z⟩
theorem exv_at {P : Program} {w : World} {H : Hp} {h : Heap} {a : Addr} {oe : Obj} (hok : HOk P w H h) (e : H a = some (ExV oe a)) : h.get? a = some oe := by
  have x : ObjOk P w H h a (.ext fun h => h.get? a = some oe) := hok a _ e
  exact x.1
/-- C(..) of an error class, its object kept -/
theorem pe_exv {X : Cx} {e : Expr} {t : L2.St → Hp → XK → Prop} (h : PMk X e t) : PE X e (fun σ H Q => t σ H fun cls d H' => ∀ (a : Addr) (oe : Obj), Zc cls d oe → (∃ vs, oe.data = .fields vs) → H' a = none → Q (.ref a) (upd H' a (ExV oe a))) := by
  refine ⟨fun pins s σ H Q I q => wpAny_mono (h pins s σ H _ I q) (fun v s1 hm => ?_) fun _ _ z => z⟩
  obtain ⟨a, oe, vs, sI, H', cls, d, rfl, J, k, ga, ha, hz, hd, h1, na, os, ag, r, qq⟩ := hm
  have J2 := J.laidN (t' := s1.toks) (a := a) (o := ExV oe a) k ga na (exv_ok ha)
  exact ⟨.ref a, _, ⟨J2.ok, os.trans J2.os, ag, J2.base, J2.loc, J2.cell, J2.free, J2.freeC, J2.pin, J2.hok, J2.len⟩, rfl, qq a oe hz ⟨vs, hd⟩ na⟩
/-- an attribute of it -/
def tXv (K : PySem.W.Frag) (n : Str) (te : TE) : TE := fun σ H Q => te σ H fun x H1 => ∃ (a : Addr) (oe : Obj) (C dd : Addr) (fs : List (Str × V)) (v : V), x = .ref a ∧ H1 a = some (ExV oe a) ∧ Xat K (a, oe) C dd ∧ PySem.W.findIn K (.ref C) n = some none ∧ H1 dd = some (.xd fs) ∧ fs.lookup n = some v ∧ Q v H1
theorem pe_xv {X : Cx} {e : Expr} {te : TE} {pos : Pos} {n : Str} (he : PE X e te) (hb : attributeBase e n X.env (eval e X.env) = eval e X.env := by rfl) : PE X (.Attribute e n pos) (tXv X.K n te) := by
  refine ⟨fun pins s σ H Q I h => attr_of hb (thn (he.run pins s σ H _ I h) fun u s1 hh => ?_)⟩
  obtain ⟨x, H1, I1, rx, a, oe, C, dd, fs, v, ex, hv, T, hno, ea, l, q⟩ := hh
  subst ex
  obtain rfl : u = Value.ref a := rx
  have ha := exv_at I1.hok hv
  obtain ⟨vs, hd⟩ := T.fl
  have hx : ObjOk X.prog X.w H1 s1.heap dd (.xd fs) := I1.hok dd _ ea
  obtain ⟨mA, hns, hr⟩ := hx
  obtain ⟨od, ho, hl⟩ := lookIn_ns hns
  obtain ⟨u, hu, ru⟩ := RelO.some_of (v := v) (o := mA n) (by rw [← l]; exact hr n)
  have J : PySem.W.InstAt s1.heap a oe C (some od) := ⟨ha, T.z.1, by unfold PySem.W.notCls; rw [hd] <;> rfl, by rw [T.z.2]; exact ho⟩
  exact PySem.HandSPX.exc_get I1.kIn J T.xf.ga T.xf.gg T.xf.exC (PySem.W.findObj_own T.xf.hdC hno rfl (by rw [hl, hu])) (handed_of ru) ⟨v, H1, I1.tok _, ru, q⟩
/-! ### lambdas that are kept: made as values, called later -/
section
open PySem.W LamX PySem.Calls
/-- the names of a kept lambda: captured ones, globals, and its own parameters (which the maker does not name) -/
structure LamQ (N : List Str) (sc scope : Scope) : Prop where
  kind : scope.kind = .function
  co : scope.isCoroutine = false
  gen : scope.isGenerator = false
  own : ∀ y ∈ scope.names, y.2 ≠ .cell ∧ (y.2 = .local → y.1 ∉ N)
  free : ∀ y ∈ scope.names, y.2 = .free → sc.names.lookup y.1 = some .cell ∨ sc.names.lookup y.1 = some .free
def lamQB (N : List Str) (sc scope : Scope) : Bool :=
  (decide (scope.kind = .function) && (!scope.isCoroutine && !scope.isGenerator)) && scope.names.all fun y => (!decide (y.2 = .cell) && (!decide (y.2 = .local) || !decide (y.1 ∈ N))) && (!decide (y.2 = .free) || (decide (sc.names.lookup y.1 = some .cell) || decide (sc.names.lookup y.1 = some .free)))
theorem lamQ_by {N : List Str} {sc scope : Scope} (h : lamQB N sc scope = true) : LamQ N sc scope := by
  unfold lamQB at h
  rw [Bool.and_eq_true, Bool.and_eq_true, Bool.and_eq_true, decide_eq_true_eq, Bool.not_eq_true', Bool.not_eq_true'] at h
  obtain ⟨⟨h1, h2, h3⟩, h4⟩ := h
  have each := List.all_eq_true.mp h4
  refine ⟨h1, h2, h3, fun y hy => ⟨fun e => ?_, fun e m => ?_⟩, fun y hy e => ?_⟩
  · have z := each y hy
    simp [e] at z
  · have z := each y hy
    simp [e, m] at z
  · have z := each y hy
    simpa [e] using z
theorem LamQ.has {X : Cx} {scope : Scope} (L : LamQ X.N X.env.scope scope) (ok : X.Ok) {y : Str × NameKind} (hy : y ∈ scope.names) (e : y.2 = .free) : ∃ c, X.env.cells.lookup y.1 = some c :=
  (L.free y hy e).elim (fun k => ok.has _ (.inl k)) fun k => ok.has _ (.inr k)
/-- the object of a lambda -/
abbrev lqO (q : Str) (ps : Arguments) (b : Expr) (sc : Scope) (cl : List (Str × Addr)) (dV doc pm : Value) (c' : Addr) (ct : Value) : Obj := kdv_obj "<lambda>" q ps (.expr b) sc cl dV doc pm c' ct
/-- no default, or the one default 0 in its tuple -/
def DfltAt (H : Hp) (dV : Value) : Bool → Prop
  | false => dV = .none
  | true => ∃ T, dV = .ref T ∧ H T = some (.tup [V.int 0])
def LqAt (X : Cx) (H : Hp) (d : Bool) (ps : Arguments) (b : Expr) (sc : Scope) (f : Addr) : Prop := ∃ (dV doc pm ct : Value) (c' : Addr),
  H f = some (ExV (lqO (X.env.qual ++ "<lambda>") ps b sc (cloFrom X.env.cells sc.names []) dV doc pm c' ct) f) ∧ H c' = some (CodeO c' (X.env.qual ++ "<lambda>")) ∧ DfltAt H dV d
theorem exv_ne_tbl {o : Obj} {a : Addr} (ps : Array Value) : ExV o a ≠ .tbl ps := fun z => by
  unfold ExV at z
  cases z
theorem exv_ne_lst {o : Obj} {a : Addr} (xs : List V) : ExV o a ≠ .lst xs := fun z => by
  unfold ExV at z
  cases z
theorem codeO_ne_lst {c : Addr} {q : Str} (xs : List V) : CodeO c q ≠ .lst xs := fun z => by
  unfold CodeO at z
  cases z
/-- what neither is a list nor a table stays -/
def Keep2 (H H' : Hp) : Prop := ∀ b o, H b = some o → (∀ ps, o ≠ .tbl ps) → (∀ xs, o ≠ .lst xs) → H' b = some o
theorem LqAt.keep {X : Cx} {H H' : Hp} {d : Bool} {ps : Arguments} {b : Expr} {sc : Scope} {f : Addr} (h : LqAt X H d ps b sc f) (k : Keep2 H H') : LqAt X H' d ps b sc f := by
  obtain ⟨dV, doc, pm, ct, c', h1, h2, h3⟩ := h
  refine ⟨dV, doc, pm, ct, c', k _ _ h1 exv_ne_tbl exv_ne_lst, k _ _ h2 codeO_ne codeO_ne_lst, ?_⟩
  cases d with
  | false => exact h3
  | true =>
    obtain ⟨T, e, h3⟩ := h3
    exact ⟨T, e, k _ _ h3 (fun ps z => by cases z) fun xs z => by cases z⟩
section
variable {X : Cx} {pins : List (Addr × Obj)} {σ : L2.St} {H : Hp} {s : Shared}
theorem lq_sup {H : Hp} {a : Addr} {o : HO} (n : H a = none) : ∀ b u, H b = some u → upd H a o b = some u := fun b u e => (upd_ne (ne_of_none e n)).trans e
/-- the function object laid -/
theorem lq_lay {H1 : Hp} {s1 : Shared} {o : Obj} {h2 : Heap} {tk : Nat} (I1 : Inv X pins σ H1 s1) (hf : o.isFreed = false) (eh : h2 = s1.heap.push o) : Inv X pins σ (upd H1 s1.heap.objs.size (ExV o s1.heap.objs.size)) { s1 with heap := h2, toks := tk } := by
  subst eh
  exact I1.laid (fun b u e => Heap.get?_push_of_some _ e) (Nat.le_refl _) (exv_ok (Heap.get?_push_size _ hf))
/-- a lambda is made, its default given -/
theorem lq_make {T : List (Addr × Str)} {c P : Addr} {params : Arguments} {body : Expr} {scope : Scope} {pos : Pos} {dV : Value} {d : Bool} {E : Value → Shared → Prop} {Q : Value → Shared → Prop} (I : Inv X pins σ H s) (TB : TabB X.base X.mg c P) (hcode : X.env.code = .ref c)
    (hm : (P, X.env.qual ++ "<lambda>") ∈ T) (hu : ∀ p ∈ T, p.1 = P → p.2 = X.env.qual ++ "<lambda>") (hT : Tabs T H) (hfree : ∀ y ∈ scope.names, y.2 = .free → ∃ c, X.env.cells.lookup y.1 = some c) (hd : DfltAt H dV d)
    (go : ∀ (f : Addr) (H2 : Hp) (s' : Shared), Inv X pins σ H2 s' → ExtN H H2 → Tabs T H2 → LqAt X H2 d params body scope f → Q (.ref f) s') :
    wpAny (model X.prog X.w) X.A (makeTail "<lambda>" (X.env.qual ++ "<lambda>") params (.expr body) scope X.env dV .none none pos pos.line) Q E s := by
  obtain ⟨ps, hP, ht, ha⟩ := hT _ hm
  have bP : s.heap.BuiltinsAt X.mg P := TB.bm.keeps I.bk
  have hP' : s.heap.get? P = some { cls := .none, data := .fields ps } := I.hok P _ hP
  have last : ∀ (c' : Addr) (doc ctv : Value) (H1 : Hp) (h1 : Heap) (tk : Nat), Inv X pins σ H1 { s with heap := h1, toks := tk } → ExtN H H1 → Tabs T H1 → H1 c' = some (CodeO c' (X.env.qual ++ "<lambda>")) →
      Q (.ref h1.objs.size) { s with heap := h1.push (lqO (X.env.qual ++ "<lambda>") params body scope (cloFrom X.env.cells scope.names []) dV doc ((X.mg "__name__").getD .none) c' ctv), toks := tk } := by
    intro c' doc ctv H1 h1 tk I1 e1 t1 hc1
    have nf : H1 h1.objs.size = none := I1.hok.fresh (Nat.le_refl _)
    have sm : ∀ b u, H1 b = some u → (upd H1 h1.objs.size (ExV (lqO (X.env.qual ++ "<lambda>") params body scope (cloFrom X.env.cells scope.names []) dV doc ((X.mg "__name__").getD .none) c' ctv) h1.objs.size)) b = some u := lq_sup nf
    refine go h1.objs.size _ _ (lq_lay (s1 := { s with heap := h1, toks := tk }) (tk := tk) I1 rfl rfl) (e1.trans (ExtN.of sm)) (t1.ext sm) ⟨_, _, _, _, _, upd_same, sm _ _ hc1, ?_⟩
    cases d with
    | false => exact hd
    | true =>
      obtain ⟨D, e, hd⟩ := hd
      exact ⟨D, e, sm _ _ (e1 _ _ hd (fun _ z => by cases z))⟩
  cases hc : codeAmong pos ps.toList with
  | none =>
    refine kdv_makeTail (mg := X.mg) (c := c) (P := P) (ps := ps) (closure_ok hfree) I.ok.glob (I.mod.glob.keeps I.bk) hcode (TB.code.keeps I.bk) hP' ht hc TB.gP bP fun c' ctv doc h' tk hx hge hlt hrec htb => ?_
    obtain ⟨c2, oc, vs, t, e2, hoc, hdt, hv⟩ := hrec
    cases e2
    have nC : H c' = none := I.hok.fresh hge
    have I1 := inv_table (t' := tk) (more := #[rawInt pos.line, rawInt pos.col, .ref c']) (h' := h') (c := c') (q := X.env.qual ++ "<lambda>") I hP hx htb hge ⟨oc, vs, t, hoc, hdt, hv⟩
    have hE : ExtN H (upd (upd H P (.tbl (ps ++ #[rawInt pos.line, rawInt pos.col, .ref c']))) c' (CodeO c' (X.env.qual ++ "<lambda>"))) := by
      intro b o e n
      have b1 : b ≠ P := fun z => n ps (Option.some.inj (e.symm.trans (by rw [z]; exact hP)))
      rw [upd_ne (ne_of_none e nC), upd_ne b1]
      exact e
    refine last c' doc ctv _ _ _ I1 hE (fun p hp => ?_) upd_same
    by_cases hb : p.1 = P
    · have eL : (ps ++ #[rawInt pos.line, rawInt pos.col, .ref c']).toList = ps.toList ++ [rawInt pos.line, rawInt pos.col, .ref c'] := by simp
      rw [hu p hp hb, hb]
      refine ⟨_, (upd_ne (ne_of_none hP nC)).trans upd_same, eL ▸ PySem.TriplesOk_snoc _ _ _ _ ht, fun p' cv hcv => ?_⟩
      rw [eL] at hcv
      rcases among_app _ ht hcv with z | z
      · obtain ⟨c0, e1, e2⟩ := ha p' cv z
        exact ⟨c0, e1, hE _ _ e2 codeO_ne⟩
      · exact ⟨c', z, upd_same⟩
    · obtain ⟨ps', a1, a2, a3⟩ := hT p hp
      refine ⟨ps', (upd_ne (ne_of_none a1 nC)).trans ((upd_ne hb).trans a1), a2, fun p' cv hcv => ?_⟩
      obtain ⟨c0, e1, e2⟩ := a3 p' cv hcv
      exact ⟨c0, e1, hE _ _ e2 codeO_ne⟩
  | some cv =>
    obtain ⟨c', e, hco⟩ := ha pos cv hc
    subst e
    refine kdv_makeTailHit (mg := X.mg) (c := c) (P := P) (ps := ps) (closure_ok hfree) I.ok.glob (I.mod.glob.keeps I.bk) hcode (TB.code.keeps I.bk) hP' ht hc bP fun ctv doc h' tk hx hsz => ?_
    exact last c' doc ctv H h' tk (I.kept hx) (ExtN.refl H) hT hco
end
end
/-! ### a kept lambda is entered -/
section
open PySem.W LamX PySem.Calls
/-- an address of a cell of the maker's -/
def isC (X : Cx) (c : Addr) : Prop := ∃ x, X.env.cells.lookup x = some c
open Classical in
/-- without the maker's cells -/
noncomputable def minC (X : Cx) (H : Hp) : Hp := fun b => if isC X b then none else H b
open Classical in
/-- with the cells as they stand in G -/
noncomputable def putC (X : Cx) (G H : Hp) : Hp := fun b => if isC X b then G b else H b
theorem minC_c {X : Cx} {H : Hp} {b : Addr} (h : isC X b) : minC X H b = none := if_pos h
theorem minC_n {X : Cx} {H : Hp} {b : Addr} (h : ¬ isC X b) : minC X H b = H b := if_neg h
theorem putC_c {X : Cx} {G H : Hp} {b : Addr} (h : isC X b) : putC X G H b = G b := if_pos h
theorem putC_n {X : Cx} {G H : Hp} {b : Addr} (h : ¬ isC X b) : putC X G H b = H b := if_neg h
/-- the maker's cells stand in the heap, with the values of its names -/
structure CellsAt (X : Cx) (σ : List (Option V)) (H : Hp) : Prop where
  all : ∀ c, isC X c → ∃ o w, H c = some (.frz o (.own 0)) ∧ o.data = .cell w
  at_ : ∀ (i : Nat) (x : Str) (v : V), X.N[i]? = some x → σ[i]? = some (some v) → (X.env.scope.names.lookup x = some .cell ∨ X.env.scope.names.lookup x = some .free) → ∃ c o u, X.env.cells.lookup x = some c ∧ H c = some (.frz o (.own 0)) ∧ o.data = .cell (some u) ∧ RelV v u
section
variable {X : Cx} {σ : L2.St} {HZ H' : Hp} {s : Shared}
theorem CellsAt.not_own (C : CellsAt X σ HZ) {b a : Addr} (h : HZ b = some (.own a)) : ¬ isC X b := fun z => by
  obtain ⟨o, w, e, _⟩ := C.all b z
  rw [h] at e
  cases e
theorem CellsAt.not_tup (C : CellsAt X σ HZ) {b : Addr} {xs : List V} (h : HZ b = some (.tup xs)) : ¬ isC X b := fun z => by
  obtain ⟨o, w, e, _⟩ := C.all b z
  rw [h] at e
  cases e
theorem CellsAt.not_tbl (C : CellsAt X σ HZ) {b : Addr} {xs : Array Value} (h : HZ b = some (.tbl xs)) : ¬ isC X b := fun z => by
  obtain ⟨o, w, e, _⟩ := C.all b z
  rw [h] at e
  cases e
theorem CellsAt.not_none (C : CellsAt X σ HZ) {b : Addr} (h : HZ b = none) : ¬ isC X b := fun z => by
  obtain ⟨o, w, e, _⟩ := C.all b z
  rw [h] at e
  cases e
theorem minC_none {b : Addr} (h : HZ b = none) : minC X HZ b = none := by
  by_cases z : isC X b
  · exact minC_c z
  · rw [minC_n z, h]
theorem minC_hok {P : Program} {w : World} {h : Heap} (C : CellsAt X σ HZ) (hok : HOk P w HZ h) : HOk P w (minC X HZ) h := by
  intro a o e
  have na : ¬ isC X a := fun z => by
    rw [minC_c z] at e
    cases e
  rw [minC_n na] at e
  refine (hok a o e).stay (fun b u _ q => q) (fun b q => ?_) fun b xs q => ?_
  · rw [minC_n (C.not_own q)]
    exact q
  · rw [minC_n (C.not_tup q)]
    exact q
theorem minC_env {P : Program} {w : World} {K : PySem.W.Frag} {mg : Str → Option Value} {base : Heap} {A : Around} {outer : List Env} (C : CellsAt X σ HZ) (e0 : Env0 P w K mg base A outer s HZ) : Env0 P w K mg base A outer s (minC X HZ) :=
  ⟨e0.frames, e0.mod, fun b o e => ⟨(e0.bs b o e).1, minC_none (e0.bs b o e).2⟩, e0.bsz, e0.funs, fun b hb => minC_none (e0.frf b hb), minC_hok C e0.hok, e0.bare⟩
/-- behind the lambda: the cells are put back -/
theorem putC_un {P : Program} {w : World} {K : PySem.W.Frag} {mg : Str → Option Value} {base : Heap} {A : Around} {outer : List Env} {h' : Heap} (C : CellsAt X σ HZ) (e0 : Env0 P w K mg base A outer s HZ) (un : Un (frs outer) [] (minC X HZ) H' s.heap h') :
    (∀ c, isC X c → H' c = none) ∧ Un (frs outer) [] HZ (putC X HZ H') s.heap h' := by
  have cell : ∀ c, isC X c → ∃ o, HZ c = some (.frz o (.own 0)) ∧ s.heap.get? c = some o := fun c hc => by
    obtain ⟨o, w, e, _⟩ := C.all c hc
    exact ⟨o, e, (show s.heap.get? c = some o ∧ _ from e0.hok c _ e).1⟩
  refine ⟨fun c hc => ?_, ⟨fun b o q n => un.keep b o q (minC_none n), fun b o q n => un.slot b o q (minC_none n), fun b o q n hx => ?_, un.there, fun b xs q => ?_, fun b o u q => ?_, fun b ps q => ?_⟩⟩
  · obtain ⟨o, e, g⟩ := cell c hc
    exact un.free c o g (minC_c hc) (by simp)
  · rw [putC_n (C.not_none n)]
    exact un.free b o q (minC_none n) hx
  · have nb := C.not_tup q
    rw [putC_n nb]
    exact un.tups b xs ((minC_n nb).trans q)
  · by_cases z : isC X b
    · rw [putC_c z]
      exact q
    · rw [putC_n z]
      exact un.frzs b o u ((minC_n z).trans q)
  · have nb := C.not_tbl q
    obtain ⟨more, e⟩ := un.tbls b ps ((minC_n nb).trans q)
    exact ⟨more, (putC_n nb).trans e⟩
theorem putC_hok {P : Program} {w : World} {h' : Heap} (C : CellsAt X σ HZ) (none_ : ∀ c, isC X c → H' c = none) (cells : ∀ c o, HZ c = some (.frz o (.own 0)) → isC X c → h'.get? c = some o) (hok : HOk P w H' h') : HOk P w (putC X HZ H') h' := by
  intro a o e
  by_cases z : isC X a
  · rw [putC_c z] at e
    obtain ⟨o1, w1, e1, _⟩ := C.all a z
    rw [e1] at e
    cases e
    exact ⟨cells a o1 e1 z, o1, cells a o1 e1 z⟩
  · rw [putC_n z] at e
    have out : ∀ {b : Addr} {u : HO}, H' b = some u → putC X HZ H' b = some u := fun {b u} q => by
      have nb : ¬ isC X b := fun y => by
        rw [none_ b y] at q
        cases q
      exact (putC_n nb).trans q
    exact (hok a o e).stay (fun b u _ q => q) (fun b q => out q) fun b xs q => out q
end
section
variable {X : Cx} {σ : L2.St} {HZ : Hp} {s1 : Shared}
theorem lq_start {A : Around} {outer : List Env} {E : XK} {scope : Scope} {f c' : Addr} {h₁ : Heap} {tk : Nat} {binds : List (Str × Value)} (ok : X.Ok) (len : σ.length = X.N.length) (L : LamQ X.N X.env.scope scope) (e0 : Env0 X.prog X.w X.K X.mg X.base A outer s1 HZ) (hd : A.handled = none)
    (C : CellsAt X σ HZ) (hns : h₁.Ns s1.heap.objs.size fun y => binds.reverse.lookup y) (kp : ∀ b o, s1.heap.get? b = some o → h₁.get? b = some o) :
    Inv (lamCx X A outer s1 (minC X HZ) E scope f c') [] σ (minC X HZ) { s1 with heap := h₁, toks := tk } := by
  have e1 := minC_env C e0
  have cm : ∀ {y c}, (cloFrom X.env.cells scope.names []).lookup y = some c → X.env.cells.lookup y = some c := by
    intro y c e
    rcases cloFrom_mem (PySem.mem_of_lookup e) with hm | ⟨h1, h2⟩
    · cases hm
    · obtain ⟨c1, hc⟩ := L.has ok h1 rfl
      have hc' : X.env.cells.lookup y = some c1 := hc
      have h3 : c = c1 := by
        rw [h2, hc'] <;> rfl
      exact h3 ▸ hc'
  have look : ∀ {y}, scope.names.lookup y = some .free → ∃ c, (cloFrom X.env.cells scope.names []).lookup y = some c := by
    intro y hl
    have hy : (y, NameKind.free) ∈ scope.names := PySem.mem_of_lookup hl
    exact mem_lookup (cloFrom_has (cells := X.env.cells) (acc := []) hy)
  have inC : ∀ {y c}, (cloFrom X.env.cells scope.names []).lookup y = some c → isC X c := fun {y c} e => ⟨y, cm e⟩
  have cellK : ∀ {c : Addr} {o : Obj} {v : Option Value}, HZ c = some (.frz o (.own 0)) → o.data = .cell v → h₁.IsCell c v := by
    intro c o v e d
    have g : s1.heap.get? c = some o ∧ _ := e0.hok c _ e
    exact ⟨o, kp _ _ g.1, d⟩
  have noA : ∀ b : Addr, b ∉ (lamCx X A outer s1 (minC X HZ) E scope f c').ex := fun b z => absurd (show b ∈ ([] : List Addr) from z) (by simp)
  refine ⟨⟨e1.mod, L.kind, rfl, rfl, Nat.le_refl _, fun y z c q1 q2 => ok.inj y z c (cm q1) (cm q2), fun y hy => ?_, fun y c z _ => ?_, fun _ => hd, Around.frames_deeper e1.frames, .inr ⟨rfl, rfl⟩, fun b z => absurd z (noA b), e1.bs, e1.bsz, fun b _ _ => noA b, fun b z => absurd z (noA b), e1.funs, e1.frf⟩,
    rfl, e1.bare, Un.kept kp, ⟨_, hns, fun i y v q1 q2 q3 => ?_⟩, fun y c e => ?_, e1.hok.fresh (Nat.le_refl _), fun y c e => minC_c (inC e), fun q hq => absurd (show q ∈ ([] : List (Addr × Obj)) ++ [] from hq) (by simp), e1.hok.kept kp, len⟩
  · have hy : scope.names.lookup y = some .cell ∨ scope.names.lookup y = some .free := hy
    rcases hy with hy | hy
    · exact absurd rfl (L.own _ (PySem.mem_of_lookup hy)).1
    · exact look hy
  · have z : false = true := z
    cases z
  · have q3 : Vis scope y := q3
    rcases q3 with k | k | k
    · exact absurd (List.mem_of_getElem? q1) ((L.own _ (PySem.mem_of_lookup k)).2 rfl)
    · exact absurd rfl (L.own _ (PySem.mem_of_lookup k)).1
    · obtain ⟨c2, h2⟩ := look k
      obtain ⟨c, o, u, g1, g2, g3, g4⟩ := C.at_ i y v q1 q2 (L.free _ (PySem.mem_of_lookup k) rfl)
      have c1 := cm h2
      rw [c1] at g1
      cases g1
      exact ⟨u, g4, .inr ⟨.inr k, c2, h2, cellK g2 g3⟩⟩
  · obtain ⟨o, w, g1, g2⟩ := C.all c (inC e)
    exact ⟨w, cellK g1 g2⟩
/-- how the lambda takes no argument; d: it has a default -/
def LqBind (ps : Arguments) (sc : Scope) (d : Bool) : Prop := ∃ binds : List Value → List (Str × Value), (∀ its, ∀ y ∈ binds its, sc.names.lookup y.1 = some .local) ∧
  ∀ (q : Str) (b : Expr) (cl : List (Str × Addr)) (doc pm cdv ct : Value), (d = false → bindArgs (kdv_fn "<lambda>" q ps (.expr b) sc cl .none doc pm cdv ct) ⟨[], []⟩ = pure (binds [])) ∧
   (d = true → ∀ T : Addr, ∃ k, bindArgs (kdv_fn "<lambda>" q ps (.expr b) sc cl (.ref T) doc pm cdv ct) ⟨[], []⟩ = seqItems? (.ref T) >>= k ∧ ∀ u, k (some #[u]) = pure (binds [u]))
end
end
/-! ### a kept lambda is called -/
section
open PySem.W LamX PySem.Calls
section
variable {X : Cx} {σ : L2.St} {HZ : Hp} {s : Shared}
theorem lq_items {its : List Value} {T : Addr} {k : Option (Array Value) → Sem (List (Str × Value))} {r : List (Str × Value)} {A : Around} {Q : List (Str × Value) → Shared → Prop} {E : Value → Shared → Prop} {P : Program} {w : World} {ob : Obj} {n : Nat}
    (ho : s.heap.get? T = some ob) (hd : ob.data = .seq its.toArray n) (e : k (some its.toArray) = pure r) (q : Q r s) : wpAny (model P w) A (seqItems? (.ref T) >>= k) Q E s := by
  refine wpAny_bind (wpAny_seqItems ho hd ?_)
  rw [e]
  exact wpAny_pure q
/-- from any place: the lambda at f is called -/
theorem lq_call {k : Nat} {A : Around} {outer : List Env} {d : Bool} {ps : Arguments} {body : Expr} {scope : Scope} {t : XK → TE} {f : Addr} {Q : VK} {E : XK} (ok : X.Ok) (len : σ.length = X.N.length) (L : LamQ X.N X.env.scope scope) (B : LqBind ps scope d)
    (hbody : ∀ (A : Around) (outer : List Env) (s : Shared) (H : Hp) (E : XK) (f c' : Addr), Room k (A.deeper (lamEnv X scope s.heap.objs.size f c')) → PE (lamCx X A outer s H E scope f c') body (t E))
    (hr : Room (k + 1) A) (e0 : Env0 X.prog X.w X.K X.mg X.base A outer s HZ) (C : CellsAt X σ HZ) (hf : LqAt X HZ d ps body scope f)
    (h : t (fun cls d H' => (∀ c, isC X c → H' c = none) → E cls d (putC X HZ H')) σ (minC X HZ) (fun v H' => (∀ c, isC X c → H' c = none) → Q v (putC X HZ H'))) :
    codeAny (model X.prog X.w) A (.call (.ref f) ⟨[], []⟩) (CR (L2.CX X.prog X.w) outer X.prog X.w HZ s Q E) s := by
  obtain ⟨dV, doc, pm, ct, c', h1, h2, h3⟩ := hf
  have ho := exv_at e0.hok h1
  obtain ⟨⟨oc, vs, tq, hoc, hdc, hvc⟩, _, _⟩ := e0.hok c' _ h2
  have cell : ∀ c o, HZ c = some (.frz o (.own 0)) → isC X c → s.heap.get? c = some o ∧ c ∉ frs outer := fun c o e hc => by
    refine ⟨(show s.heap.get? c = some o ∧ _ from e0.hok c _ e).1, fun z => ?_⟩
    rw [e0.frf c z] at e
    cases e
  refine PySem.W.kla_callFunE hr.depth ho rfl L.co L.gen rfl ⟨c', oc, vs, tq, rfl, hoc, hdc, hvc⟩ ?_
  obtain ⟨binds, b1, bB⟩ := B
  obtain ⟨b2, b3⟩ := bB (X.env.qual ++ "<lambda>") body (cloFrom X.env.cells scope.names []) doc pm (.ref c') ct
  have lim : s.heap.NoLimit := e0.mod.nolimit.keeps fun b o e => (e0.bs b o e).1
  have go : ∀ its : List Value, wpAny (model X.prog X.w) A.in1 (newFunctionEnv scope mainGlobals (cloFrom X.env.cells scope.names []) (binds its) ((X.env.qual ++ "<lambda>") ++ ".<locals>.") (some f) (.ref c') none builtinsNs)
      (fun env s₂ => s₂.heap.NoLimit ∧ codeAny (model X.prog X.w) A (.expr body env) (CR (L2.CX X.prog X.w) outer X.prog X.w HZ s Q E) s₂) (fun e s' => CR (L2.CX X.prog X.w) outer X.prog X.w HZ s Q E (.error e) s') s := by
    intro its
    refine wpAny_newFunctionEnv (fun y hy => (L.own y hy).1) (b1 its) (fun h₁ hns hsb => ⟨lim.fresh _ hsb, ?_⟩) L.kind
    show codeAny _ _ (.expr body (lamEnv X scope s.heap.objs.size f c')) _ _
    have kp : ∀ b o, s.heap.get? b = some o → h₁.get? b = some o := fun b o e => hsb.extBut b o (Nat.ne_of_lt (Heap.lt_size e)) (Heap.get?_push_of_some _ e)
    have J := lq_start (E := fun cls d H' => (∀ c, isC X c → H' c = none) → E cls d (putC X HZ H')) (f := f) (c' := c') (tk := s.toks + (binds its).length) ok len L e0 hr.hd C hns kp
    refine PySem.W.kla_codeExpr (wpAny_mono ((hbody A outer s (minC X HZ) _ f c' (hr.deeper _)).run [] _ _ _ _ J h) (fun v s' hq => ?_) fun e s' hq => ?_)
    · obtain ⟨w', H', J', rv, q⟩ := hq
      obtain ⟨nn, un⟩ := putC_un C e0 J'.base
      refine ⟨w', putC X HZ H', J'.os, J'.bare, un, putC_hok C nn (fun c o e hc => ?_) J'.hok, rv, q nn⟩
      obtain ⟨g1, g2⟩ := cell c o e hc
      exact J'.base.keep c o g1 (minC_c hc) g2 (fun z => absurd (show c ∈ ([] : List Addr) from z) (by simp))
    · refine wpAny_mono hq (fun _ s2 z => ?_) fun e2 s2 z => ?_
      all_goals
        obtain ⟨a, B0, H', cls, d, rfl, fl, hok, ub, na, os, ag, hE⟩ := z
        have nn : ∀ c, isC X c → H' c = none := fun c hc => by
          obtain ⟨o, w, e, _⟩ := C.all c hc
          exact ub.free c o (cell c o e hc).1 (minC_c hc)
        have B1 : ∀ c o, HZ c = some (.frz o (.own 0)) → isC X c → B0.get? c = some o := fun c o e hc => ub.keep c o (cell c o e hc).1 (minC_c hc) (cell c o e hc).2
        refine ⟨a, B0, putC X HZ H', cls, d, rfl, fl, putC_hok C nn B1 hok, ⟨fun b o q n => ub.keep b o q (minC_none n), ub.slot, fun b o q n => ?_, ub.there, fun b xs q => ?_, fun b o u q => ?_, fun b ps q => ?_⟩, ?_, os, ag, hE nn⟩
        · rw [putC_n (C.not_none n)]
          exact ub.free b o q (minC_none n)
        · have nb := C.not_tup q
          rw [putC_n nb]
          exact ub.tups b xs ((minC_n nb).trans q)
        · by_cases y : isC X b
          · rw [putC_c y]
            exact q
          · rw [putC_n y]
            exact ub.frzs b o u ((minC_n y).trans q)
        · have nb := C.not_tbl q
          obtain ⟨more, e⟩ := ub.tbls b ps ((minC_n nb).trans q)
          exact ⟨more, (putC_n nb).trans e⟩
        · by_cases y : isC X a
          · obtain ⟨o, w, e, _⟩ := C.all a y
            have g := B1 a o e y
            rw [fl.2.1] at g
            cases g
          · rw [putC_n y]
            exact na
  cases d with
  | false =>
    obtain rfl : dV = .none := h3
    rw [show bindArgs _ _ = _ from b2 rfl]
    exact wpAny_pure (go _)
  | true =>
    obtain ⟨T, e, hT⟩ := h3
    subst e
    obtain ⟨k', e1, e2⟩ := b3 rfl T
    rw [show bindArgs _ _ = _ from e1]
    obtain ⟨_, its, rv, ob, g1, g2, n, g3⟩ := (show ObjOk X.prog X.w HZ s.heap T (.tup [V.int 0]) from e0.hok T _ hT)
    cases rv with
    | cons r1 r2 =>
      cases r2
      exact lq_items (its := [_]) g1 g3 (e2 _) (go _)
end
/-! ### the lambda as a value -/
/-- at f: a lambda without arguments that is read as t tells -/
def LqT (X : Cx) (k : Nat) (t : XK → TE) (H : Hp) (f : Addr) : Prop := ∃ (d : Bool) (ps : Arguments) (body : Expr) (scope : Scope), LamQ X.N X.env.scope scope ∧ LqBind ps scope d ∧
  (∀ (A : Around) (outer : List Env) (s : Shared) (H : Hp) (E : XK) (f c' : Addr), Room k (A.deeper (lamEnv X scope s.heap.objs.size f c')) → PE (lamCx X A outer s H E scope f c') body (t E)) ∧ LqAt X H d ps body scope f
theorem LqT.keep {X : Cx} {k : Nat} {t : XK → TE} {H H' : Hp} {f : Addr} (h : LqT X k t H f) (s : Keep2 H H') : LqT X k t H' f := by
  obtain ⟨d, ps, body, scope, L, B, b, l⟩ := h
  exact ⟨d, ps, body, scope, L, B, b, l.keep s⟩
def tLq (X : Cx) (T : List (Addr × Str)) (k : Nat) (t : XK → TE) : TE := fun _ H Q => Tabs T H ∧ ∀ f H2, ExtN H H2 → Tabs T H2 → LqT X k t H2 f → Q (.ref f) H2
section
variable {X : Cx} {T : List (Addr × Str)} {c P : Addr} {k : Nat} {params : Arguments} {body : Expr} {scope : Scope} {pos : Pos} {t : XK → TE}
theorem pe_lq (TB : TabB X.base X.mg c P) (hcode : X.env.code = .ref c) (hm : (P, X.env.qual ++ "<lambda>") ∈ T) (hu : ∀ p ∈ T, p.1 = P → p.2 = X.env.qual ++ "<lambda>") (L : LamQ X.N X.env.scope scope) (B : LqBind params scope false)
    (hbody : ∀ (A : Around) (outer : List Env) (s : Shared) (H : Hp) (E : XK) (f c' : Addr), Room k (A.deeper (lamEnv X scope s.heap.objs.size f c')) → PE (lamCx X A outer s H E scope f c') body (t E))
    (hdef : defaultsOf params X.env = ([], []) := by rfl) : PE X (.Lambda params body scope pos) (tLq X T k t) := by
  refine ⟨fun pins s σ H Q I h => ?_⟩
  refine PySem.W.kla_eval hdef ?_
  rw [makeFunction_eq, List.zip_nil_right, List.filterMap_nil]
  simp only [List.isEmpty_nil, if_true, pure_bind]
  exact lq_make I TB hcode hm hu h.1 (fun y hy e => L.has I.ok hy e) (d := false) rfl fun f H2 s' I2 e1 t1 l => ⟨.ref f, H2, I2, rfl, h.2 f H2 e1 t1 ⟨false, params, body, scope, L, B, hbody, l⟩⟩
theorem pe_lqD {j : Nat} {cp : Pos} (TB : TabB X.base X.mg c P) (hcode : X.env.code = .ref c) (hm : (P, X.env.qual ++ "<lambda>") ∈ T) (hu : ∀ p ∈ T, p.1 = P → p.2 = X.env.qual ++ "<lambda>") (L : LamQ X.N X.env.scope scope) (B : LqBind params scope true)
    (hbody : ∀ (A : Around) (outer : List Env) (s : Shared) (H : Hp) (E : XK) (f c' : Addr), Room k (A.deeper (lamEnv X scope s.heap.objs.size f c')) → PE (lamCx X A outer s H E scope f c') body (t E))
    (hdef : defaultsOf params X.env = ([eval (.Constant (.int 0) j cp) X.env], []) := by rfl) : PE X (.Lambda params body scope pos) (tLq X T k t) := by
  refine ⟨fun pins s σ H Q I h => ?_⟩
  rw [arm_eval_Lambda, hdef]
  show wpAny _ _ (do let dv ← evalAll [eval (.Constant (.int 0) j cp) X.env]; let kdv ← holding dv (evalAllOpt []); makeFunction "<lambda>" (X.env.qual ++ "<lambda>") params (.expr body) scope X.env dv kdv [] pos pos.line) _ _ s
  refine wpAny_bind (wpAny_evalAll_cons (thn ((pe_int (X := X) (i := 0)).run pins s σ H (fun v H1 => v = .int 0 ∧ H1 = H) I ⟨rfl, rfl⟩) fun u s1 hq => ?_))
  obtain ⟨v, H1, I1, r1, rfl, rfl⟩ := hq
  refine wpAny_evalAll_nil (wpAny_bind (wpAny_holding (wpAny_pure ?_)))
  rw [makeFunction_eq, List.zip_nil_right, List.filterMap_nil]
  simp only [List.isEmpty_nil, if_true, pure_bind]
  rw [if_neg (show ¬ (([u] : List Value).isEmpty = true) from Bool.false_ne_true)]
  refine wpAny_bind (wpAny_newTextTuple ?_)
  have I2 : Inv X pins σ (upd H1 s1.heap.objs.size (.tup [V.int 0])) { s1 with heap := s1.heap.push { cls := .type "tuple", data := .seq [u].toArray }, toks := s1.toks } :=
    I1.laid (fun b w e => Heap.get?_push_of_some _ e) (Nat.le_refl _) ⟨Nat.le_trans (by decide : 1 ≤ 1000) (Nat.le_of_lt (small1000 (Nat.le_refl _))), [u], .cons r1 .nil, _, Heap.get?_push_size _ rfl, rfl, _, rfl⟩
  have nn : H1 s1.heap.objs.size = none := I1.hok.fresh (Nat.le_refl _)
  have sm := lq_sup (o := .tup [V.int 0]) nn
  exact lq_make I2 TB hcode hm hu (h.1.ext sm) (fun y hy e => L.has I.ok hy e) (d := true) ⟨_, rfl, upd_same⟩ fun f H2 s' I3 e1 t1 l => ⟨.ref f, H2, I3, rfl, h.2 f H2 ((ExtN.of sm).trans e1) t1 ⟨true, params, body, scope, L, B, hbody, l⟩⟩
end
end
/-! ### .. by a name of any def, and out of the maker -/
section
open PySem.W LamX PySem.Calls
/-- what the caller sees of a kept lambda's run -/
def tRun (X : Cx) (σ : List (Option V)) (t : XK → TE) (E : XK) (HZ : Hp) (Q : VK) : Prop := t (fun cls d H' => (∀ c, isC X c → H' c = none) → E cls d (putC X HZ H')) σ (minC X HZ) (fun v H' => (∀ c, isC X c → H' c = none) → Q v (putC X HZ H'))
section
variable {X : Cx} {σ : L2.St}
theorem pe_lqact {CXg : CXT} {Eg : XK} {Ng : List Str} {qg : Str} {sg : Scope} {g : Addr} {cdg : Value} {A0 : Around} {outer0 : List Env} {sE : Shared} {HE : Hp} {pn : List (Addr × Obj)} {xe : Value → Shared → Prop} {W : WX} {E : XK} {p1 p2 : Pos} {i k : Nat} {a : Str} {f : Addr} {t : XK → TE}
    (ok : X.Ok) (len : σ.length = X.N.length) (tk : Takes ((cxOf CXg X.prog X.w X.K X.mg X.base Ng qg sg g cdg A0 outer0 sE HE Eg).tr pn xe) W) (hW : ∀ cls d σ' H', E cls d H' → W cls d σ' H') (hr : Room (k + 1) (A0.deeper (envOfC qg sg sE.heap.objs.size g cdg)))
    (hN : Ng[i]? = some a) (hv : Vis sg a) (hd : (a == ("__debug__" : Str)) = false := by decide) (hcd : (a == ("__classdict__" : Str)) = false := by decide) :
    PE ((cxOf CXg X.prog X.w X.K X.mg X.base Ng qg sg g cdg A0 outer0 sE HE Eg).tr pn xe) (.Call (.Name a p1) [] [] p2)
      (fun σZ HZ Q => σZ[i]? = some (some (.ref f)) ∧ LqT X k t HZ f ∧ CellsAt X σ HZ ∧ tRun X σ t E HZ Q) := by
  refine ⟨fun pinsZ sZ σZ HZ Q IZ h => ?_⟩
  obtain ⟨hs, ⟨d, ps, body, scope, L, B, hbody, hl⟩, C, ht⟩ := h
  refine wpAny_Call_Name_kw (thn ((pe_var (pos := p1) (i := i) hN hv hd hcd).run pinsZ sZ σZ HZ (fun v H1 => v = .ref f ∧ H1 = HZ) IZ ⟨.ref f, hs, rfl, rfl⟩) fun u s1 hq => ?_)
  obtain ⟨v, H1, I1, r1, rfl, rfl⟩ := hq
  cases (show u = Value.ref f from r1)
  obtain ⟨dV, doc, pm, ct, c', h1, _⟩ := id hl
  refine PySem.W.callWith_F0 ⟨_, _, _, _, exv_at I1.hok h1⟩ ?_
  refine wpAny_call (codeAny_mono (lq_call (X := X) (E := E) (Q := Q) ok len L B hbody hr I1.env0 C hl ht) fun r s' hq => ?_)
  have hx : Passes (L2.CX X.prog X.w) ((cxOf CXg X.prog X.w X.K X.mg X.base Ng qg sg g cdg A0 outer0 sE HE Eg).tr pn xe) E := passes_call tk hW
  cases r with
  | error e => exact hx pinsZ σZ H1 s1 e s' I1 hq
  | ok fl =>
    cases fl with
    | ret u => exact I1.after hq
    | next => exact False.elim hq
    | brk => exact False.elim hq
    | cont => exact False.elim hq
end
/-! ### the maker calls a def with its cells told -/
open Classical in
/-- with the maker's cells as they stand in h -/
noncomputable def hpC (X : Cx) (h : Heap) (H : Hp) : Hp := fun b => if isC X b then (match h.get? b with | some o => some (.frz o (.own 0)) | none => none) else H b
theorem hpC_n {X : Cx} {h : Heap} {H : Hp} {b : Addr} (z : ¬ isC X b) : hpC X h H b = H b := if_neg z
theorem hpC_c {X : Cx} {h : Heap} {H : Hp} {b : Addr} {o : Obj} (z : isC X b) (e : h.get? b = some o) : hpC X h H b = some (.frz o (.own 0)) := by
  unfold hpC
  rw [if_pos z, e]
section
variable {X : Cx} {pins : List (Addr × Obj)} {σ : L2.St} {H : Hp} {s : Shared}
theorem hpC_cells (I : Inv X pins σ H s) : CellsAt X σ (hpC X s.heap H) := by
  refine ⟨fun c hc => ?_, fun i x v e1 e2 e3 => ?_⟩
  · obtain ⟨x, e⟩ := id hc
    obtain ⟨w, o, ho, hd⟩ := I.cell x c e
    exact ⟨o, w, hpC_c hc ho, hd⟩
  · obtain ⟨m, hn, hl⟩ := I.loc
    obtain ⟨u, r, q⟩ := hl i x v e1 e2 (e3.elim (fun z => .inr (.inl z)) fun z => .inr (.inr z))
    rcases q with ⟨k', _⟩ | ⟨_, c, e', o, ho, hd⟩
    · have k' : X.env.scope.names.lookup x = some .local := k'
      rcases e3 with k2 | k2 <;> rw [k2] at k' <;> cases k'
    · exact ⟨c, o, u, e', hpC_c ⟨x, e'⟩ ho, hd, r⟩
theorem hpC_keep (I : Inv X pins σ H s) : ∀ b o, H b = some o → hpC X s.heap H b = some o := fun b o e => by
  have nb : ¬ isC X b := fun ⟨x, z⟩ => by
    rw [I.freeC x b z] at e
    cases e
  rw [hpC_n nb]
  exact e
theorem hpC_hok (I : Inv X pins σ H s) : HOk X.prog X.w (hpC X s.heap H) s.heap := by
  intro a o e
  by_cases z : isC X a
  · obtain ⟨x, ex⟩ := id z
    obtain ⟨w, ob, ho, hd⟩ := I.cell x a ex
    rw [hpC_c z ho] at e
    cases e
    exact ⟨ho, ob, ho⟩
  · rw [hpC_n z] at e
    exact (I.hok a o e).stay (fun b u _ q => q) (fun b q => hpC_keep I _ _ q) fun b xs q => hpC_keep I _ _ q
theorem cell_out (hfn : ∀ x, X.fn x = true) (I : Inv X pins σ H s) {b : Addr} (z : isC X b) : X.base.get? b = none ∧ b ∉ frs X.stack := by
  obtain ⟨x, e⟩ := z
  have ge : X.s_0.heap.objs.size ≤ b := I.ok.cab x b (hfn x) e
  have out : b ∉ frs X.outer := fun hb => by
    obtain ⟨_, o, ho, _⟩ := I.ok.funs.mem hb
    exact Nat.lt_irrefl _ (Nat.lt_of_lt_of_le (Heap.lt_size ho) ge)
  refine ⟨Heap.get?_none_of_le (Nat.le_trans I.ok.bsz ge), ?_⟩
  rcases I.ok.stk with h | ⟨h, hf⟩
  · rw [h]
    exact out
  · rw [h]
    intro hb
    have hb' : b ∈ (X.env :: X.outer).filterMap (·.frame) := hb
    rw [List.filterMap_cons, hf] at hb'
    rcases List.mem_cons.mp hb' with e2 | e2
    · obtain ⟨v, o, ho, hd⟩ := I.cell x b e
      obtain ⟨m, ⟨o2, es, ep, ho2, hd2, _⟩, _⟩ := I.loc
      rw [e2, ho2] at ho
      cases ho
      rw [hd2] at hd
      cases hd
    · exact out e2
theorem hpC_env (hfn : ∀ x, X.fn x = true) (I : Inv X pins σ H s) : Env0 X.prog X.w X.K X.mg X.base X.A X.stack s (hpC X s.heap H) := by
  have e0 := I.env0
  refine ⟨e0.frames, e0.mod, fun b o e => ⟨(e0.bs b o e).1, ?_⟩, e0.bsz, e0.funs, fun b hb => ?_, hpC_hok I, e0.bare⟩
  · have nb : ¬ isC X b := fun z => by
      have q := (cell_out hfn I z).1
      rw [e] at q
      cases q
    rw [hpC_n nb]
    exact (e0.bs b o e).2
  · have nb : ¬ isC X b := fun z => (cell_out hfn I z).2 hb
    rw [hpC_n nb]
    exact e0.frf b hb
theorem hpC_after {Q : VK} {u : Value} {s' : Shared} (I : Inv X pins σ H s) (h : CE X.stack X.prog X.w (hpC X s.heap H) s (fun v H' => Q v (minC X H')) u s') : EP X pins σ Q u s' := by
  obtain ⟨v, H', os, bare, un, hok, r, q⟩ := h
  have C := hpC_cells I
  have back : ∀ c, isC X c → ∃ o, H' c = some (.frz o (.own 0)) ∧ hpC X s.heap H c = some (.frz o (.own 0)) := fun c hc => by
    obtain ⟨o, w, e, _⟩ := C.all c hc
    exact ⟨o, un.frzs c o _ e, e⟩
  have nn : ∀ {b : Addr} {o : HO}, H b = some o → ¬ isC X b := fun {b o} e ⟨x, z⟩ => by
    rw [I.freeC x b z] at e
    cases e
  refine I.after ⟨v, minC X H', os, bare, ⟨fun b o g n hf hx => ?_, fun b o g n hf hx => ?_, fun b o g n hx => ?_, un.there, fun b xs e => ?_, fun b o u e => ?_, fun b ps e => ?_⟩, ?_, r, q⟩
  · by_cases z : isC X b
    · obtain ⟨o1, e1, e2⟩ := back b z
      have g1 : s.heap.get? b = some o1 ∧ _ := hpC_hok I b _ e2
      have g2 : s'.heap.get? b = some o1 ∧ _ := hok b _ e1
      rw [g1.1] at g
      cases g
      exact g2.1
    · exact un.keep b o g ((hpC_n z).trans n) hf hx
  · by_cases z : isC X b
    · obtain ⟨o1, e1, e2⟩ := back b z
      have g1 : s.heap.get? b = some o1 ∧ _ := hpC_hok I b _ e2
      have g2 : s'.heap.get? b = some o1 ∧ _ := hok b _ e1
      rw [g1.1] at g
      cases g
      exact ⟨o.slots, g2.1⟩
    · exact un.slot b o g ((hpC_n z).trans n) hf hx
  · by_cases z : isC X b
    · exact minC_c z
    · rw [minC_n z]
      exact un.free b o g ((hpC_n z).trans n) hx
  · rw [minC_n (nn e)]
    exact un.tups b xs ((hpC_n (nn e)).trans e)
  · rw [minC_n (nn e)]
    exact un.frzs b o u ((hpC_n (nn e)).trans e)
  · rw [minC_n (nn e)]
    exact un.tbls b ps ((hpC_n (nn e)).trans e)
  · intro a o e
    have na : ¬ isC X a := fun z => by
      rw [minC_c z] at e
      cases e
    rw [minC_n na] at e
    have nc : ∀ {b : Addr} {u : HO}, H' b = some u → (∀ o v, u ≠ .frz o v) → minC X H' b = some u := fun {b u} e2 n2 => by
      have nb : ¬ isC X b := fun z => by
        obtain ⟨o1, e1, _⟩ := back b z
        rw [e1] at e2
        exact n2 _ _ (Option.some.inj e2).symm
      rw [minC_n nb]
      exact e2
    exact (hok a o e).stay (fun b u _ q => q) (fun b q => nc q fun _ _ z => by cases z) fun b xs q => nc q fun _ _ z => by cases z
theorem minC_hpC (I : Inv X pins σ H s) : minC X (hpC X s.heap H) = H := by
  funext b
  by_cases z : isC X b
  · rw [minC_c z]
    obtain ⟨x, e⟩ := z
    exact (I.freeC x b e).symm
  · rw [minC_n z, hpC_n z]
end
end
/-! ### a static method, called of its class -/
structure SMet (K : PySem.W.Frag) (C : Addr) (mc : Value) (m : Str) (p g : Addr) : Prop where
  rd : PySem.W.readsIn K C mc = true
  ga : PySem.W.specialIn K (.ref C) "__getattribute__" = some (some (.builtin "type.__getattribute__"))
  at_ : PySem.W.findCls K (.ref C) mc m = some (.get (.builtin "staticmethod.__get__") (.ref p) .none (.ref C))
  rc : ∃ rest, PySem.W.recIn K p "staticmethod" = some (.ref g :: rest)
  kp : PySem.W.keepIn K (.ref g) = true
def tSMeth (C : Addr) (sp : Sp) (dvs : List V) (E : XK) (ta : TE) (t : TA) : TE := fun σ H Q => ta σ H fun x H1 => x = .ref C ∧ t σ H1 fun vs H2 => sp (vs ++ dvs) H2 Q E
theorem pe_smeth {X : Cx} {CX : CXT} {k : Nat} {C p g : Addr} {mc : Value} {fd : FuncData} {ps : List Str} {ds : List Value} {dvs : List V} {sp : Sp} {E : XK} {o e : Expr} {es : List Expr} {m : Str} {pos apos : Pos} {ta : TE} {t : TA} {pl : Sem Bool} (he : PE X o ta) (c : SMet X.K C mc m p g)
    (F : FnOk X.prog X.w X.K X.mg X.base CX k g fd ps sp) (hr : Room k X.A) (hb : Binds X.K fd ps ds) (hd : Vals dvs ds) (hx : Passes CX X E) (ha : PA X (e :: es) t)
    (hst : starEach (e :: es) X.env = (false, eval e X.env) :: starEach es X.env := by rfl) (hpl : (backTo pos (starEach es X.env)).any (·.1) = false := by rfl)
    (ht : eval (.Call (.Attribute o m apos) (e :: es) [] pos) X.env = (do
      let ov ← eval o X.env
      standAt apos.atName
      let (f, first) ← holding [ov] (getMethod ov m pl)
      callWith pos f first (backTo pos (starEach (e :: es) X.env)) (backToKw pos (keywordEach [] X.env))) := by rfl) :
    PE X (.Call (.Attribute o m apos) (e :: es) [] pos) (tSMeth C sp dvs E ta t) := by
  refine ⟨fun pins s σ H Q I h => ?_⟩
  refine PySem.W.methodCall_KW (pl := pl) (thn (he.run pins s σ H _ I h) fun u s1 ⟨x, H1, I1, rx, ex, q⟩ => ?_) ht
  subst ex
  cases (show u = Value.ref C from rx)
  obtain ⟨rest, hp⟩ := c.rc
  refine PySem.W.method_cls I1.kIn c.ga (PySem.W.cls_bind I1.kIn c.rd c.at_ (wpAny_call (PySem.W.sm_get (s := { s1 with toks := s1.toks + 1 }) I1.kIn hp (PySem.W.handed_on rfl ?_))))
  have I2 : Inv X pins σ H1 { s1 with toks := s1.toks + 1 } := I1.tok _
  refine PySem.W.callWith_K (h₀ := X.base) I2.ok.mod.kin c.kp (thn (ha.run pos pins _ σ H1 _ I2 q) fun us s3 ⟨vs, H2, I3, rv, q2⟩ => ⟨I3.kIn, ?_⟩) hst hpl
  exact run_fn F hr hb hd hx I3 rv q2
/-! ### a number kept in a class -/
structure ClsI (K : PySem.W.Frag) (C : Addr) (mc : Value) (m : Str) (i : Int) (t : Tok) : Prop where
  rd : PySem.W.readsIn K C mc = true
  at_ : PySem.W.findCls K (.ref C) mc m = some (.val (.int i t))
theorem pe_clsI {X : Cx} {C : Addr} {mc : Value} {o : Expr} {m : Str} {i : Int} {t : Tok} {pos : Pos} {ta : TE} (c : ClsI X.K C mc m i t) (he : PE X o ta) (hb : attributeBase o m X.env (eval o X.env) = eval o X.env := by rfl) :
    PE X (.Attribute o m pos) (fun σ H Q => ta σ H fun x H1 => x = .ref C ∧ Q (.int i) H1) := by
  refine ⟨fun pins s σ H Q I h => ?_⟩
  refine attr_of hb (thn (he.run pins s σ H _ I h) fun u s1 ⟨x, H1, I1, rx, ex, q⟩ => ?_)
  subst ex
  cases (show u = Value.ref C from rx)
  exact PySem.W.cls_value I1.kIn c.rd c.at_ rfl ⟨.int i, H1, I1.tok _, ⟨_, rfl⟩, q⟩
/-! ### list(text); text * number -/
theorem call_list_text {X : Cx} (hc : X.calm = true) : CallR X (.type "list") (fun xs H Q => ∃ z : Str, xs = [.str z] ∧ z.length ≤ sizeLine ∧ ∀ p, H p = none → Q (.ref p) (upd H p (.lst (z.cps.toList.map fun c => V.str ⟨#[c]⟩)))) := by
  intro pn s σ H xs us Q I r h
  obtain ⟨z, e, hz, q⟩ := h
  subst e
  obtain ⟨u, eu, rx⟩ := vals1 r
  subst eu
  obtain ⟨t, rfl⟩ := rx
  refine call_list_str (I.ok.hd hc) z t (fun h' tk acc' c' hkeep hS hacc => ?_) hz
  refine ⟨.ref s.heap.objs.size, upd H s.heap.objs.size (.lst (z.cps.toList.map fun c => V.str ⟨#[c]⟩)), I.laid hkeep (Nat.le_refl _) (show ObjOk X.prog X.w _ _ _ (.lst (z.cps.toList.map fun c => V.str ⟨#[c]⟩)) from ⟨?_, acc'.toList, c', ?_, ?_⟩), rfl, q _ (I.hok.fresh (Nat.le_refl _))⟩
  · rw [List.length_map]
    exact hz
  · refine vals_of_idx _ _ (by rw [List.length_map, Array.length_toList, Array.length_toList, hacc.1]) fun j v hj => ?_
    obtain ⟨c, u, hc2, rfl⟩ := hacc.2 j v (by rw [← Array.getElem?_toList]; exact hj)
    refine ⟨.str ⟨#[c]⟩, ?_, ⟨_, rfl⟩⟩
    rw [List.getElem?_map, Array.getElem?_toList, hc2]
    rfl
  · exact hS
theorem op_mul_str {X : Cx} : OpR X (binaryOp .Mult) (fun x y H Q => ∃ (z : Str) (n : Int), x = .str z ∧ y = .int n ∧ MulOk z n ∧ Q (.str (Txt.mul z n)) H) := by
  intro pn s σ H x y v u Q I rx ry h
  obtain ⟨z, n, rfl, rfl, hz, q⟩ := h
  obtain ⟨t, rfl⟩ := rx
  obtain ⟨t', rfl⟩ := ry
  exact PySem.SB.mul hz fun t' tk => ⟨.str (Txt.mul z n), H, I.tok _, ⟨_, rfl⟩, q⟩
/-! ### sets of texts: what an add keeps -/
open PySem.Froz
structure TxW (P : Program) (w : World) (D : SD) (l : List Str) : Prop where
  ok : TxOk P w D l
  ris : Ris D.2.2.place.toList
  led : w.params.followText "set-order" = true ∨ D.2.2.led = true
theorem tail_keeps {ep : Nat} {es : Array (Int × Value)} {t : SetTable} {b : Bool} (r : Ris t.place.toList) : Ris (tailTx ep es t b).2.2.place.toList ∧ (tailTx ep es t b).2.2.led = t.led := by
  unfold tailTx
  split
  · exact ⟨relayAll_ris t es _, relayAll_led t es _⟩
  · exact ⟨r, rfl⟩
theorem add_keeps {D : SD} {h : Int} {v : Value} (r : Ris D.2.2.place.toList) : Ris (addTx h v D).2.2.place.toList ∧ (addTx h v D).2.2.led = D.2.2.led := by
  have r1 := layNew_ris D.2.2 D.1 h v r
  have l1 := layNew_led D.2.2 D.1 h v
  have key : ∀ t : SetTable, Ris t.place.toList → t.led = D.2.2.led → Ris (if t.plain = true then { t with plain := false } else t).place.toList ∧ (if t.plain = true then { t with plain := false } else t).led = D.2.2.led := fun t a b => by
    split <;> exact ⟨a, b⟩
  obtain ⟨k1, k2⟩ := key _ r1 l1
  obtain ⟨t1, t2⟩ := tail_keeps (ep := D.2.1) (es := (layNew D.2.2 D.1 h v).1) (b := (layNew D.2.2 D.1 h v).2.2.1) k1
  exact ⟨t1, t2.trans k2⟩
theorem TxW.add {P : Program} {w : World} {D : SD} {l : List Str} {k : Str} (u : Tok) (F : TxW P w D l) : TxW P w (addTx (hashStr w k) (.str k u) D) (k :: l) := by
  obtain ⟨a, b⟩ := add_keeps (D := D) (h := hashStr w k) (v := .str k u) F.ris
  exact ⟨add_ok u F.ok, a, F.led.imp id fun z => b.trans z⟩
section
variable {A : Around} {s : Shared} {P : Program} {w : World} {E : Value → Shared → Prop}
/-- a text that is there already -/
theorem add_there {a : Addr} {T : String} {D : SD} {l : List Str} {k : Str} {u : Tok} {Q : Bool → Shared → Prop} (ho : s.heap.get? a = some (sObj T D)) (F : TxOk P w D l) (hk : k ∈ l) (hb : l.length < scanBound)
    (h : Q false s) : wpAny (model P w) A (setAddHashed a (.str k u) (hashStr w k)) Q E s := by
  obtain ⟨es, ep, t⟩ := D
  obtain ⟨el, mem, sz, fit⟩ := F
  obtain ⟨e, he, hp⟩ := (mem k).mp hk
  have small : es.size < scanBound := Nat.lt_of_le_of_lt (Nat.le_of_eq sz) hb
  obtain ⟨j, hj⟩ : ∃ j, List.findIdx? (fun e => (strKind P w).is k e.2) es.toList = some j := by
    cases q : List.findIdx? (fun e => (strKind P w).is k e.2) es.toList with
    | some j => exact ⟨j, rfl⟩
    | none =>
      have c := List.findIdx?_eq_none_iff.mp q e he
      rw [hp] at c
      cases c
  unfold setAddHashed; unfold setAddHashedIn
  refine wpAny_holding (wpAny_bind (wpAny_setState_of ho (ep := ep) (es := es) (t := t) rfl fit ?_))
  dsimp only
  rw [byScan_of rfl small el, if_pos rfl]
  unfold setAddByScan
  refine wpAny_bind (wpAny_bind (wpAny_rule (wpAny_bind (wpAny_setScan_of (knd := strKind P w) (k := k) (is_str k u) ho rfl fit el ?_))))
  rw [hj]
  exact wpAny_pure <| wpAny_pure h
/-- either way -/
def ins (k : Str) (l : List Str) : List Str := if k ∈ l then l else k :: l
theorem add_any {a : Addr} {T : String} {D : SD} {l : List Str} {k : Str} {u : Tok} {Q : Bool → Shared → Prop} (ho : s.heap.get? a = some (sObj T D)) (F : TxW P w D l) (hb : l.length + 1 < scanBound)
    (h : ∀ b h' D', TxW P w D' (ins k l) → h'.get? a = some (sObj T D') → (∀ c o, c ≠ a → s.heap.get? c = some o → h'.get? c = some o) → h'.objs.size = s.heap.objs.size → Q b { s with heap := h' }) : wpAny (model P w) A (setAddHashed a (.str k u) (hashStr w k)) Q E s := by
  by_cases hk : k ∈ l
  · refine add_there ho F.ok hk (by omega) (h false s.heap D ?_ ho (fun _ _ _ e => e) rfl)
    unfold ins
    rw [if_pos hk]
    exact F
  · refine add_x ho F.ok hk hb (h true _ _ ?_ (get_upd _ ho rfl) (fun c o hc e => ?_) ?_)
    · unfold ins
      rw [if_neg hk]
      exact F.add u
    · exact (Heap.get?_update_other _ _ (Ne.symm hc)).trans e
    · exact Heap.size_update _ _ _
end
def insAll : List Str → List Str → List Str
  | [], l => l
  | x :: xs, l => insAll xs (ins x l)
theorem ins_len (x : Str) (l : List Str) : (ins x l).length ≤ l.length + 1 := by
  unfold ins
  split
  · omega
  · exact Nat.le_refl _
theorem ins_mem (x y : Str) (l : List Str) : y ∈ ins x l ↔ y = x ∨ y ∈ l := by
  unfold ins
  split
  · rename_i h
    exact ⟨.inr, fun z => z.elim (fun e => e ▸ h) id⟩
  · exact List.mem_cons
theorem ins_nodup {x : Str} {l : List Str} (h : l.Nodup) : (ins x l).Nodup := by
  unfold ins
  split
  · exact h
  · rename_i n
    exact List.nodup_cons.mpr ⟨n, h⟩
theorem insAll_mem (y : Str) : ∀ xs l : List Str, y ∈ insAll xs l ↔ y ∈ xs ∨ y ∈ l
  | [], l => by simp [insAll]
  | x :: xs, l => by
    show y ∈ insAll xs (ins x l) ↔ _
    rw [insAll_mem y xs, ins_mem, List.mem_cons]
    constructor
    · rintro (h | h | h)
      · exact .inl (.inr h)
      · exact .inl (.inl h)
      · exact .inr h
    · rintro ((h | h) | h)
      · exact .inr (.inl h)
      · exact .inl h
      · exact .inr (.inr h)
theorem insAll_nodup : ∀ (xs : List Str) {l : List Str}, l.Nodup → (insAll xs l).Nodup
  | [], _, h => h
  | _ :: xs, _, h => insAll_nodup xs (ins_nodup h)
theorem insAll_len : ∀ (xs l : List Str), (insAll xs l).length ≤ xs.length + l.length
  | [], l => by simp [insAll]
  | x :: xs, l => by
    have h1 := insAll_len xs (ins x l)
    have h2 := ins_len x l
    show (insAll xs (ins x l)).length ≤ xs.length + 1 + l.length
    omega
section
variable {prog : Program} {w : World} {A : Around} {R : Result → Shared → Prop} {I : Addr} {fp wr : List Addr} {G : Array GenState → Array GenState → Prop} {n : Nat} {Pv : Nat → Value → Prop} {St : Nat → Shared → Prop}
theorem upd_loop (W : WalksS prog w A.in1 I fp wr G n Pv St) (a : Addr) (hf : a ∉ fp) (xs : List Str) (hl : xs.length = n) (hv : ∀ i v, Pv i v → ∃ t, v = .str (xs.getD i Str.empty) t) (hb : n + 1 < scanBound) :
    ∀ (k i : Nat) (s : Shared) (D : SD) (l : List Str), n - i = k → i ≤ n → l.length ≤ i → St i s → s.heap.get? a = some (sObj "set" D) → TxW prog w D l →
      (∀ s' D', Moved (a :: wr) G s s' → s'.heap.get? a = some (sObj "set" D') → TxW prog w D' (insAll (xs.drop i) l) → R (.ok (.ret .none)) s') →
      codeAny (model prog w) A (.builtin "set.update.loop" ⟨[.ref a, .ref I], []⟩) R s := by
  have haw : a ∉ wr := fun h => hf (W.sub _ h)
  have more : ∀ b ∈ wr, b ∈ a :: wr := fun b h => List.mem_cons_of_mem _ h
  intro k
  induction k with
  | zero =>
    intro i s D l hk hi _ hst ho F hR
    have e : i = n := by omega
    refine codeAny_builtin PyProof.Rows.F.entry_set_update_loop (by
      rw [(Around.under_plainId PyProof.Rows.F.plain_set_update_loop _)]
      refine wpAny_bind (W.done s _ _ (e ▸ hst) fun s' hm => wpAny_pure (hR s' D (hm.mono more) (hm.heap a _ haw ho) ?_))
      rw [e, ← hl, List.drop_length]
      exact F)
  | succ k ih =>
    intro i s D l hk hi hll hst ho F hR
    have lt : i < n := by omega
    refine codeAny_builtin PyProof.Rows.F.entry_set_update_loop (by
      rw [(Around.under_plainId PyProof.Rows.F.plain_set_update_loop _)]
      refine wpAny_bind (W.item i s _ _ lt hst fun v s1 hp hst1 hm => ?_)
      obtain ⟨t, rfl⟩ := hv i v hp
      have ho1 := hm.heap a _ haw ho
      show wpAny _ A.in1 (holding [Value.str (xs.getD i Str.empty) t] (setAdd a (.str (xs.getD i Str.empty) t)) >>= _) _ _ s1
      refine wpAny_bind (wpAny_holding (by
        unfold setAdd
        refine wpAny_holding (wpAny_bind ((strKind prog w).pyHash (k := xs.getD i Str.empty) (is_str _ _) ?_))
        refine add_any (s := { s1 with toks := s1.toks + 1 }) ho1 F (by omega) fun b h2 D2 F2 ho2 oth sz => ?_
        have hd : xs.drop i = xs.getD i Str.empty :: xs.drop (i + 1) := by
          have : i < xs.length := by omega
          rw [List.drop_eq_getElem_cons this]
          congr 1
          rw [List.getD_eq_getElem?_getD, List.getElem?_eq_getElem this]
          rfl
        have il := ins_len (xs.getD i Str.empty) l
        refine wpAny_pure ⟨plainId_quiet PyProof.Rows.F.plain_set_update_loop _, ih (i + 1) _ D2 _ (by omega) lt (by omega) (W.frame _ s1 _ _ hst1 (Nat.le_succ _) fun b hb o e => oth b o (fun z => hf (z ▸ hb)) e) ho2 F2 fun s3 D3 hm3 ho3 F3 => ?_⟩
        refine hR s3 D3 (Moved.trans W.gtrans ((hm.mono more).then_heap (Nat.le_succ _) fun b o hb e => oth b o (fun z => hb (by rw [z]; exact List.mem_cons_self)) e) hm3) ho3 ?_
        rw [hd]
        exact F3)))
end
section
variable {A : Around} {s : Shared} {prog : Program} {w : World} {E : Value → Shared → Prop}
/-- a new set's table -/
abbrev tb0 (w : World) : SetTable := .fresh 0 0 (!w.params.followText "set-order")
theorem new_keeps (P : Program) (w : World) : TxW P w (#[], 0, tb0 w) [] := by
  refine ⟨TxOk.nil (by rfl), List.Pairwise.nil, ?_⟩
  show (_ ∨ (!w.params.followText "set-order") = true)
  cases w.params.followText "set-order" <;> simp
theorem code_new1 (x : Value) {Q₁ : Value → Shared → Prop} (h : Q₁ (.ref s.heap.objs.size) { s with heap := s.heap.push (sObj "set" (#[], 0, tb0 w)) }) :
    codeAny (model prog w) A (.call (.builtin "set.__new__") ⟨[.type "set", x], []⟩) (wants Q₁ E) s := by
  refine codeAny_of_tree (wpAny_bind (wpAny_of_eq (PySem.F.newCall_set_1 x) (wpAny_pure ⟨plainId_quiet PySem.F.plain_set_new _, codeAny_builtin PySem.F.entry_set_new (by
    rw [Around.under_plainId PySem.F.plain_set_new _]
    unfold Builtin.«set.__new__»; unfold Builtin.Frozenset.newClass
    have self := PySem.sub_set_self
    obtain ⟨hp0, g0, d0, tk0, os0⟩ := s
    dsimp only
    wp_walk
    refine wpAny_askSetting (wpAny_pure (by
      dsimp only
      simp only [newObj]
      exact wpAny_bind (wpAny_alloc (wpAny_pure (wpAny_pure h))))))⟩)))
theorem str_at : ∀ {us : List Value} {ys : List Str}, StrsAre us ys → ∀ (i : Nat) (v : Value), us[i]? = some v → ∃ t, v = .str (ys.getD i Str.empty) t
  | _, _, .cons y t _, 0, v, e => ⟨t, (Option.some.inj e).symm⟩
  | _, _, .cons _ _ r, i + 1, v, e => str_at r i v e
theorem call_set_texts {l : Addr} {items : Array Value} {xs : List Str} {Q : Value → Shared → Prop} (hh : A.handled = none) (hl : s.heap.IsList l items) (hi : StrsAre items.toList xs) (hb : xs.length + 1 < scanBound)
    (h : ∀ (h' : Heap) (tk : Nat) (D : SD), TxW prog w D (insAll xs []) → h'.get? s.heap.objs.size = some (sObj "set" D) → (∀ b o, b < s.heap.objs.size → s.heap.get? b = some o → h'.get? b = some o) → Q (.ref s.heap.objs.size) { s with heap := h', toks := tk }) :
    (wpAny (model prog w) A (call (.type "set") [.ref l]) Q E s) := by
  obtain ⟨c, tl, mro⟩ := PySem.F.called_set.mro
  have made := PySem.F.called_set.made; have subs := PySem.F.called_set.sub
  refine wpAny_call (codeAny_of_tree (wpAny_pure ⟨Code.quiet_builtin _ (by decide +kernel), codeAny_builtin PySem.F.entry_type_call (by
    rw [(Around.under_plain (weight_type_call_type "set" [.ref l] []) rfl)]
    have n1 := PySem.F.called_set.notType; have n2 := PySem.F.called_set.canCreate; have n3 := PySem.F.typeCall_set_1 (.ref l)
    repeat (any_goals first | assumption | wp_step)
    refine codeAny_mono (code_new1 (.ref l) (E := E) (Q₁ := fun obj s1 => obj = .ref s.heap.objs.size ∧ s1 = { s with heap := s.heap.push (sObj "set" (#[], 0, tb0 w)) }) ⟨rfl, rfl⟩) fun r s1 hr => ?_
    match r, hr with
    | .error e, hr => exact hr
    | .ok (.ret obj), hr =>
      obtain ⟨rfl, rfl⟩ := hr
      have hN : (s.heap.push (sObj "set" (#[], 0, tb0 w))).get? s.heap.objs.size = some (sObj "set" (#[], 0, tb0 w)) := Heap.get?_push_size _ rfl
      have hT : Shared.TypeIs { s with heap := s.heap.push (sObj "set" (#[], 0, tb0 w)) } (.ref s.heap.objs.size) "set" := ⟨_, hN, rfl⟩
      have i1 := PySem.F.called_set.init.lookup; have i2 := PySem.F.called_set.init.bind (.ref s.heap.objs.size)
      repeat (any_goals first | assumption | wp_step)
      refine codeAny_mono (codeAny_call_builtin (R := wants (fun r s2 => r = .none ∧ ∃ h' tk D, s2 = { s with heap := h', toks := tk } ∧ TxW prog w D (insAll xs []) ∧ h'.get? s.heap.objs.size = some (sObj "set" D) ∧
          (∀ b o, b < s.heap.objs.size → s.heap.get? b = some o → h'.get? b = some o)) E) PySem.F.called_set.init.plain PySem.F.entry_set_init (check_set_init_1 hT ?_)) fun r2 s2 hr2 => ?_
      · obtain ⟨⟨oc, od, da, os⟩, ho, hc, nl, hd⟩ := hl
        simp only at hc hd
        subst hc hd
        have ho2 : (s.heap.push (sObj "set" (#[], 0, tb0 w))).get? l = some { cls := .type "list", dict := od, data := .seq items nl, slots := os } := Heap.get?_push_of_some _ ho
        have q1 := PySem.F.sub_list_set; have q2 := PySem.F.sub_list_frozenset; have q3 : (Value.type "list" == Value.type "dict") = false := by decide
        have hl1 : (s.heap.push (sObj "set" (#[], 0, tb0 w))).IsList l items := ⟨_, ho2, rfl, nl, rfl⟩
        unfold Builtin.«set.__init__»; unfold noKeywords; unfold Builtin.Frozenset.updateFrom
        generalize hPI : pyIter = PI
        wp_walk
        subst hPI
        refine wpAny_pyIter_list hl1 (wpAny_bind (wpAny_runValue ?_))
        have lS : l < s.heap.objs.size := Heap.lt_size ho
        have h3 : A.in1.in1.in1.handled = none := by simp [hh]
        have neI : l ≠ (s.heap.push (sObj "set" (#[], 0, tb0 w))).objs.size := by
          rw [Heap.size_push]
          exact Nat.ne_of_lt (Nat.lt_succ_of_lt lS)
        have nfp : s.heap.objs.size ∉ [(s.heap.push (sObj "set" (#[], 0, tb0 w))).objs.size, l] := by
          rw [Heap.size_push]
          intro z
          rcases (List.mem_cons.mp z) with z | z
          · omega
          · rw [List.mem_singleton] at z
            exact absurd z (Nat.ne_of_gt lS)
        have len : xs.length = items.size := by rw [← StrsAre.len_eq hi, Array.length_toList]
        refine upd_loop ((Walks.list h3 _ l neI items).toS) s.heap.objs.size nfp xs len (fun i v hv => str_at hi i v (by rw [Array.getElem?_toList]; exact hv)) (by omega) (items.size - 0) 0 _ (#[], 0, tb0 w) [] (by omega) (Nat.zero_le _) (Nat.le_refl _)
          ⟨⟨_, Heap.get?_push_size _ rfl, rfl, rfl⟩, hl1.push _⟩ (Heap.get?_push_of_some _ hN) (new_keeps _ _) fun s3 D3 hm ho3 F3 => ?_
        obtain ⟨h', g', d', tk', os'⟩ := s3
        obtain rfl : g' = s.gens := hm.gens
        obtain rfl : d' = s.drawn := hm.drawn
        obtain rfl : os' = s.os := hm.os
        refine wpAny_pure (wpAny_pure ⟨rfl, h', tk', D3, rfl, F3, ho3, fun b o hb e => hm.heap b o (fun z => ?_) (Heap.get?_push_of_some _ (Heap.get?_push_of_some _ e))⟩)
        rcases (List.mem_cons.mp z) with z | z
        · exact absurd z (Nat.ne_of_lt hb)
        · rw [List.mem_singleton, Heap.size_push] at z
          exact absurd z (Nat.ne_of_lt (Nat.lt_succ_of_lt hb))
      · match r2, hr2 with
        | .error e, hr2 => exact hr2
        | .ok (.ret v), hr2 =>
          obtain ⟨rfl, h', tk, D, rfl, F, ho3, hold⟩ := hr2
          repeat (any_goals first | assumption | wp_step)
          exact h _ _ _ F ho3 hold
        | .ok .next, hr2 => exact hr2.elim
        | .ok .brk, hr2 => exact hr2.elim
        | .ok .cont, hr2 => exact hr2.elim
    | .ok .next, hr => exact hr.elim
    | .ok .brk, hr => exact hr.elim
    | .ok .cont, hr => exact hr.elim)⟩))
end
/-- the set at a holds the texts l -/
def SetW (P : Program) (w : World) (a : Addr) (l : List Str) : HO := .ext fun h => ∃ D, h.get? a = some (sObj "set" D) ∧ TxW P w D l
theorem setW_ok {P : Program} {w : World} {H : Hp} {h : Heap} {a : Addr} {D : SD} {l : List Str} (ho : h.get? a = some (sObj "set" D)) (F : TxW P w D l) : ObjOk P w H h a (SetW P w a l) :=
  ⟨⟨D, ho, F⟩, ⟨_, ho⟩, fun h1 h2 z k => by
    obtain ⟨D', e, F'⟩ := z
    exact ⟨D', k _ e, F'⟩⟩
theorem perm_of : ∀ (l ys : List Str), l.Nodup → (∀ y ∈ l, y ∈ ys) → ys.length = l.length → ys.Perm l
  | [], ys, _, _, e => by
    rw [List.length_eq_zero_iff.mp e]
  | y :: l, ys, n, h, e => by
    obtain ⟨n1, n2⟩ := List.nodup_cons.mp n
    obtain ⟨p, q, rfl⟩ := List.append_of_mem (h y List.mem_cons_self)
    have pm : (p ++ y :: q).Perm (y :: (p ++ q)) := List.perm_middle
    refine pm.trans (List.Perm.cons y (perm_of l (p ++ q) n2 (fun z hz => ?_) ?_))
    · have zy : z ≠ y := fun c => n1 (c ▸ hz)
      rcases List.mem_append.mp (h z (List.mem_cons_of_mem _ hz)) with c | c
      · exact List.mem_append_left _ c
      · rcases List.mem_cons.mp c with c | c
        · exact absurd c zy
        · exact List.mem_append_right _ c
    · simp only [List.length_append, List.length_cons] at e ⊢
      omega
theorem strs_are : ∀ (vs : List Value), (∀ v ∈ vs, ∃ y t, v = Value.str y t) → ∃ ys, StrsAre vs ys
  | [], _ => ⟨[], .nil⟩
  | v :: vs, h => by
    obtain ⟨y, t, rfl⟩ := h _ List.mem_cons_self
    obtain ⟨ys, r⟩ := strs_are vs fun u hu => h u (List.mem_cons_of_mem _ hu)
    exact ⟨y :: ys, .cons y t r⟩
theorem strs_mem : ∀ {vs : List Value} {ys : List Str}, StrsAre vs ys → ∀ y t, Value.str y t ∈ vs → y ∈ ys
  | _, _, .cons z u r, y, t, h => by
    rcases (List.mem_cons.mp h) with e | e
    · injection e with e1 e2
      rw [e1]
      exact List.mem_cons_self
    · exact List.mem_cons_of_mem _ (strs_mem r y t e)
section
variable {X : Cx}
/-- set(xs), xs a list of texts -/
theorem cr_setS (hc : X.calm = true) : CallR X (.type "set") (fun vs H Q => ∃ (p : Addr) (ys : List Str), vs = [.ref p] ∧ SqL X.K H p (ys.map V.str) ∧ ys.length ≤ 1000 ∧ ∀ q, H q = none → Q (.ref q) (upd H q (SetW X.prog X.w q (insAll ys [])))) := by
  intro pn s σ H vs us Q I r h
  obtain ⟨p, ys, rfl, hq, hz, q⟩ := h
  rw [Vals.ref1 r]
  obtain ⟨its, rv, pl, _⟩ := I.list hq
  refine call_set_texts (I.ok.hd hc) pl.isList (by simpa using L2.strsAre_of rv) (by unfold scanBound; omega) fun h' tk D F ho keep => ?_
  exact ⟨.ref _, _, I.laid (t' := tk) (fun b o e => keep b o (Heap.lt_size e) e) (Nat.le_refl _) (setW_ok ho F), rfl, q _ (I.hok.fresh (Nat.le_refl _))⟩
/-- sorted(S), S a set of texts -/
theorem cr_sortedW (hc : X.calm = true) : CallR X (.builtin "sorted") (fun vs H Q => ∃ (a : Addr) (l : List Str), vs = [.ref a] ∧ H a = some (SetW X.prog X.w a l) ∧ l.Nodup ∧ l.length < 64 ∧
    ∀ (ys : List Str) (p : Addr), ys.Perm l → sortedS ys = true → H p = none → Q (.ref p) (upd H p (.lst (ys.map V.str)))) := by
  intro pn s σ H vs us Q I r h
  obtain ⟨a, l, rfl, ha, nd, l64, q⟩ := h
  rw [Vals.ref1 r]
  obtain ⟨⟨es, ep, t⟩, ho, F⟩ := (I.hok a _ ha).1
  have sz : es.size = l.length := F.ok.sz
  have small : es.size < scanBound := by unfold scanBound; omega
  refine Calls.call_function_entry PyProof.Rows.kind_sorted PyProof.Rows.plain_sorted PyProof.Rows.entry_sorted (PyProof.Rows.args_sorted1 _) (by
    unfold Builtin.«sorted»
    refine wpAny_bind (m := checkCount "sorted" 1 1 _) (wpAny_pure (wpAny_bind (collect_set (A := X.A.in1) (I.ok.hd hc) ⟨_, ho, rfl, rfl⟩ F.ok.fit small F.ris F.led fun s1 out k1 hz g1 o1 pm => ?_)))
    have all : ∀ v ∈ out, ∃ y u, v = Value.str y u := fun v hv => by
      obtain ⟨e, he, rfl⟩ := List.mem_map.mp (pm.mem_iff.mp hv)
      obtain ⟨⟨k, hk, _⟩, _⟩ := F.ok.el e he
      obtain ⟨u, ev⟩ := Value.isStrOf_shape (x := k) (v := e.2) hk
      exact ⟨k, u, ev⟩
    obtain ⟨zs, hS⟩ := strs_are out all
    have len : out.length = es.size := by rw [pm.length_eq, List.length_map, Array.length_toList]
    have zl : zs.length = l.length := by rw [← hS.len_eq, len, sz]
    have zp : zs.Perm l := perm_of l zs nd (fun y hy => by
      obtain ⟨e, he, z⟩ := (F.ok.mem y).mp hy
      obtain ⟨u, ev⟩ := Value.isStrOf_shape (x := y) (v := e.2) z
      refine strs_mem hS y u (pm.mem_iff.mpr ?_)
      rw [← ev]
      exact List.mem_map.mpr ⟨e, he, rfl⟩) zl
    have o64 : out.length < 64 := by rw [len, sz]; exact l64
    have hoL : (s1.heap.push (seqObj "list" out.toArray 0)).get? s1.heap.objs.size = some (seqObj "list" out.toArray 0) := Heap.get?_push_size _ rfl
    refine wpAny_bind (wpAny_newList (wpAny_bind (wpAny_holding (wpAny_call_entry PyProof.Rows.slot_list_sort ⟨_, hoL, rfl⟩ PyProof.Rows.entry_list_sort
      (list_sort_treeK strKind_oneLt (s := { s1 with heap := s1.heap.push (seqObj "list" out.toArray 0) }) hoL hS.keysOf (fun v₁ v₂ rest e => keyKind_strs (by rw [← e]; exact hS)) o64 fun st' hp hs => ⟨_, rfl, by
        obtain ⟨ys, r1, r2, r3⟩ := sorted_out_str hS hp hs
        obtain ⟨c, hc2⟩ := PyProof.Rows.sortedHeap_at (vs := out) (out := (arrOf st').map (·.2)) hoL
        have hn : H s1.heap.objs.size = none := I.hok.fresh hz
        have ylen : (ys.map V.str).length ≤ sizeLine := by
          rw [List.length_map, r2.length_eq, zl]
          exact Nat.le_trans (Nat.le_of_lt l64) (by decide)
        have k2 : ∀ b u, s.heap.get? b = some u → (PyProof.Rows.sortedHeap (s1.heap.push (seqObj "list" out.toArray 0)) s1.heap.objs.size out ((arrOf st').map (·.2))).get? b = some u := fun b u e => by
          have lt := Heap.lt_size (k1 b u e)
          rw [PyProof.Rows.sortedHeap_old (Nat.ne_of_lt lt) (by rw [size_push']; exact Nat.lt_succ_of_lt lt)]
          exact Heap.get?_push_of_some _ (k1 b u e)
        obtain ⟨hp1, gn1, dr1, tk1, os1⟩ := s1
        dsimp only at g1 o1 hn k2 hc2 ⊢
        subst g1 o1
        refine wpAny_pure ⟨_, rfl, .ref hp1.objs.size, upd H hp1.objs.size (.lst (ys.map V.str)), ?_, rfl, q ys _ (r2.trans zp) r3 hn⟩
        exact I.call (ch := []) (Un.laid k2 hz hn) (I.hok.laid k2 hz ⟨ylen, ((arrOf st').map (·.2)).toList, c, vals_of_strs r1, by rw [Array.toArray_toList]; exact hc2⟩) I.bare (fun _ z => nomatch z)⟩) (PyProof.Rows.args_list_sort _)))) (by rw [sizeLine_eq]; omega)))
end
/-! ### names: the plain mathematics -/
def lowc (c : Nat) : Bool := decide (97 ≤ c) && decide (c ≤ 122)
def upc (c : Nat) : Bool := decide (65 ≤ c) && decide (c ≤ 90)
theorem uni_alpha : ∀ c : Nat, c < 128 → Unicode.isAlpha c = (lowc c || upc c) := by decide +kernel
theorem uni_lower : ∀ c : Nat, c < 128 → Unicode.isLower c = lowc c := by decide +kernel
theorem uni_upper : ∀ c : Nat, c < 128 → (Unicode.isUpper c || Unicode.isTitle c) = upc c := by decide +kernel
/-- the letters of a name -/
def letB (a : List Nat) : Bool := !a.isEmpty && a.all lowc
theorem lower_letters (a : List Nat) : (Txt.isascii (SX.S a) && (Txt.isalpha (SX.S a) && Txt.islower (SX.S a))) = letB a := by
  have e1 : Txt.isascii (SX.S a) = a.all (fun c => decide (c < 128)) := by
    unfold Txt.isascii
    rw [← Array.all_toList]
  have e2 : Txt.isalpha (SX.S a) = (!a.isEmpty && a.all Unicode.isAlpha) := by
    unfold Txt.isalpha
    rw [← Array.all_toList, SX.S_len]
    cases a <;> rfl
  have e3 : Txt.islower (SX.S a) = (a.any Unicode.isLower && !a.any fun c => Unicode.isUpper c || Unicode.isTitle c) := by
    unfold Txt.islower
    rw [← Array.any_toList, ← Array.any_toList]
  rw [e1, e2, e3]
  unfold letB
  cases h : a.all (fun c => decide (c < 128))
  · rw [Bool.false_and]
    symm
    rw [Bool.and_eq_false_iff]
    refine .inr (Bool.eq_false_iff.mpr fun z => ?_)
    have z2 := List.all_eq_true.mp z
    have : a.all (fun c => decide (c < 128)) = true := List.all_eq_true.mpr fun c hc => decide_eq_true (by
      have q := z2 c hc
      unfold lowc at q
      rw [Bool.and_eq_true, decide_eq_true_eq, decide_eq_true_eq] at q
      omega)
    rw [h] at this
    cases this
  · rw [Bool.true_and]
    have h3 : ∀ c ∈ a, c < 128 := fun c hc => of_decide_eq_true (List.all_eq_true.mp h c hc)
    have a1 : a.all Unicode.isAlpha = a.all (fun c => lowc c || upc c) := by
      rw [Bool.eq_iff_iff, List.all_eq_true, List.all_eq_true]
      exact ⟨fun q c hc => by rw [← uni_alpha c (h3 c hc)]; exact q c hc, fun q c hc => by rw [uni_alpha c (h3 c hc)]; exact q c hc⟩
    have a2 : a.any Unicode.isLower = a.any lowc := by
      rw [Bool.eq_iff_iff, List.any_eq_true, List.any_eq_true]
      exact ⟨fun ⟨c, hc, q⟩ => ⟨c, hc, by rw [← uni_lower c (h3 c hc)]; exact q⟩, fun ⟨c, hc, q⟩ => ⟨c, hc, by rw [uni_lower c (h3 c hc)]; exact q⟩⟩
    have a3 : (a.any fun c => Unicode.isUpper c || Unicode.isTitle c) = a.any upc := by
      rw [Bool.eq_iff_iff, List.any_eq_true, List.any_eq_true]
      exact ⟨fun ⟨c, hc, q⟩ => ⟨c, hc, by rw [← uni_upper c (h3 c hc)]; exact q⟩, fun ⟨c, hc, q⟩ => ⟨c, hc, by rw [uni_upper c (h3 c hc)]; exact q⟩⟩
    rw [a1, a2, a3]
    have dis : ∀ c : Nat, lowc c = true → upc c = false := fun c q => by
      unfold lowc at q
      unfold upc
      rw [Bool.and_eq_true, decide_eq_true_eq, decide_eq_true_eq] at q
      rw [Bool.and_eq_false_iff, decide_eq_false_iff_not, decide_eq_false_iff_not]
      omega
    rw [Bool.eq_iff_iff]
    simp only [Bool.and_eq_true, Bool.not_eq_true', List.any_eq_true, List.all_eq_true, Bool.or_eq_true]
    constructor
    · rintro ⟨⟨n, al⟩, _, nu⟩
      refine ⟨n, fun c hc => ?_⟩
      rcases al c hc with q | q
      · exact q
      · exfalso
        have : a.any upc = true := List.any_eq_true.mpr ⟨c, hc, q⟩
        rw [nu] at this
        cases this
    · rintro ⟨n, al⟩
      refine ⟨⟨n, fun c hc => .inl (al c hc)⟩, ?_, ?_⟩
      · cases a with
        | nil => cases n
        | cons c r => exact ⟨c, List.mem_cons_self, al c List.mem_cons_self⟩
      · refine Bool.eq_false_iff.mpr fun q => ?_
        obtain ⟨c, hc, q⟩ := List.any_eq_true.mp q
        rw [dis c (al c hc)] at q
        cases q
/-- without one apostrophe at the end -/
def cutQ (a : List Nat) : List Nat := if a.getLast? = some 39 then a.dropLast else a
def nameB (a : List Nat) : Bool := decide ((cutQ a).length ≤ 6) && letB (cutQ a)
theorem last_at (b : List Nat) (c : Nat) : PySem.Builtin.Str.subAt (SX.S (b ++ [c])) (SX.S [39]) ((SX.S (b ++ [c])).length - (SX.S [39]).length) = decide (c = 39) := by
  have e : (SX.S (b ++ [c])).cps.extract ((SX.S (b ++ [c])).length - (SX.S [39]).length) ((SX.S (b ++ [c])).length - (SX.S [39]).length + (SX.S [39]).length) = [c].toArray := by
    rw [SX.S_len, SX.S_len, List.length_append]
    simp [List.extract]
  show ((SX.S (b ++ [c])).cps.extract ((SX.S (b ++ [c])).length - (SX.S [39]).length) ((SX.S (b ++ [c])).length - (SX.S [39]).length + (SX.S [39]).length) == (SX.S [39]).cps) = _
  rw [e]
  by_cases h : c = 39
  · subst h
    rfl
  · rw [decide_eq_false h, beq_eq_false_iff_ne]
    intro z
    exact h (List.cons.inj (congrArg Array.toList z)).1
theorem rem_quote (a : List Nat) : Txt.removesuffix (SX.S a) (SX.S [39]) = SX.S (cutQ a) := by
  have e := eq_of_beq (PyProof.Rows.removesuffix_closes (SX.S a) (SX.S [39]))
  rw [e]
  rcases List.eq_nil_or_concat a with rfl | ⟨b, c, rfl⟩
  · rfl
  · rw [List.concat_eq_append, last_at]
    have e1 : decide (0 + (SX.S [39]).length ≤ (SX.S (b ++ [c])).length) = true := by
      rw [SX.S_len, SX.S_len, List.length_append]
      exact decide_eq_true (by show 0 + 1 ≤ b.length + 1; omega)
    rw [e1, Bool.true_and]
    unfold cutQ
    rw [List.getLast?_append, List.getLast?_singleton, Option.some_or, List.dropLast_concat]
    by_cases h : c = 39
    · subst h
      rw [decide_eq_true rfl, if_pos rfl, if_pos rfl]
      refine TL.ext_tl ?_
      show ((b ++ [39]).drop 0).take ((((SX.S (b ++ [39])).length : Nat) : Int) - (((SX.S [39]).length : Nat) : Int) - 0).toNat = b
      rw [SX.S_len, SX.S_len, List.length_append, List.drop_zero]
      have : ((((b.length + [39].length : Nat)) : Int) - (([39] : List Nat).length : Nat) - 0).toNat = b.length := by
        show (((b.length + 1 : Nat) : Int) - 1 - 0).toNat = b.length
        omega
      rw [this, List.take_left]
    · rw [decide_eq_false h, if_neg (by decide), if_neg (fun z => h (Option.some.inj z))]
/-! ### drawn words: the plain mathematics -/
abbrev ABC : Str := Str.ofString "abcdefghijklmnopqrstuvwxyz"
theorem abc_nat : ∀ n : Nat, n < 26 → L2.atI ABC.cps.toList (n : Int) = some (97 + n) := by decide +kernel
theorem abc_at {r : Int} (h0 : 0 ≤ r) (h1 : r < 26) : L2.atI ABC.cps.toList r = some (97 + r.toNat) := by
  obtain ⟨n, rfl⟩ := Int.eq_ofNat_of_zero_le h0
  rw [Int.toNat_natCast]
  exact abc_nat n (by omega)
theorem low_abc {n : Nat} (h : n < 26) : lowc (97 + n) = true := by
  unfold lowc
  rw [decide_eq_true (by omega), decide_eq_true (by omega)]
  rfl
theorem mul_one1 {x : Str} (hx : x.length = 1) {n : Int} (h1 : n ≤ 8) (h0 : -8 ≤ n) : MulOk x n := by
  unfold MulOk
  rw [hx]
  obtain ⟨k, rfl⟩ : ∃ k : Nat, n = (k : Int) - 8 := ⟨(n + 8).toNat, by omega⟩
  have : ∀ k : Nat, k < 17 → (decide (((k : Int) - 8) < -(2 ^ 63 : Int)) || decide (((k : Int) - 8) ≥ 2 ^ 63)) = false ∧ (¬ ((k : Int) - 8) < 1 → (((k : Int) - 8) == 1 || (1 : Nat) == 0) = false → ¬ (((1 : Nat) : Int) > (2 ^ 63 - 1) / ((k : Int) - 8))) ∧
    (¬ ((k : Int) - 8) < 1 → (((k : Int) - 8) == 1 || (1 : Nat) == 0) = false → PySem.Builtin.Str.tooLong (1 * ((k : Int) - 8).toNat) = false) := by decide +kernel
  exact this k (by omega)
theorem fold_rep (c : Nat) : ∀ (k : Nat) (acc : Array Nat), (List.replicate k (#[c] : Array Nat)).foldl (· ++ ·) acc = acc ++ (List.replicate k c).toArray
  | 0, acc => by simp
  | k + 1, acc => by
    rw [List.replicate_succ, List.foldl_cons, fold_rep c k, List.replicate_succ]
    apply Array.toList_inj.mp
    simp
theorem mul_rep (c : Nat) (n : Int) : Txt.mul (SX.S [c]) n = SX.S (List.replicate n.toNat c) := by
  unfold Txt.mul
  by_cases h : n < 1
  · rw [if_pos h, show n.toNat = 0 by omega]
    rfl
  · rw [if_neg h]
    by_cases h1 : n = 1
    · subst h1
      rfl
    · have : (n == 1 || (SX.S [c]).length == 0) = false := by
        rw [beq_eq_false_iff_ne.mpr h1]
        rfl
      rw [this, if_neg (by decide)]
      unfold SX.S
      have e : (List.replicate n.toNat (⟨[c].toArray⟩ : Str).cps) = List.replicate n.toNat (#[c] : Array Nat) := rfl
      rw [e, fold_rep]
      simp
theorem cut_last (a : List Nat) {k : Nat} (h : a.length ≤ k) (hk : 0 < k) : L2.cutS (SX.S a) (some (-(k : Int))) none = SX.S a := by
  unfold L2.cutS
  have e : HT.sIx (SX.S a).length 0 (some (-(k : Int))) = 0 := by
    rw [SX.S_len]
    unfold HT.sIx
    simp
    omega
  rw [HT.sIx_none, e, SX.S_len]
  refine TL.ext_tl ?_
  show (a.drop 0).take (a.length - 0) = a
  rw [List.drop_zero, Nat.sub_zero, List.take_length]
theorem cut_to (a : List Nat) (k : Nat) : L2.cutS (SX.S a) none (some (k : Int)) = SX.S (a.take k) := by
  unfold L2.cutS
  rw [HT.sIx_none, HT.sIx_nat, SX.S_len, Nat.sub_zero]
  refine TL.ext_tl ?_
  show (a.drop 0).take (min k a.length) = a.take k
  rw [List.drop_zero]
  by_cases h : k ≤ a.length
  · rw [Nat.min_eq_left h]
  · rw [Nat.min_eq_right (by omega), List.take_of_length_le (Nat.le_refl _), List.take_of_length_le (by omega)]
theorem cut_from (a : List Nat) (k : Nat) : L2.cutS (SX.S a) (some (k : Int)) none = SX.S (a.drop k) := by
  unfold L2.cutS
  rw [HT.sIx_none, HT.sIx_nat, SX.S_len]
  refine TL.ext_tl ?_
  show (a.drop (min k a.length)).take (a.length - min k a.length) = a.drop k
  by_cases h : k ≤ a.length
  · rw [Nat.min_eq_left h, List.take_of_length_le (by rw [List.length_drop]; exact Nat.le_refl _)]
  · rw [Nat.min_eq_right (by omega), List.drop_of_length_le (Nat.le_refl _), List.drop_of_length_le (by omega), List.take_nil]
/-- a word of one to six letters -/
def LW (a : List Nat) : Prop := a ≠ [] ∧ a.length ≤ 6 ∧ a.all lowc = true
theorem LW.put {a : List Nat} {c : Nat} {k : Nat} (h : a.length ≤ 5) (ha : a.all lowc = true) (hc : lowc c = true) : LW (a.take k ++ [c] ++ a.drop k) := by
  refine ⟨by simp, ?_, ?_⟩
  · simp only [List.length_append, List.length_take, List.length_drop, List.length_singleton]
    omega
  · rw [List.all_append, List.all_append]
    have e := List.all_eq_true.mp ha
    rw [List.all_eq_true.mpr fun x hx => e x (List.mem_of_mem_take hx), List.all_eq_true.mpr fun x hx => e x (List.mem_of_mem_drop hx)]
    simp [hc]
theorem LW.rep {a : List Nat} {c n : Nat} (ha : a.all lowc = true) (hc : lowc c = true) (n1 : 1 ≤ n) (n4 : n ≤ 5) : LW (a.take 1 ++ List.replicate n c) := by
  refine ⟨?_, ?_, ?_⟩
  · intro z
    have := congrArg List.length z
    rw [List.length_append, List.length_replicate] at this
    simp at this
    omega
  · simp only [List.length_append, List.length_take, List.length_replicate]
    omega
  · rw [List.all_append]
    have e := List.all_eq_true.mp ha
    rw [List.all_eq_true.mpr fun x hx => e x (List.mem_of_mem_take hx), Bool.true_and]
    exact List.all_eq_true.mpr fun x hx => by
      rw [List.eq_of_mem_replicate hx]
      exact hc
theorem LW.one {c : Nat} (hc : lowc c = true) : LW [c] := ⟨by simp, by simp, by simp [hc]⟩
theorem S_inj {a b : List Nat} (h : SX.S a = SX.S b) : a = b := by
  have := congrArg (fun s : Str => s.cps.toList) h
  simpa [SX.S] using this
theorem ins_all_full : ∀ (xs l : List Str), (insAll xs l).length = xs.length + l.length → xs.Nodup ∧ ∀ x ∈ xs, x ∉ l
  | [], _, _ => ⟨List.nodup_nil, fun _ h => nomatch h⟩
  | x :: xs, l, h => by
    unfold insAll at h
    by_cases hx : x ∈ l
    · exfalso
      unfold ins at h
      rw [if_pos hx] at h
      have := insAll_len xs l
      rw [List.length_cons] at h
      omega
    · unfold ins at h
      rw [if_neg hx] at h
      obtain ⟨h1, h2⟩ := ins_all_full xs (x :: l) (by rw [h]; simp only [List.length_cons]; omega)
      refine ⟨List.nodup_cons.mpr ⟨fun z => h2 x z List.mem_cons_self, h1⟩, fun y hy => ?_⟩
      rcases List.mem_cons.mp hy with rfl | hy
      · exact hx
      · exact fun z => h2 y hy (List.mem_cons_of_mem _ z)
theorem nodup_S : ∀ {ws : List (List Nat)}, (ws.map SX.S).Nodup → ws.Nodup
  | [], _ => List.nodup_nil
  | w :: ws, h => by
    rw [List.map_cons, List.nodup_cons] at h
    exact List.nodup_cons.mpr ⟨fun z => h.1 (List.mem_map_of_mem z), nodup_S h.2⟩
/-- the kth letter from a first one, by fives -/
def five (f k : Nat) : Nat := 97 + (f + 5 * k) % 26
theorem five_inj {f i j : Nat} (hi : i < 20) (hj : j < 20) (h : five f i = five f j) : i = j := by
  unfold five at h
  omega
theorem nodup_range_map {α : Type} {f : Nat → α} {m : Nat} (h : ∀ i j, i < m → j < m → f i = f j → i = j) : ((List.range m).map f).Nodup := by
  rw [List.Nodup, List.pairwise_map]
  refine List.Pairwise.imp_of_mem ?_ List.nodup_range
  intro a b ha hb hne e
  exact hne (h a b (List.mem_range.mp ha) (List.mem_range.mp hb) e)
theorem put_inj {a : List Nat} {k c d : Nat} (h : a.take k ++ [c] ++ a.drop k = a.take k ++ [d] ++ a.drop k) : c = d := by
  have h1 := (List.append_cancel_right h)
  have h2 := (List.append_cancel_left h1)
  exact (List.cons.inj h2).1
theorem lc_str {x : Str} {g : TG} {tt : TT} {te : TE} {vs : List Nat} {σ : L2.St} {H1 : Hp} {D : Addr} {Qd : Hp → Prop} (Pv : Nat → Hp → Prop) (h0 : Pv 0 (upd H1 D (.lst [])))
    (hs : ∀ i c H, x.cps[i]? = some c → Pv i H → g (.str ⟨#[c]⟩) (wipe σ vs) H fun σ2 H2 => wipe σ2 vs = wipe σ vs ∧ tt σ2 H2 fun b H3 =>
      if b = true then te σ2 H3 fun y H4 => ∃ acc, H4 D = some (.lst acc) ∧ acc.length < sizeLine ∧ Pv (i + 1) (upd H4 D (.lst (acc ++ [y]))) else Pv (i + 1) H3) (hd : ∀ H, Pv x.cps.size H → Qd H) :
    ∃ W : Nat → Nat → Hp → Prop, (∃ m, W 0 m (upd H1 D (.lst []))) ∧ ∀ i m H, W i m H →
      ((Its x).stop i H ∧ Qd H) ∨ ((Its x).go i H ∧ ∃ Nx : Hp → Prop, (∀ H', Nx H' → ∃ m', m' < m ∧ W (i + 1) m' H') ∧ ∀ y H', (Its x).yld i H y H' → g y (wipe σ vs) H' fun σ2 H2 => wipe σ2 vs = wipe σ vs ∧ tt σ2 H2 fun b H3 =>
        if b = true then te σ2 H3 fun y H4 => ∃ acc, H4 D = some (.lst acc) ∧ acc.length < sizeLine ∧ Nx (upd H4 D (.lst (acc ++ [y]))) else Nx H3) := by
  refine ⟨fun i m H => m = x.cps.size - i ∧ i ≤ x.cps.size ∧ Pv i H, ⟨x.cps.size, by simp, Nat.zero_le _, h0⟩, ?_⟩
  rintro i m H ⟨rfl, hi, p⟩
  by_cases hlt : i < x.cps.size
  · refine .inr ⟨hlt, Pv (i + 1), fun H' p' => ⟨x.cps.size - (i + 1), by omega, rfl, hlt, p'⟩, fun y H' q => ?_⟩
    obtain ⟨e, c, hc, ev⟩ := q
    subst e ev
    exact hs i c _ hc p
  · have e : i = x.cps.size := by omega
    subst e
    exact .inl ⟨Nat.le_refl _, hd H p⟩
/-! ### names with an apostrophe; the law's own test of names -/
theorem last_low {x : List Nat} (h : x.all lowc = true) : x.getLast? ≠ some 39 := fun z => by
  have := List.all_eq_true.mp h 39 (List.mem_of_getLast? z)
  revert this
  decide
theorem cutQ_lw {x : List Nat} (h : LW x) {k : Nat} (hk : k ≤ 1) : cutQ (x ++ List.replicate k 39) = x := by
  unfold cutQ
  match k, hk with
  | 0, _ => rw [List.replicate_zero, List.append_nil, if_neg (last_low h.2.2)]
  | 1, _ => rw [show List.replicate 1 39 = [39] from rfl, List.getLast?_append, List.getLast?_singleton, Option.some_or, if_pos rfl, List.dropLast_concat]
theorem name_lw {x : List Nat} (h : LW x) {k : Nat} (hk : k ≤ 1) : nameB (x ++ List.replicate k 39) = true ∧ (x ++ List.replicate k 39).length ≤ 7 := by
  constructor
  · unfold nameB letB
    rw [cutQ_lw h hk, h.2.2, decide_eq_true h.2.1]
    cases x with
    | nil => exact absurd rfl h.1
    | cons _ _ => rfl
  · rw [List.length_append, List.length_replicate]
    have := h.2.1
    omega
theorem nodup_of_map {α β : Type} (f : α → β) : ∀ {l : List α}, (l.map f).Nodup → l.Nodup
  | [], _ => List.nodup_nil
  | w :: ws, h => by
    rw [List.map_cons, List.nodup_cons] at h
    exact List.nodup_cons.mpr ⟨fun z => h.1 (List.mem_map_of_mem z), nodup_of_map f h.2⟩
theorem sIx_neg1 (n : Nat) (d : Nat) : HT.sIx n d (some (-1)) = n - 1 := by
  unfold HT.sIx
  simp
  omega
theorem cut_but1 (t : List Nat) : L2.cutS (SX.S t) none (some (-1)) = SX.S t.dropLast := by
  unfold L2.cutS
  rw [HT.sIx_none, sIx_neg1, SX.S_len, Nat.sub_zero]
  refine TL.ext_tl ?_
  show (t.drop 0).take (t.length - 1) = t.dropLast
  rw [List.drop_zero, List.dropLast_eq_take]
theorem cut_end1 (t : List Nat) : L2.cutS (SX.S t) (some (-1)) none = SX.S (t.drop (t.length - 1)) := by
  unfold L2.cutS
  rw [HT.sIx_none, sIx_neg1, SX.S_len]
  refine TL.ext_tl ?_
  show (t.drop (t.length - 1)).take (t.length - (t.length - 1)) = t.drop (t.length - 1)
  rw [List.take_of_length_le]
  rw [List.length_drop]
  exact Nat.le_refl _
theorem drop_last (t : List Nat) : (t.drop (t.length - 1) = [39]) ↔ t.getLast? = some 39 := by
  rcases List.eq_nil_or_concat t with rfl | ⟨b, c, rfl⟩
  · simp
  · rw [List.concat_eq_append, List.getLast?_append, List.getLast?_singleton, Option.some_or]
    have e : (b ++ [c]).length - 1 = b.length := by simp
    rw [e, List.drop_left]
    simp
theorem abc_mem (c : Nat) : decide (c ∈ ABC.cps.toList) = lowc c := by
  rw [show ABC.cps.toList = (List.range 26).map (97 + ·) by decide +kernel]
  unfold lowc
  rw [Bool.eq_iff_iff, decide_eq_true_eq, Bool.and_eq_true, decide_eq_true_eq, decide_eq_true_eq, List.mem_map]
  constructor
  · rintro ⟨k, hk, rfl⟩
    have := List.mem_range.mp hk
    omega
  · rintro ⟨h1, h2⟩
    exact ⟨c - 97, List.mem_range.mpr (by omega), by omega⟩
/-! ### lists of texts as data -/
theorem shape_strs : ∀ l : List Str, l.length ≤ 2 → (∀ x ∈ l, PyData.strOk x = true) → SeqAt.shaped (.list (l.map PyData.str)) = true
  | [], _, _ => rfl
  | [x], _, h => by
    show ((PyData.strOk x && true) && true) = true
    rw [h x List.mem_cons_self]
    rfl
  | [x, y], _, h => by
    show ((PyData.strOk x && (PyData.strOk y && true)) && true) = true
    rw [h x List.mem_cons_self, h y (List.mem_cons_of_mem _ List.mem_cons_self)]
    rfl
  | _ :: _ :: _ :: _, h, _ => by simp at h
theorem eqvAll_strs : ∀ l : List Str, PyData.eqvAll (l.map PyData.str) (l.map PyData.str) = true
  | [] => rfl
  | x :: l => by
    show (PyData.eqv (.str x) (.str x) && PyData.eqvAll (l.map PyData.str) (l.map PyData.str)) = true
    rw [eqvAll_strs l, Bool.and_true]
    show (x == x) = true
    exact beq_self_eq_true x
theorem dp_strs {K : PySem.W.Frag} {H : Hp} : ∀ l : List Str, DpAll K H (l.map V.str) (l.map PyData.str)
  | [] => .nil
  | x :: l => .cons (.str x) (dp_strs l)
theorem strOk_name {x : List Nat} (h : nameB x = true) : PyData.strOk (SX.S x) = true := by
  unfold nameB letB at h
  rw [Bool.and_eq_true, Bool.and_eq_true] at h
  have hl := List.all_eq_true.mp h.2.2
  have key : ∀ c ∈ x, c < 0x110000 := fun c hc => by
    by_cases e : c ∈ cutQ x
    · have := hl c e
      unfold lowc at this
      rw [Bool.and_eq_true, decide_eq_true_eq, decide_eq_true_eq] at this
      omega
    · unfold cutQ at e
      split at e
      · rename_i z
        rcases List.eq_nil_or_concat x with rfl | ⟨b, d, rfl⟩
        · cases hc
        · rw [List.concat_eq_append] at *
          rw [List.getLast?_append, List.getLast?_singleton, Option.some_or] at z
          rw [List.dropLast_concat] at e
          rcases List.mem_append.mp hc with k | k
          · exact absurd k e
          · rw [List.mem_singleton.mp k, Option.some.inj z]
            decide
      · exact absurd hc e
  unfold PyData.strOk
  rw [← Array.all_toList, show (SX.S x).cps.toList = x by simp [SX.S]]
  exact List.all_eq_true.mpr fun c hc => decide_eq_true (key c hc)
/-! ### a field of an error of any base is stored -/
section
open PySem.W PySem.Calls Builtin Builtin.ObjectAttr
variable {prog : Program} {w : World} {A : Around} {R : Result → Shared → Prop} {hp : Heap} {gg : Array GenState} {dr : Drawn} {tk0 : Nat} {os : OsState}
/-- what a class's order of bases must be like -/
structure Ord (mro : List Value) : Prop where
  pass : ∀ self : Value, refuseLoop self "__setattr__" mro = pure ()
  ob : mro.contains (.type "object") = true
  ne : mro.isEmpty = false
theorem osa_to {K : W.Frag} {nm : Str} {tk : Tok} {v : Value} {x C : Addr} {dd : Option Addr} {dob : Option Obj} {fv : Array Value} {cd : ClassData} (kin : K.In hp) (hx : hp.get? x = some { cls := .ref C, dict := dd, data := .fields fv })
    (inst : W.InstAt hp x { cls := .ref C, dict := dd, data := .fields fv } C dob) (hcd : W.clsIn K C = some cd) (o : Ord cd.mro) (own : W.findIn K (.ref C) nm = some none)
    (go : wpAny (model prog w) A.in1 (storeInOwnDict (.ref x) (.ref C) (.str nm tk) nm v false) (fun f s => R (.ok (.ret .none)) s ∧ f = .done (.ret .none)) (fun e s => R (.error e) s) ⟨hp, gg, dr, tk0, os⟩) :
    codeAny (model prog w) A (.call (.builtin "object.__setattr__") ⟨[.ref x, .str nm tk, v], []⟩) R ⟨hp, gg, dr, tk0, os⟩ := by
  have so := F.store_object
  have isOb : W.Looks (model prog w) hp (isInstance (.ref x) (.type "object")) true := by
    refine inst.type.andThen (W.looks_mroIn kin ?_)
    unfold W.mroIn
    rw [hcd, Option.bind_some, o.ne, if_neg Bool.false_ne_true, o.ob]
  have order : W.Looks (model prog w) hp (mroOf (.ref C)) cd.mro := (W.looks_clsIn kin hcd).andThen .now
  have taker : W.Looks (model prog w) hp (storeTaker? none) none := .now
  refine codeAny_call_builtin so.slot.plain so.entry ?_
  refine @W.check_slot (model prog w) _ _ ⟨hp, gg, dr, tk0, os⟩ "object.__setattr__" "object" "__setattr__" (.ref x) [.str nm tk, v] [] _ so.kind so.split isOb (so.args (.ref x) (.str nm tk) v) ?_
  rw [W.osa_eq, refuse_eq]
  refine wpAny_bind (wpAny_bind (inst.type.at (wpAny_bind (order.at ?_))))
  rw [o.pass]
  refine wpAny_pure (wpAny_bind (inst.type.at (wpAny_bind ((W.looks_findIn kin own).at (wpAny_bind (taker.at ?_))))))
  refine wpAny_mono go (fun f s q => ?_) fun e s q => q
  obtain ⟨q, rfl⟩ := q
  exact q
/-- the first field -/
theorem osa_first {K : W.Frag} {nm : Str} {tk : Tok} {v : Value} {x C : Addr} {fv : Array Value} {cd : ClassData} (kin : K.In hp) (hx : hp.get? x = some { cls := .ref C, data := .fields fv })
    (hcd : W.clsIn K C = some cd) (hd : cd.hasDict = true) (o : Ord cd.mro) (own : W.findIn K (.ref C) nm = some none)
    (fin : ∀ h2 t2 dx, (∀ b u, b ≠ x → hp.get? b = some u → h2.get? b = some u) → hp.objs.size ≤ dx → dx ≠ x → h2.get? x = some { cls := .ref C, dict := some dx, data := .fields fv } → h2.Ns1 dx (fun y => if y = nm then some v else none) → R (.ok (.ret .none)) ⟨h2, gg, dr, t2, os⟩) :
    codeAny (model prog w) A (.call (.builtin "object.__setattr__") ⟨[.ref x, .str nm tk, v], []⟩) R ⟨hp, gg, dr, tk0, os⟩ := by
  refine osa_to (dob := none) kin hx ⟨hx, rfl, rfl, trivial⟩ hcd o own ?_
  have cls : W.Looks (model prog w) hp (classData C) cd := W.looks_clsIn kin hcd
  have xn : x ≠ hp.objs.size := Nat.ne_of_lt (Heap.lt_size hx)
  obtain ⟨c1, c2, c3, c4, c5, c6, c7, c8, c9, c10, c11⟩ := cd
  have hd : c6 = true := hd
  subst hd
  unfold storeInOwnDict ownDictForStores
  repeat (first | with_reducible refine HandSPX.store_in_new ?_ ?_ | with_reducible refine wpAny_loadPart_at hx ?_ | with_reducible refine cls.at ?_ | wp_step)
  · exact ⟨_, #[], _, (Heap.get?_update_ne _ _ _ _ xn.symm).trans (Heap.get?_push_at rfl rfl), rfl, fun e he => absurd he (by simp), fun _ => rfl⟩
  · intro h2 t2 hn sb
    refine ⟨fin h2 t2 hp.objs.size (fun b u nb hb => ?_) (Nat.le_refl _) xn.symm ?_ hn, rfl⟩
    · exact (sb.2 b (Nat.ne_of_lt (Heap.lt_size hb))).trans ((Heap.get?_update_ne _ _ _ _ nb).trans (Heap.get?_push_of_some _ hb))
    · exact (sb.2 x xn).trans (Heap.get?_update_self _ (Heap.get?_push_of_some _ hx) rfl)
/-- a further field -/
theorem osa_more {K : W.Frag} {nm : Str} {tk : Tok} {v : Value} {x C dx : Addr} {fv : Array Value} {cd : ClassData} {m0 : Str → Option Value} {nl : List Str} (kin : K.In hp) (hx : hp.get? x = some { cls := .ref C, dict := some dx, data := .fields fv })
    (hns : hp.Ns1 dx m0) (hw : Within m0 nl) (hz : nl.length ≤ 1000) (hcd : W.clsIn K C = some cd) (hd : cd.hasDict = true) (o : Ord cd.mro) (own : W.findIn K (.ref C) nm = some none)
    (fin : ∀ h2 t2, (∀ b u, b ≠ dx → hp.get? b = some u → h2.get? b = some u) → h2.Ns1 dx (fun y => if y = nm then some v else m0 y) → R (.ok (.ret .none)) ⟨h2, gg, dr, t2, os⟩) :
    codeAny (model prog w) A (.call (.builtin "object.__setattr__") ⟨[.ref x, .str nm tk, v], []⟩) R ⟨hp, gg, dr, tk0, os⟩ := by
  obtain ⟨od, e1, e2, hod, _, _⟩ := hns.count hw
  refine osa_to (dob := some od) kin hx ⟨hx, rfl, rfl, hod⟩ hcd o own ?_
  have cls : W.Looks (model prog w) hp (classData C) cd := W.looks_clsIn kin hcd
  obtain ⟨c1, c2, c3, c4, c5, c6, c7, c8, c9, c10, c11⟩ := cd
  have hd : c6 = true := hd
  subst hd
  unfold storeInOwnDict ownDictForStores
  repeat (first | with_reducible refine OEX.store_in_old hns hw hz ?_ | with_reducible refine wpAny_loadPart_at hx ?_ | with_reducible refine cls.at ?_ | wp_step)
  intro h2 t2 hn sb
  exact ⟨fin h2 t2 (fun b u nb hb => (sb.2 b nb).trans hb) hn, rfl⟩
end
/-! ### an own error class of any base, its __init__ walked -/
structure OexG (K : PySem.W.Frag) (nw : String) (tl : List Value) (C : Addr) : Prop where
  cls : ∃ nm q N bs bm sn sub ab col dd k0 k1 k2 k3 k5, K.lookup C = some (excClassObj nm q C N bs bm true sn sub ab col dd k0 k1 k2 k3 k5 nw) ∧ Ord (.ref C :: bm) ∧ ∀ Y : String, bm.contains (.type Y) = tl.contains (.type Y)
  sa : PySem.W.findIn K (.ref C) "__setattr__" = some (some (.builtin "object.__setattr__"))
  exC : PySem.W.subIn K (.ref C) (.type "BaseException") = some true
  tyC : PySem.W.typeIn K (.ref C) = some (.type "type")
  kC : PySem.W.keepIn K (.ref C) = true
theorem OexG.data {K : PySem.W.Frag} {nw : String} {tl : List Value} {C : Addr} (T : OexG K nw tl C) : ∃ cd : ClassData, PySem.W.clsIn K C = some cd ∧ cd.hasDict = true ∧ Ord cd.mro := by
  obtain ⟨nm, q, N, bs, bm, sn, sub, ab, col, dd, k0, k1, k2, k3, k5, hC, o, _⟩ := T.cls
  refine ⟨{ name := nm, bases := bs, mro := .ref C :: bm, ns := N, qualname := q, hasDict := true, slotNames := sn, subclasses := sub, abstract := ab, collection := col, hasDel := false }, ?_, rfl, o⟩
  unfold PySem.W.clsIn
  rw [hC] <;> rfl
section
variable {X : Cx} {pins : List (Addr × Obj)} {σ : L2.St} {H : Hp} {s : Shared} {a C dx : Addr} {f : Str} {y : V} {u : Value} {fs : List (Str × V)} {Q : Unit → Shared → Prop} {E : Value → Shared → Prop} {A : Around} {nw : String} {tl : List Value}
/-- tracked things stay where an exception's object and its new dict are written -/
theorem un_exc {hp h2 : Heap} (hn : H dx = none) (e : H a = some (exo a C none)) (dn : hp.objs.size ≤ dx) (k : ∀ b o, b ≠ a → hp.get? b = some o → h2.get? b = some o) (at2 : ∃ o, h2.get? a = some o) {o1 : Obj} (at1 : hp.get? a = some o1) :
    Un X.fs [] H (upd (upd H dx (exd dx [(f, y)])) a (exo a C (some dx))) hp h2 := by
  have old : ∀ {b : Addr} {o : Obj}, hp.get? b = some o → b ≠ dx := fun {b o} q => Nat.ne_of_lt (Nat.lt_of_lt_of_le (Heap.lt_size q) dn)
  have other : ∀ {b : Addr}, H b = none → b ≠ a := fun {b} z w => by rw [w, e] at z; cases z
  constructor
  case keep => exact fun b o q z _ _ => k b o (other z) q
  case slot => exact fun b o q z _ _ => ⟨o.slots, k b o (other z) q⟩
  case free => exact fun b o q z _ => (upd_ne (other z)).trans ((upd_ne (old q)).trans z)
  case there =>
    intro b o q _
    by_cases w : b = a
    · exact w ▸ at2
    · exact ⟨o, k b o w q⟩
  case tups => exact fun b xs q => (upd_ne (at_ne e q exo_tup)).trans ((upd_ne (ne_of_none q hn)).trans q)
  case frzs => exact fun b o v q => (upd_ne (at_ne e q exo_frz)).trans ((upd_ne (ne_of_none q hn)).trans q)
  case tbls =>
    intro b ps q
    refine ⟨#[], ?_⟩
    rw [upd_ne (at_ne e q exo_tbl), upd_ne (ne_of_none q hn), q]
    simp
theorem first_fld (T : OexG X.K nw tl C) (I : Inv X pins σ H s) (e : H a = some (exo a C none)) (hno : PySem.W.findIn X.K (.ref C) f = some none) (ry : RelV y u)
    (fin : ∀ dx s2, H dx = none → dx ≠ a → Inv X pins σ (upd (upd H dx (exd dx [(f, y)])) a (exo a C (some dx))) s2 → Q () s2) : wpAny (model X.prog X.w) A (setAttr (.ref a) f u) Q E s := by
  obtain ⟨cd, hcd, hd, o⟩ := T.data
  obtain ⟨t1, ho⟩ := exo_at I.hok e
  obtain ⟨hp, gg, dr, tk, os⟩ := s
  refine PySem.W.set_plain (ox := { cls := .ref C, dict := none, data := .fields #[.ref t1, .none, .none, .none, .bool false, .none] }) (od := none) I.kIn ⟨ho, rfl, rfl, trivial⟩ T.sa ?_
  refine osa_first I.kIn ho hcd hd o hno fun h2 t2 dx k dn dne hx hns => ?_
  have hn : H dx = none := I.hok.fresh dn
  refine fin dx _ hn dne (I.un (t' := t2) (un_exc hn e dn k ⟨_, hx⟩ ho) fun b w q => ?_)
  by_cases ba : b = a
  · subst ba
    rw [upd_same] at q
    cases q
    exact exo_ok hx
  rw [upd_ne ba] at q
  by_cases bd : b = dx
  · subst bd
    rw [upd_same] at q
    cases q
    exact exd_ok hns (relO_put (fs := []) ry fun g => True.intro)
  rw [upd_ne bd] at q
  refine (I.hok b w q).stay (fun c v hc z => k c v ?_ z) (fun c hc => ?_) fun c xs hc => ?_
  · rcases hc with rfl | hc
    · exact ba
    · exact at_ne e hc exo_own
  · exact (upd_ne (at_ne e hc exo_own)).trans ((upd_ne (ne_of_none hc hn)).trans hc)
  · exact (upd_ne (at_ne e hc exo_tup)).trans ((upd_ne (ne_of_none hc hn)).trans hc)
theorem more_fld (T : OexG X.K nw tl C) (I : Inv X pins σ H s) (e : H a = some (exo a C (some dx))) (ed : H dx = some (exd dx fs)) (hl : fs.length ≤ 900) (hno : PySem.W.findIn X.K (.ref C) f = some none) (ry : RelV y u)
    (fin : ∀ s2, Inv X pins σ (upd H dx (exd dx ((f, y) :: fs))) s2 → Q () s2) : wpAny (model X.prog X.w) A (setAttr (.ref a) f u) Q E s := by
  obtain ⟨cd, hcd, hd, o⟩ := T.data
  obtain ⟨t1, ho⟩ := exo_at I.hok e
  obtain ⟨mA, hns, rel⟩ := exd_at I.hok ed
  have wi := within_of rel
  obtain ⟨hp, gg, dr, tk, os⟩ := s
  obtain ⟨oD, _, _, hoD, _, _⟩ := hns.count wi
  refine PySem.W.set_plain (ox := { cls := .ref C, dict := some dx, data := .fields #[.ref t1, .none, .none, .none, .bool false, .none] }) (od := some oD) I.kIn ⟨ho, rfl, rfl, hoD⟩ T.sa ?_
  refine osa_more I.kIn ho hns wi (by rw [List.length_map]; omega) hcd hd o hno fun h2 t2 k hn => ?_
  have there : ∃ w, h2.get? dx = some w := by
    obtain ⟨w, _, _, e2, _⟩ := hn
    exact ⟨w, e2⟩
  exact fin _ (I.write (t' := t2) (x := dx) (e := dx) (o := exd dx ((f, y) :: fs)) (by rw [ed]; exact True.intro) (.inl rfl) k there (exd_ok hn (relO_put ry rel)))
end
/-- self.f = e -/
def tOsG (K : PySem.W.Frag) (f : Str) (to te : TE) : TS := fun D σ H => te σ H fun y H1 => to σ H1 fun x H2 => ∃ (a C : Addr) (nw : String) (tl : List Value), x = .ref a ∧ OexG K nw tl C ∧ PySem.W.findIn K (.ref C) f = some none ∧
  ((H2 a = some (exo a C none) ∧ ∀ dx, H2 dx = none → dx ≠ a → D.nx σ (upd (upd H2 dx (exd dx [(f, y)])) a (exo a C (some dx)))) ∨
    ∃ (dx : Addr) (fs : List (Str × V)), H2 a = some (exo a C (some dx)) ∧ H2 dx = some (exd dx fs) ∧ fs.length ≤ 900 ∧ D.nx σ (upd H2 dx (exd dx ((f, y) :: fs))))
theorem ps_osg {X : Cx} {o e : Expr} {to te : TE} {f : Str} {p pos : Pos} (ho : PE X o to) (he : PE X e te) (hs : swapsWith e (some (.Attribute o f p)) pos.line X.env = pure false := by rfl) : PS X (.Assign [.Attribute o f p] e pos) (tOsG X.K f to te) := by
  refine ⟨fun pins s σ H D I h => ?_⟩
  refine plainObj_wpAny_Assign_Attribute (thn (he.run pins s σ H _ I h) fun v s1 hv => ?_) hs
  obtain ⟨y, H1, I1, r1, q1⟩ := hv
  refine thn (ho.run pins s1 σ H1 _ I1 q1) fun u s2 hu => ?_
  obtain ⟨x, H2, I2, r2, a, C, nw, tl, ex, T, hno, q⟩ := hu
  subst ex
  cases (show u = Value.ref a from r2)
  rcases q with ⟨ea, q⟩ | ⟨dx, fs, ea, ed, hl, q⟩
  · exact first_fld T I2 ea hno r1 fun dx s3 n ne J => ⟨σ, _, J, q dx n ne⟩
  · exact more_fld T I2 ea ed hl hno r1 fun s3 J => ⟨σ, _, J, q⟩
/-! ### C(..) as a value -/
section
variable {X : Cx} {C fI : Addr} {k : Nat} {fd : FuncData} {ps : List Str} {sp : Sp} {nw B initId : String} {tl : List Value} {CX : CXT}
theorem call_exg {pins : List (Addr × Obj)} {σ : L2.St} {H : Hp} {s : Shared} {vs : List V} {us : List Value} {Q : VK} (F : ExcBaseFacts B nw initId tl) (T : OexG X.K nw tl C) (iC : PySem.W.findIn X.K (.ref C) "__init__" = some (some (.ref fI))) (tI : PySem.W.typeIn X.K (.ref fI) = some (.type "function"))
    (F1 : FnOk X.prog X.w X.K X.mg X.base CX k fI fd ps sp) (hr : Room (k + 1) X.A) (hb : Binds X.K fd ps []) (hx : Passes CX X (fun _ _ _ => False)) (I : Inv X pins σ H s) (rv : Vals vs us) (hz : vs.length ≤ 1000)
    (q : ∀ a, H a = none → sp (.ref a :: vs) (upd H a (exo a C none)) (fun v H2 => v = .non ∧ Q (.ref a) H2) (fun _ _ _ => False)) : wpAny (model X.prog X.w) X.A (call (.ref C) us) (EP X pins σ Q) X.xe s := by
  obtain ⟨nm, qn, N, bs, bm, sn, sub, ab, col, dd, k0, k1, k2, k3, k5, hC, o, hT⟩ := T.cls
  obtain ⟨hp, gg, dr, tk, os⟩ := s
  have later : hp.objs.size ≤ hp.objs.size + 1 := Nat.le_succ _
  have spec := q (hp.objs.size + 1) (I.hok.fresh later)
  have here : ((hp.push (PySem.W.kdv_tup us)).push (PySem.HandSPX.excO C hp.objs.size)).get? (hp.objs.size + 1) = some (PySem.HandSPX.excO C hp.objs.size) := by heap_get
  have I2 : Inv X pins σ (upd H (hp.objs.size + 1) (exo (hp.objs.size + 1) C none)) ⟨(hp.push (PySem.W.kdv_tup us)).push (PySem.HandSPX.excO C hp.objs.size), gg, dr, tk, os⟩ :=
    I.laid (t' := tk) (o := exo (hp.objs.size + 1) C none) (fun b w e => Heap.get?_push_of_some _ (Heap.get?_push_of_some _ e)) later (exo_ok here)
  have both : Vals (V.ref (hp.objs.size + 1) :: vs) (Value.ref (hp.objs.size + 1) :: us) := .cons rfl rv
  have cnt : (Value.ref (hp.objs.size + 1) :: us ++ []).length = ps.length := by
    rw [List.append_nil, ← Paired.length both]
    exact F1.len _ _ _ _ spec
  have few : us.length ≤ sizeLine := by
    rw [← Paired.length rv, sizeLine_eq]
    omega
  have bnd := hb _ (Value.ref (hp.objs.size + 1) :: us) I2.kIn cnt
  rw [List.append_nil] at bnd
  refine wpAny_call (PySem.HandSPX.call_own F hT (I.kIn _ _ hC) (PySem.W.looks_findIn I.kIn iC) (fun self => PySem.W.bind_fn I.kIn self tI) few (codeAny_mono (F1.run _ X.stack _ _ ⟨Value.ref (hp.objs.size + 1) :: us, []⟩ (Value.ref (hp.objs.size + 1) :: us) _ _ (fun _ _ _ => False) (hr.make C us []) (I2.env0.make C us []) bnd both spec) fun r s2 res => ?_))
  rcases r with er | fl
  · exact hx pins σ _ _ er s2 I2 res
  · cases fl with
    | ret u =>
      obtain ⟨v, H2, os2, bare2, un2, hok2, rr, ev, q2⟩ := res
      subst ev
      obtain ⟨h2, g2, d2, t2, os3⟩ := s2
      exact ⟨rr, .ref (hp.objs.size + 1), H2, I2.call' (ch := []) os2 un2 hok2 bare2 (fun b z => absurd z (by simp)), rfl, q2⟩
    | next => exact res.elim
    | brk => exact res.elim
    | cont => exact res.elim
def tNew (C : Addr) (sp : Sp) (ta : TA) : TE := fun σ H Q => ta σ H fun vs H1 => vs.length ≤ 1000 ∧ ∀ a, H1 a = none → sp (.ref a :: vs) (upd H1 a (exo a C none)) (fun v H2 => v = .non ∧ Q (.ref a) H2) (fun _ _ _ => False)
theorem pe_exg {x : Str} {e : Expr} {es : List Expr} {ta : TA} {p pos : Pos} (F : ExcBaseFacts B nw initId tl) (T : OexG X.K nw tl C) (iC : PySem.W.findIn X.K (.ref C) "__init__" = some (some (.ref fI))) (tI : PySem.W.typeIn X.K (.ref fI) = some (.type "function"))
    (F1 : FnOk X.prog X.w X.K X.mg X.base CX k fI fd ps sp) (hr : Room (k + 1) X.A) (hb : Binds X.K fd ps []) (hx : Passes CX X (fun _ _ _ => False)) (hg : Gl X x) (hm : X.mg x = some (.ref C)) (ha : PA X (e :: es) ta)
    (hdb : (x == ("__debug__" : Str)) = false := by decide) (he : starEach (e :: es) X.env = (false, eval e X.env) :: starEach es X.env := by rfl) (hpl : (backTo pos (starEach es X.env)).any (·.1) = false := by rfl) :
    PE X (.Call (.Name x p) (e :: es) [] pos) (tNew C sp ta) := by
  refine ⟨fun pins s σ H Q I h => wpAny_Call_Name_kw (ld_glob I hg hm ?_ hdb)⟩
  refine PySem.W.callWith_K (h₀ := X.base) I.ok.mod.kin T.kC (thn (ha.run pos pins s σ H _ I h) fun us s1 z => ?_) he hpl
  obtain ⟨vs, H1, I1, r1, hz, q1⟩ := z
  exact ⟨I1.kIn, call_exg F T iC tI F1 hr hb hx I1 r1 hz q1⟩
theorem pe_exg0 {x : Str} {p pos : Pos} (F : ExcBaseFacts B nw initId tl) (T : OexG X.K nw tl C) (iC : PySem.W.findIn X.K (.ref C) "__init__" = some (some (.ref fI))) (tI : PySem.W.typeIn X.K (.ref fI) = some (.type "function"))
    (F1 : FnOk X.prog X.w X.K X.mg X.base CX k fI fd ps sp) (hr : Room (k + 1) X.A) (hb : Binds X.K fd ps []) (hx : Passes CX X (fun _ _ _ => False)) (hg : Gl X x) (hm : X.mg x = some (.ref C)) (hdb : (x == ("__debug__" : Str)) = false := by decide) :
    PE X (.Call (.Name x p) [] [] pos) (tNew C sp tNil) := by
  refine ⟨fun pins s σ H Q I h => wpAny_Call_Name_kw (ld_glob I hg hm ?_ hdb)⟩
  exact PySem.W.callWith_K0 I.kIn T.kC (call_exg F T iC tI F1 hr hb hx I .nil (by show 0 ≤ 1000; decide) h.2)
end
/-! ### isinstance of an error that holds fields; its attributes -/
section
open PySem.W PySem.Calls
variable {prog : Program} {w : World} {A : Around} {E : Value → Shared → Prop} {s : Shared} {K : Frag} {x D : Addr} {ox : Obj} {od : Option Obj}
theorem class_found (T : ExcC K D) : findObj K D od "__class__" = some (.bind (.builtin "getset_descriptor.__get__") (.builtin "object.__class__")) := by
  obtain ⟨cd, hc, _⟩ := any_some T.hd
  unfold findObj
  rw [hc, Option.bind_some, T.ha, Option.bind_some]
  simp [T.hn, T.ht]
theorem class_asked {Q : Option Value → Shared → Prop} (T : ExcC K D) (kin : K.In s.heap) (I : InstAt s.heap x ox D od) (go : Q (some (.ref D)) { s with toks := s.toks + 1 }) : wpAny (model prog w) A (getAttr? (.ref x) "__class__") Q E s := by
  obtain ⟨hp, gg, dr, tk, os⟩ := s
  have lt := I.type (M := model prog w)
  have lg := looks_findIn (M := model prog w) kin T.hg
  have lk := looks_findIn (M := model prog w) kin T.hk
  have lf := looks_find (M := model prog w) kin I (class_found T)
  have base : Looks (model prog w) hp (isInstance (.ref x) (.type "BaseException")) true := lt.andThen (looks_subIn kin T.hs)
  have other : (Value.builtin "BaseException.__getattribute__" == Value.builtin "object.__getattribute__") = false := by decide +kernel
  have no1 : (onTheHeap (Value.ref D) && Value.builtin "BaseException.__getattribute__" == Value.builtin "object.__getattribute__") = false := by rw [other]; rfl
  have no2 : (false && onTheHeap (Value.builtin "BaseException.__getattribute__")) = false := rfl
  unfold getAttr? getAttrBy? getAttrBy
  refine wpAny_bind (wpAny_mkText (wpAny_bind (wpAny_attempt (wpAny_holding (wpAny_bind (lt.at (wpAny_bind (lg.at ?_))))))))
  show wpAny _ _ (if (onTheHeap (Value.ref D) && Value.builtin "BaseException.__getattribute__" == Value.builtin "object.__getattribute__") = true then _ else _) _ _ _
  rw [no1, if_neg Bool.false_ne_true]
  unfold getAttrByItsOwn hookBefore
  rw [if_pos (show onTheHeap (Value.ref D) = true from rfl)]
  refine wpAny_bind (lk.at (wpAny_bind (wpAny_attempt (wpAny_holding ?_))))
  unfold callGetattribute
  rw [no2, if_neg Bool.false_ne_true]
  unfold boundAndCalled
  rw [PySem.F.excAttr_ValueError.ga.bind (.ref x)]
  refine wpAny_bind (wpAny_pure ?_)
  show wpAny _ _ (call (.builtin "BaseException.__getattribute__") [.ref x, .str "__class__" tk]) _ _ _
  refine wpAny_call (codeAny_call_builtin PySem.F.excAttr_ValueError.ga.plain PySem.F.entry_bexc_ga ?_)
  refine @check_slot (model prog w) _ _ ⟨hp, gg, dr, tk + 1, os⟩ "BaseException.__getattribute__" "BaseException" "__getattribute__" (.ref x) [.str "__class__" tk] [] _ (by decide +kernel) (by decide +kernel) base (PySem.F.args_bexc_ga (.ref x) (.str "__class__" tk)) ?_
  unfold Builtin.«object.__getattribute__»
  refine wpAny_bind (wpAny_of_eq (a := ((Value.ref x : Value), [Value.str "__class__" tk])) (by first | rfl | (simp only [slotArgs]; rfl)) ?_)
  refine wpAny_bind (wpAny_pure (wpAny_bind (lt.at (wpAny_bind (lf.at ?_)))))
  show wpAny _ _ (holding [Value.builtin "object.__class__"] (call (.builtin "getset_descriptor.__get__") [.builtin "object.__class__", .ref x, .ref D]) >>= ret) _ _ _
  refine wpAny_bind (wpAny_holding (wpAny_call (class_get (s := ⟨hp, gg, dr, tk + 1, os⟩) (ox := ox) (od := od) kin I T.hm ?_)))
  refine wpAny_pure ?_
  show wpAny _ _ (handedOut (.ref D)) _ _ _
  rw [handedOut_of (v := .ref D) rfl]
  first
    | exact wpAny_pure (wpAny_pure go)
    | exact wpAny_pure go
    | exact wpAny_pure (wpAny_bind (wpAny_pure (wpAny_pure go)))
theorem kit_exd (T : ExcC K D) : KitX K (.ref x) (.ref D) (fun h => ∃ ox od, InstAt h x ox D od) := by
  obtain ⟨cd, hc, _⟩ := any_some T.hd
  unfold clsIn at hc
  split at hc
  case h_2 => cases hc
  case h_1 c1 d1 cd1 sl1 ho =>
    refine ⟨fun M h _ ⟨_, _, I⟩ => I.type, fun M h kin _ => ?_, fun h tp d2 its n sl kin e => ?_, fun kin ⟨_, _, I⟩ q => class_asked T kin I q⟩
    · intro A' Q' E' s' k q
      unfold isType loadHead
      exact wpAny_bind (wpAny_loadPart (k _ _ (kin _ _ ho)) (wpAny_pure q))
    · refine Bool.eq_false_iff.mpr fun q => ?_
      have same : D = tp := Value.ref.inj (beq_iff_eq.mp q)
      subst same
      have z := (kin _ _ ho).symm.trans e
      cases z
end
/-- isinstance(e, c), e an error that stands in the heap -/
def rIsG (K : PySem.W.Frag) : List V → Hp → VK → Prop := fun xs H Q => ∃ (a C dd : Addr) (c : V) (cv : Value) (b : Bool), xs = [.ref a, c] ∧ H a = some (exo a C (some dd)) ∧ (∃ fs, H dd = some (exd dd fs)) ∧ ExcC K C ∧ (∀ u, RelV c u → u = cv) ∧ PySem.W.kitOne K (.ref C) cv = some b ∧ Q (.bl b) H
theorem inst_exg {X : Cx} {pins : List (Addr × Obj)} {σ : L2.St} {H : Hp} {s : Shared} {a C dd : Addr} {fs : List (Str × V)} (I : Inv X pins σ H s) (e : H a = some (exo a C (some dd))) (ed : H dd = some (exd dd fs)) : ∃ (ox o : Obj) (mA : Str → Option Value), PySem.W.InstAt s.heap a ox C (some o) ∧ (∀ f, RelO (fs.lookup f) (mA f)) ∧ ∀ name, PySem.W.lookIn name o = some (mA name) := by
  obtain ⟨t1, ho⟩ := exo_at I.hok e
  obtain ⟨mA, hns, rel⟩ := exd_at I.hok ed
  obtain ⟨o, h1, h2⟩ := lookIn_ns hns
  exact ⟨_, o, mA, ⟨ho, rfl, rfl, h1⟩, rel, h2⟩
theorem call_isG {X : Cx} : CallR X (.builtin "isinstance") (rIsG X.K) := by
  intro pins s σ H xs us Q I r h
  obtain ⟨a, C, dd, c, cv, b, rfl, ha, ⟨fs, hd⟩, T, hc, e, q⟩ := h
  obtain ⟨u1, u2, rfl, r1, r2⟩ := vals2 r
  cases (show u1 = Value.ref a from r1)
  cases hc _ r2
  obtain ⟨ox, o, mA, J, _, _⟩ := inst_exg I ha hd
  exact PySem.W.kia_one (kit_exd T) I.kIn ⟨ox, _, J⟩ e (fun z => nomatch z) fun tk => ⟨.bl b, H, I.tok tk, rfl, q⟩
/-- isinstance(e, (A, B, ..)) -/
def rIsGT (K : PySem.W.Frag) : List V → Hp → VK → Prop := fun xs H Q => ∃ (a C dd tp : Addr) (cs : List V) (cv : List Value) (b : Bool), xs = [.ref a, .ref tp] ∧ H a = some (exo a C (some dd)) ∧ (∃ fs, H dd = some (exd dd fs)) ∧ ExcC K C ∧ H tp = some (.tup cs) ∧ Paired ClsV cs cv ∧ PySem.W.kitAny K (.ref C) cv = some b ∧ Q (.bl b) H
theorem call_isGT {X : Cx} : CallR X (.builtin "isinstance") (rIsGT X.K) := by
  intro pins s σ H xs us Q I r h
  obtain ⟨a, C, dd, tp, cs, cv, b, rfl, ha, ⟨fs, hd⟩, T, ht, hc, e, q⟩ := h
  obtain ⟨u1, u2, rfl, r1, r2⟩ := vals2 r
  cases (show u1 = Value.ref a from r1)
  cases (show u2 = Value.ref tp from r2)
  obtain ⟨ox, o, mA, J, _, _⟩ := inst_exg I ha hd
  obtain ⟨_, its, rv, ot, h1, h2, n, h3⟩ := (show ObjOk X.prog X.w H s.heap tp (.tup cs) from I.hok tp _ ht)
  cases ClsV.all hc rv
  obtain ⟨oc, od, dt, sl⟩ := ot
  dsimp only at h2 h3
  subst h2 h3
  exact PySem.W.kia_tup (kit_exd T) I.kIn ⟨ox, _, J⟩ h1 e (fun z => nomatch z) fun tk => ⟨.bl b, H, I.tok tk, rfl, q⟩
/-- e.n -/
def tXg (K : PySem.W.Frag) (n : Str) (te : TE) : TE := fun σ H Q => te σ H fun x H1 => ∃ (a C dd : Addr) (fs : List (Str × V)) (v : V), x = .ref a ∧ XfC K C ∧ PySem.W.findIn K (.ref C) n = some none ∧ H1 a = some (exo a C (some dd)) ∧ H1 dd = some (exd dd fs) ∧ fs.lookup n = some v ∧ Q v H1
theorem pe_xg {X : Cx} {e : Expr} {te : TE} {pos : Pos} {n : Str} (he : PE X e te) (hb : attributeBase e n X.env (eval e X.env) = eval e X.env := by rfl) : PE X (.Attribute e n pos) (tXg X.K n te) := by
  refine ⟨fun pins s σ H Q I h => attr_of hb (thn (he.run pins s σ H _ I h) fun u s1 hh => ?_)⟩
  obtain ⟨x, H1, I1, rx, a, C, dd, fs, v, ex, T, hno, ea, ed, l, q⟩ := hh
  subst ex
  cases (show u = Value.ref a from rx)
  obtain ⟨ox, o, mA, J, rel, hl⟩ := inst_exg I1 ea ed
  obtain ⟨u, hu, ru⟩ := RelO.some_of (v := v) (o := mA n) (by rw [← l]; exact rel n)
  exact PySem.HandSPX.exc_get I1.kIn J T.ga T.gg T.exC (PySem.W.findObj_own T.hdC hno rfl (by rw [hl, hu])) (handed_of ru) ⟨v, H1, I1.tok _, ru, q⟩
/-! ### what is known of an error class of any base -/
structure ErrG (K : PySem.W.Frag) (mg : Str → Option Value) (x : Str) (C fI : Addr) (nw : String) (tl : List Value) : Prop where
  g : OexG K nw tl C
  xf : XfC K C
  ex : ExcC K C
  gC : mg x = some (.ref C)
  tag : PySem.W.findIn K (.ref C) "tag" = some none
  iC : PySem.W.findIn K (.ref C) "__init__" = some (some (.ref fI))
  tI : PySem.W.typeIn K (.ref fI) = some (.type "function")
abbrev tlV : List Value := [.type "ValueError", .type "Exception", .type "BaseException", .type "object"]
abbrev tlL : List Value := [.type "LookupError", .type "Exception", .type "BaseException", .type "object"]
abbrev tlI : List Value := [.type "IndexError", .type "LookupError", .type "Exception", .type "BaseException", .type "object"]
/-- __init__(self, v): self.n = v; self.tag = x -/
def spG1 (K : PySem.W.Frag) (n x : Str) : Sp := fun vs H Q _ => ∃ (a C : Addr) (v : V) (nw : String) (tl : List Value), vs = [.ref a, v] ∧ OexG K nw tl C ∧ PySem.W.findIn K (.ref C) n = some none ∧ PySem.W.findIn K (.ref C) "tag" = some none ∧ H a = some (exo a C none) ∧
  ∀ dx, H dx = none → dx ≠ a → Q .non (upd (upd (upd H dx (exd dx [(n, v)])) a (exo a C (some dx))) dx (exd dx [("tag", .str x), (n, v)]))
def spG0 (K : PySem.W.Frag) (x : Str) : Sp := fun vs H Q _ => ∃ (a C : Addr) (nw : String) (tl : List Value), vs = [.ref a] ∧ OexG K nw tl C ∧ PySem.W.findIn K (.ref C) "tag" = some none ∧ H a = some (exo a C none) ∧
  ∀ dx, H dx = none → dx ≠ a → Q .non (upd (upd H dx (exd dx [("tag", .str x)])) a (exo a C (some dx)))
/-! ### what is not reached -/
theorem pe_never {X : Cx} {e : Expr} : PE X e (fun _ _ _ => False) := ⟨fun _ _ _ _ _ _ h => h.elim⟩
theorem pt_never {X : Cx} {e : Expr} : PT X e (fun _ _ _ => False) := ⟨fun _ _ _ _ _ _ h => h.elim⟩
/-! ### try: body, finally: suite; the body may raise, the suite may not -/
def sFin (tb : WX → TS) (tf tfs : TS) (Wo : WX) : TS := fun D σ H => tb (L2.wFin tfs Wo) { nx := fun σ' H' => tf D σ' H', rt := fun _ _ => False } σ H
theorem ps_finB {X : Cx} {body : List Stmt} {g : Stmt} {gs : List Stmt} {pos : Pos} {tb : WX → TS} {tf tfs : TS} {Wo : WX} (hs : X.stack = X.env :: X.outer) (hf : X.env.frame = some X.env.locals) (hex : X.ex = []) (tk : Takes X Wo)
    (hb : ∀ (W : WX) (pn : List (Addr × Obj)) (xe : Value → Shared → Prop), Takes (X.tr pn xe) W → PassesOwn (model X.prog X.w) X.A X.env xe → PSs (X.tr pn xe) body (tb W))
    (h1 : PSs X.nox (g :: gs) tf) (h2 : ∀ (a : Addr) (pn : List (Addr × Obj)), PSs (X.suite a pn) (g :: gs) tfs) : PS X (.Try body [] [] (g :: gs) pos) (sFin tb tf tfs Wo) := by
  refine ⟨fun pins s σ H D I q => wpAny_Try_finally ?_⟩
  have ok := I.ok
  have here := (hb (L2.wFin tfs Wo) (X.pn ++ pins) (fun x s₁ => wpAny (model X.prog X.w) X.A (noteFrame x X.env) (fun _ s₂ => FinallyRaised X.prog X.w X.A X.xe X.env (g :: gs) (SP X pins D) x s₂) (FinallyRaised X.prog X.w X.A X.xe X.env (g :: gs) (SP X pins D)) s₁)
    (fun u s' xx => fin_exc hs hf hex ok tk h2 xx) PassesOwn.looking).run [] s σ H { nx := fun σ' H' => tf D σ' H', rt := fun _ _ => False } (I.toTry _) q
  refine wpAny_mono here (fun fl s1 z => ?_) fun _ _ e => e
  have no : ∀ {v : Prop}, False → v := fun z => z.elim
  cases fl with
  | next =>
    obtain ⟨σ1, H1, J, q1⟩ := z
    refine wpAny_execs_nil (wpAny_mono (h1.run pins s1 σ1 H1 D ((J.ofTry ok).wish _) q1) (fun fl2 s2 z2 => ?_) fun _ _ e => e.elim)
    have z3 : SP X pins D fl2 s2 := z2.unwish
    cases fl2 <;> exact z3
  | ret u =>
    obtain ⟨_, _, _, _, _, w⟩ := z
    exact no w
  | brk =>
    obtain ⟨_, _, _, w⟩ := z
    exact no w
  | cont =>
    obtain ⟨_, _, _, w⟩ := z
    exact no w
/-! ### raise C(..), C an own class of any base -/
theorem pmk_oexG {X : Cx} {CX : CXT} {x B nw initId : String} {tl : List Value} {C fI : Addr} {k : Nat} {fd : FuncData} {ps : List Str} {sp : Sp} {e : Expr} {es : List Expr} {ta : TA} {n : Str} {p pos : Pos} (F : ExcBaseFacts B nw initId tl) (T : OexG X.K nw tl C)
    (iC : PySem.W.findIn X.K (.ref C) "__init__" = some (some (.ref fI))) (tI : PySem.W.typeIn X.K (.ref fI) = some (.type "function")) (F1 : FnOk X.prog X.w X.K X.mg X.base CX k fI fd ps sp) (hr : Room (k + 1) X.A) (hb : Binds X.K fd ps [])
    (hx : Passes CX X (fun _ _ _ => False)) (hg : Gl X n) (hm : X.mg n = some (.ref C)) (ha : PA X (e :: es) ta) (hdb : (n == ("__debug__" : Str)) = false := by decide) (he : starEach (e :: es) X.env = (false, eval e X.env) :: starEach es X.env := by rfl)
    (hpl : (backTo pos (starEach es X.env)).any (·.1) = false := by rfl) : PMk X (.Call (.Name n p) (e :: es) [] pos) (tMkO C sp [] ta) := by
  intro pins s σ H Q I q
  obtain ⟨nm, qn, N, bs, bm, sn, sub, ab, col, dd, k0, k1, k2, k3, k5, hC, o, hT⟩ := T.cls
  refine wpAny_Call_Name_kw (ld_glob I hg hm ?_ hdb)
  refine PySem.W.callWith_K (h₀ := X.base) I.ok.mod.kin T.kC (thn (ha.run pos pins s σ H _ I q) fun us s1 z => ?_) he hpl
  obtain ⟨vs, H1, I1, rv, hz, q1⟩ := z
  refine ⟨I1.kIn, ?_⟩
  rw [show vs ++ ([] : List V) = vs from List.append_nil vs] at q1
  obtain ⟨hp, gg, dr, tk, os⟩ := s1
  have later : hp.objs.size ≤ hp.objs.size + 1 := Nat.le_succ _
  have spec := q1 (hp.objs.size + 1) (I1.hok.fresh later)
  have stays : ∀ b w, hp.get? b = some w → ((hp.push (PySem.W.kdv_tup us)).push (PySem.HandSPX.excO C hp.objs.size)).get? b = some w := fun b w e => Heap.get?_push_of_some _ (Heap.get?_push_of_some _ e)
  have here : ((hp.push (PySem.W.kdv_tup us)).push (PySem.HandSPX.excO C hp.objs.size)).get? (hp.objs.size + 1) = some (PySem.HandSPX.excO C hp.objs.size) := by heap_get
  have I2 : Inv X pins σ (upd H1 (hp.objs.size + 1) (exo (hp.objs.size + 1) C none)) ⟨(hp.push (PySem.W.kdv_tup us)).push (PySem.HandSPX.excO C hp.objs.size), gg, dr, tk, os⟩ := I1.laid (t' := tk) (o := exo (hp.objs.size + 1) C none) stays later (exo_ok here)
  have both : Vals (V.ref (hp.objs.size + 1) :: vs) (Value.ref (hp.objs.size + 1) :: us) := .cons rfl rv
  have cnt : (Value.ref (hp.objs.size + 1) :: us ++ []).length = ps.length := by
    rw [List.append_nil, ← Paired.length both]
    exact F1.len _ _ _ _ spec
  have few : us.length ≤ sizeLine := by
    rw [← Paired.length rv, sizeLine_eq]
    omega
  have bnd := hb _ (Value.ref (hp.objs.size + 1) :: us) I2.kIn cnt
  rw [List.append_nil] at bnd
  refine wpAny_call (PySem.HandSPX.call_own F hT (I1.kIn _ _ hC) (PySem.W.looks_findIn I1.kIn iC) (fun self => PySem.W.bind_fn I1.kIn self tI) few (codeAny_mono (F1.run _ X.stack _ _ ⟨Value.ref (hp.objs.size + 1) :: us, []⟩ (Value.ref (hp.objs.size + 1) :: us) _ _ (fun _ _ _ => False) (hr.make C us []) (I2.env0.make C us []) bnd both spec) fun r s2 res => ?_))
  rcases r with er | fl
  · exact hx pins σ _ _ er s2 I2 res
  · cases fl with
    | ret u =>
      obtain ⟨v, H2, os2, bare2, un2, hok2, rr, ev, d, fs, ea, ed, hd1, q2⟩ := res
      subst ev
      obtain ⟨h2, g2, d2, t2, os3⟩ := s2
      exact ⟨rr, mk_end (raises_own T.exC T.tyC) I1 later stays un2 hok2 os2 bare2 ea ed hd1 q2⟩
    | next => exact res.elim
    | brk => exact res.elim
    | cont => exact res.elim
/-! ### o.f = e, f a property with a setter, which may raise -/
structure SetP (K : PySem.W.Frag) (C : Addr) (f : Str) (g : Addr) : Prop where
  at_ : ∃ p a rest, PySem.W.takerIn K C f = some (some (.ref p)) ∧ PySem.W.typeIn K (.ref p) = some (.type "property") ∧ PySem.W.recIn K p "property" = some (a :: .ref g :: rest)
def sSetP (C : Addr) (sp : Sp) (E : XK) (ta tv : TE) : TS := fun D σ H => tv σ H fun y H1 => ta σ H1 fun x H2 => ∃ a dx fs, x = .ref a ∧ H2 a = some (.ins C dx fs) ∧ sp [.ref a, y] H2 (fun _ H3 => D.nx σ H3) E
theorem ps_setp {X : Cx} {CX : CXT} {k : Nat} {C g : Addr} {f : Str} {fd : FuncData} {ps : List Str} {sp : Sp} {E : XK} {o value : Expr} {pos pos' : Pos} {ta tv : TE} (ha : PE X o ta) (hv : PE X value tv) (c : Cls X.K C) (hp : SetP X.K C f g)
    (F : FnOk X.prog X.w X.K X.mg X.base CX k g fd ps sp) (hr : Room (k + 2) X.A) (hb : Binds X.K fd ps []) (hx : Passes CX X E) (hs : swapsWith value (some (.Attribute o f pos')) pos.line X.env = pure false) :
    PS X (.Assign [.Attribute o f pos'] value pos) (sSetP C sp E ta tv) := by
  refine ⟨fun pins s σ H D I h => ?_⟩
  refine plainObj_wpAny_Assign_Attribute (thn (hv.run pins s σ H _ I h) fun u s1 ⟨y, H1, I1, ry, q⟩ => thn (ha.run pins s1 σ H1 _ I1 q) fun ov s2 ⟨x, H2, I2, rx, a, dx, fs, ex, ea, q2⟩ => ?_) hs
  subst ex
  obtain rfl : ov = Value.ref a := rx
  obtain ⟨mA, O, _, _, _, _⟩ := ins_get I2.hok ea
  obtain ⟨od, J, _⟩ := O.look
  obtain ⟨p, a0, rest, p1, p2, p3⟩ := hp.at_
  have I3 := I2.tok (s2.toks + 1)
  have hl : ([Value.ref a, u] ++ []).length = ps.length := F.len _ _ _ _ q2
  refine PySem.W.set_plain I2.kIn J c.sa (PySem.W.osa_descr (s := { s2 with toks := s2.toks + 1 }) PySem.W.KF.slot_pset I3.kIn J c.po p1 p2 (PySem.W.prop_set (s := { s2 with toks := s2.toks + 1 }) I3.kIn p3 ?_))
  refine codeAny_mono (F.run X.A.in1.in1 X.stack { s2 with toks := s2.toks + 1 } H2 ⟨[.ref a, u], []⟩ [.ref a, u] [.ref a, y] _ E hr.in1.in1 I3.env0.in1.in1 (hb _ [.ref a, u] I3.kIn hl) (.cons rfl (.cons ry .nil)) q2) fun r s' hq => ?_
  cases r with
  | error er => exact hx pins σ H2 { s2 with toks := s2.toks + 1 } er s' I3 hq
  | ok fl =>
    cases fl with
    | ret u2 =>
      obtain ⟨v, H4, I4, rv, q4⟩ := I3.after hq
      exact ⟨σ, H4, I4, q4⟩
    | next => exact False.elim hq
    | brk => exact False.elim hq
    | cont => exact False.elim hq
/-! ### {**d, k: v}: a new dict that begins with another's entries -/
theorem put_pairs {prog : Program} {w : World} {K : Type} [DecidableEq K] {knd : KeyKind prog w K} {A : Around} {E : Value → Shared → Prop} {s : Shared} {c : Addr} {l : List (K × Value)} {x : K} {xv v : Value} {Q : Unit → Shared → Prop}
    (hx : knd.is x xv = true) (hc : s.heap.DictOf knd c l) (hl : l.length ≤ sizeLine)
    (q : ∀ g, g.DictOf knd c (stored l x v) → Heap.SameBut c s.heap g → Q () { s with heap := g }) : wpAny (model prog w) A (dictPut c (knd.hash x) xv v) Q E s := by
  obtain ⟨ob, en, n0, g1, g2, g3, g4, g5, g6⟩ := hc
  have z : en.size ≤ sizeLine := by
    have z1 := g5.length
    rw [Array.length_toList] at z1
    omega
  unfold dictPut
  refine wpAny_bind (wpAny_dictFind_of hx g1 g3 g4 ?_)
  have at_ : (en.findIdx? fun e => knd.is x e.key) = l.findIdx? fun p => decide (p.1 = x) := by
    rw [← g5.findIdx x]
    obtain ⟨en⟩ := en
    simp
  cases hi : en.findIdx? fun e => knd.is x e.key with
  | some i =>
    have ha := any_of_findIdx_some (at_ ▸ hi)
    refine wpAny_updateDict g1 g3 (q _ ⟨_, _, n0, Heap.get?_update_self _ g1 (Obj.isFreed_of_dict (Obj.data_mapDict g3 _)), g2.mapDict _, Obj.data_mapDict g3 _, g4.modify _ _, ?_, ?_⟩ (Heap.SameBut.update ..))
    · have hj : (en.toList.findIdx? fun e => knd.is x e.key) = some i := by
        rw [← hi]
        obtain ⟨en⟩ := en
        simp
      have r := g5.modify g6 hj v
      rw [stored, if_pos ha]
      obtain ⟨en⟩ := en
      simpa using r
    · rw [stored, if_pos ha, keys_map_store]
      exact g6
  | none =>
    have hm := not_mem_of_findIdx_none (at_ ▸ hi)
    have ha : ¬ (l.any fun p => decide (p.1 = x)) = true := fun y => by
      rw [List.any_eq_true] at y
      obtain ⟨p, hp, he⟩ := y
      exact hm (List.mem_map.mpr ⟨p, hp, of_decide_eq_true he⟩)
    refine wpAny_updateDictKeys (hz := z) g1 g3 (q _ ⟨_, _, n0 + 1, Heap.get?_update_self _ g1 (Obj.isFreed_of_dict (Obj.data_mapDictKeys g3 _)), g2.mapDictKeys _, Obj.data_mapDictKeys g3 _, g4.push hx _, ?_, ?_⟩ (Heap.SameBut.update ..))
    · have r := g5.append hx (knd.hash x) v
      rw [stored, if_neg ha]
      obtain ⟨en⟩ := en
      simpa using r
    · rw [stored, if_neg ha, List.map_append, List.nodup_append]
      refine ⟨g6, by simp, fun a h1 b h2 => ?_⟩
      rw [List.map_cons, List.map_nil, List.mem_singleton] at h2
      rw [h2]
      exact fun (e : a = x) => hm (e ▸ h1)
theorem merge_map {P : Program} {w : World} {A : Around} {E : Value → Shared → Prop} {s : Shared} {c d : Addr} {l more : List (Key × Value)} {Q : Unit → Shared → Prop} (n : c ≠ d) (nS : (d == sysModules) = false)
    (hc : s.heap.DictOf (mixKind P w) c l) (hd : s.heap.DictOf (mixKind P w) d more) (hl : l.length + more.length ≤ sizeLine)
    (q : ∀ g, g.DictOf (mixKind P w) c (merged l more) → g.DictOf (mixKind P w) d more → Heap.SameBut c s.heap g → Q () { s with heap := g }) : wpAny (model P w) A (mergeMapping c (.ref d) false) Q E s := by
  obtain ⟨o1, e1, n1, f1, f2, f3, f4, f5, f6⟩ := id hc
  obtain ⟨o2, e2, n2, g1, g2, g3, g4, g5, g6⟩ := id hd
  have sz : more.length = e2.size := by
    rw [← g5.length]
    simp
  unfold mergeMapping
  refine wpAny_bind (wpAny_isInstance hd.typeIs isSubtype_dict_dict ?_)
  simp only [if_true]
  refine wpAny_bind (wpAny_specialOf hd.typeIs PySem.F.slot_dict_iter.lookup ?_)
  simp only [beq_self_eq_true]
  refine wpAny_bind (wpAny_pure ?_)
  dsimp only
  rw [if_neg (by rw [nS]; exact Bool.false_ne_true)]
  refine wpAny_bind (wpAny_dictEntries f1 f3 ?_)
  have go : wpAny (model P w) A (do
      let en ← dictEntries d
      let ep ← dictEpoch d
      forIn (List.range en.size) PUnit.unit fun i (_ : PUnit) => (do
        let es ← dictEntries d
        match es[i]? with
        | some e => do
          holding [e.key, e.val] (dictPut c e.hash e.key e.val)
          let ep' ← dictEpoch d
          if (ep' != ep) = true then do
              (unsupported "dict.changed-during-merge" : Sem PUnit)
              pure (ForInStep.yield PUnit.unit)
            else pure (ForInStep.yield PUnit.unit)
        | _ => do
          (unsupported "dict.changed-during-merge" : Sem PUnit)
          pure (ForInStep.yield PUnit.unit) : Sem (ForInStep PUnit))
      pure ()) Q E s := by
    refine wpAny_bind (wpAny_dictEntries g1 g3 (wpAny_bind (wpAny_dictEpoch g1 g3 (wpAny_bind ?_))))
    refine wpAny_forIn_list _ (fun rest _ s' => ∃ g i, s' = { s with heap := g } ∧ rest = (List.range e2.size).drop i ∧ i ≤ e2.size ∧ g.DictOf (mixKind P w) c (merged l (more.take i)) ∧ g.get? d = some o2 ∧ Heap.SameBut c s.heap g) _
      (fun x rest b s' hI => ?_) (fun b s' hI => ?_) _ _ ⟨s.heap, 0, rfl, rfl, Nat.zero_le _, hc, g1, Heap.SameBut.refl _ _⟩
    · obtain ⟨g, i, rfl, hr, hi, k1, k2, k3⟩ := hI
      have lt : i < e2.size := by
        rcases Nat.lt_or_ge i e2.size with y | y
        · exact y
        · rw [List.drop_eq_nil_of_le (by rw [List.length_range]; exact y)] at hr
          cases hr
      rw [List.drop_eq_getElem_cons (by rw [List.length_range]; exact lt), List.getElem_range] at hr
      have ex0 : x = i := (List.cons.inj hr).1
      have er : rest = (List.range e2.size).drop (i + 1) := (List.cons.inj hr).2
      subst ex0
      obtain ⟨p, hp⟩ : ∃ p, more[x]? = some p := ⟨_, List.getElem?_eq_getElem (by omega)⟩
      obtain ⟨m1, m2⟩ := g5.get? (e := e2[x]) (by rw [Array.getElem?_toList, Array.getElem?_eq_getElem lt]) hp
      obtain ⟨y, m3, m4⟩ := g4 e2[x] (Array.getElem_mem lt)
      have ex : y = p.1 := (mixKind P w).inj _ _ _ m3 m1
      subst ex
      refine wpAny_bind (wpAny_dictEntries k2 g3 ?_)
      rw [Array.getElem?_eq_getElem lt]
      show wpAny _ _ (holding [e2[x].key, e2[x].val] (dictPut c e2[x].hash e2[x].key e2[x].val) >>= _) _ _ _
      have lm := merged_length_le l (more.take x)
      have lt2 : (more.take x).length ≤ more.length := by rw [List.length_take]; omega
      rw [m4, m2]
      refine wpAny_bind (wpAny_holding (put_pairs m1 k1 (by omega) fun g' k1' k3' => ?_))
      have k2' := (k3'.2 d (Ne.symm n)).trans k2
      refine wpAny_bind (wpAny_dictEpoch k2' g3 ?_)
      rw [if_neg (by simp)]
      exact wpAny_pure ⟨g', x + 1, rfl, er, lt, by rw [merged_take_succ l more x p hp]; exact k1', k2', k3.trans k3'⟩
    · obtain ⟨g, i, rfl, hr, hi, k1, k2, k3⟩ := hI
      have ei : i = e2.size := by
        have y := congrArg List.length hr
        rw [List.length_drop, List.length_range, List.length_nil] at y
        omega
      rw [ei, ← sz, List.take_length] at k1
      exact wpAny_pure (q g k1 ⟨o2, e2, n2, k2, g2, g3, g4, g5, g6⟩ k3)
  split
  · refine wpAny_bind (wpAny_dictEntries g1 g3 (wpAny_bind ?_))
    rw [← Array.forIn_toList]
    refine wpAny_forIn_list _ (fun rest _ s' => s' = s ∧ ∀ e ∈ rest, e ∈ e2) _ (fun x rest b s' hI => ?_) (fun b s' hI => ?_) _ _ ⟨rfl, fun e he => Array.mem_toList_iff.mp he⟩
    · obtain ⟨rfl, hm⟩ := hI
      obtain ⟨y, m3, m4⟩ := g4 x (hm x List.mem_cons_self)
      rcases keyIs_shape m3 with ⟨i, t, _, e⟩ | ⟨z, t, _, e⟩
      · rw [e]
        exact wpAny_pure ⟨rfl, fun e he => hm e (List.mem_cons_of_mem _ he)⟩
      · rw [e]
        exact wpAny_pure ⟨rfl, fun e he => hm e (List.mem_cons_of_mem _ he)⟩
    · rw [hI.1]
      exact go
  · exact go
/-- {**d, k: v} -/
def tStar1 (td tk tv : TE) : TE := fun σ H Q => ∀ p, H p = none → td σ (upd H p (.dK [])) fun x H1 => ∃ a kvs, x = .ref a ∧ a ≠ p ∧ H1 p = some (.dK []) ∧ H1 a = some (.dK kvs) ∧ kvs.length < sizeLine ∧
  ∀ q, upd H1 p (.dK (mergeK [] kvs)) q = none → tk σ (upd (upd H1 p (.dK (mergeK [] kvs))) q (.dK [])) fun y H2 => tv σ H2 fun v H3 => ∃ k, y = kV k ∧ q ≠ p ∧ H3 q = some (.dK []) ∧ H3 p = some (.dK (mergeK [] kvs)) ∧
    Q (.ref p) (upd (upd H3 q (.dK [(k, v)])) p (.dK (putK (mergeK [] kvs) k v)))
theorem pe_star1 {X : Cx} {e k v : Expr} {pos : Pos} {td tk tv : TE} (he : PE X e td) (hk : PE X k tk) (hv : PE X v tv) : PE X (.Dict [none, some k] [e, v] pos) (tStar1 td tk tv) := by
  refine ⟨fun pins s σ H Q I h => ?_⟩
  have hn := I.hok.fresh (Nat.le_refl s.heap.objs.size)
  have I1 := I.laid (a := s.heap.objs.size) (o := .dK []) (h' := s.heap.push { cls := .type "dict", data := .dict #[] }) (t' := s.toks) (fun _ _ q => Heap.get?_push_of_some _ q) (Nat.le_refl _) (dk_empty s.heap I.big)
  rw [arm_eval_Dict]
  refine wpAny_bind (wpAny_standAt ?_)
  unfold dictDisplay
  simp only [evalEachOpt, evalOpt, evalEach, List.map_cons, List.map_nil, List.zip_cons_cons, List.zip_nil_right, List.forIn_cons, List.forIn_nil, List.isEmpty_nil, if_true, pure_bind, bind_assoc, List.nil_append, List.length_cons, List.length_nil,
    List.isEmpty_cons, Bool.false_eq_true, if_false, Nat.zero_add, show ((1 : Nat) == 17) = false from rfl]
  refine wpAny_bind (wpAny_alloc (wpAny_bind (wpAny_holding (wpAny_bind (thn (he.run pins _ σ _ _ I1 (h _ hn)) fun u s1 ⟨x, H1, I2, rx, a, kvs, ex, nap, hp, ha, lk, q1⟩ => wpAny_bind (wpAny_standAt (wpAny_pure ?_)))))))
  subst ex
  obtain rfl : u = Value.ref a := rx
  obtain ⟨_, dp, vp, rp, cp⟩ := dk_of I2.hok hp
  cases rp
  obtain ⟨za, da, va, ra, ca⟩ := dk_of I2.hok ha
  have la : va.length = kvs.length := ra.length.symm
  refine wpAny_bind (wpAny_onRaise (wpAny_tryCatch (wpAny_onRaise (wpAny_holding (merge_map (Ne.symm nap) da cp ca (by rw [List.length_nil]; omega) fun g cp' ca' sb => ?_)))))
  have ea : ∃ ob, g.get? s.heap.objs.size = some ob := by
    obtain ⟨ob, _, _, y, _⟩ := id cp'
    exact ⟨ob, y⟩
  have lm : (mergeK [] kvs).length ≤ kvs.length := by
    have y := length_mergeK kvs []
    rw [List.length_nil] at y
    omega
  have I3 : L2.Inv X pins σ (upd H1 s.heap.objs.size (.dK (mergeK [] kvs))) { s1 with heap := g } := d_write (t' := s1.toks) I2 (by rw [hp]; exact True.intro) sb ea (dk_new (by omega) dp (ra.merge .nil) cp')
  have hn2 := I3.hok.fresh (Nat.le_refl g.objs.size)
  have I4 := I3.laid (a := g.objs.size) (o := .dK []) (h' := g.push { cls := .type "dict", data := .dict #[] }) (t' := s1.toks) (fun _ _ q => Heap.get?_push_of_some _ q) (Nat.le_refl _) (dk_empty g I3.big)
  refine wpAny_bind (wpAny_holding (wpAny_subDict (knd := mixKind X.prog X.w) (Nat.le_of_ble_eq_true rfl) ?_))
  refine evalPairs_cons (thn (hk.run pins _ σ _ _ I4 (q1 _ hn2)) fun u2 s2 ⟨y, H2, I5, ry, q2⟩ => ?_)
  refine wpAny_bind (thn (hv.run pins s2 σ H2 _ I5 q2) fun u3 s3 ⟨z, H3, I6, rz, kk, ek, nqp, hq3, hp3, q3⟩ => wpAny_bind (wpAny_standAt (wpAny_pure (evalPairs_nil ?_))))
  subst ek
  obtain ⟨_, dq, vq, rq, cq⟩ := dk_of I6.hok hq3
  cases rq
  obtain ⟨zp, _, wp3, rp3, cp3⟩ := dk_of I6.hok hp3
  refine ⟨[(kk, u3)], ⟨kV_is ry, rfl, True.intro⟩, cq, fun g2 cq2 sb2 => ?_⟩
  have eq2 : ∃ ob, g2.get? g.objs.size = some ob := by
    obtain ⟨ob, _, _, y, _⟩ := id cq2
    exact ⟨ob, y⟩
  have r1 : KV [(kk, z)] [(kk, u3)] := .cons ⟨rfl, rz⟩ .nil
  have m1 : merged [] [(kk, u3)] = [(kk, u3)] := rfl
  rw [m1] at cq2
  have one : ([(kk, z)] : List (Key × V)).length ≤ sizeLine := by rw [sizeLine_eq]; show 1 ≤ _; decide
  have I7 : L2.Inv X pins σ (upd H3 g.objs.size (.dK [(kk, z)])) { s3 with heap := g2, toks := s3.toks + 1 } := d_write (t' := s3.toks + 1) I6 (by rw [hq3]; exact True.intro) sb2 eq2 (dk_new one dq r1 cq2)
  have hp4 : upd H3 g.objs.size (.dK [(kk, z)]) s.heap.objs.size = some (.dK (mergeK [] kvs)) := (upd_ne nqp.symm).trans hp3
  obtain ⟨zp4, _, wp4, rp4, cp4⟩ := dk_of I7.hok hp4
  have l4 : wp4.length = (mergeK [] kvs).length := rp4.length.symm
  refine wpAny_bind (wpAny_onRaise (wpAny_holding (merge_map (Ne.symm nqp) dq cp4 cq2 (by rw [l4]; show _ + 1 ≤ _; omega) fun g3 cp5 cq5 sb3 => wpAny_pure ?_)))
  have ea3 : ∃ ob, g3.get? s.heap.objs.size = some ob := by
    obtain ⟨ob, _, _, y, _⟩ := id cp5
    exact ⟨ob, y⟩
  have lp := length_putK (mergeK [] kvs) kk z
  exact ⟨.ref s.heap.objs.size, _, d_write (t' := s3.toks + 1) I7 (by rw [hp4]; exact True.intro) sb3 ea3 (dk_new (by omega) dp (rp4.put kk rz) cp5), rfl, q3⟩
/-! ### the head by a Hook: facts of the heap behind the top, each a Bool -/
/-- a def: where it stands in the heap behind the top, what it is -/
structure DefY where
  to : PySem.W.Frag → Addr
  nm : Str
  ql : Str
  ar : Arguments
  bd : List Stmt
  sc : Scope
  df : PySem.W.Frag → List V
abbrev DTab : Type := Option (Str × Str × Arguments × FuncBody × Scope × Addr × List (Str × Addr) × Addr)
def dtab : Option Obj → DTab
  | some ⟨_, _, .func g, _⟩ => some (g.name, g.qualname, g.params, g.body, g.scope, g.globals, g.closure, g.builtins)
  | _ => none
def dgood (K : PySem.W.Frag) (d : DefY) : Option Obj → Bool
  | some ⟨_, _, .func g, _⟩ => He.dflB K g.defaults (d.df K) && PySem.W.codeIn K g.code d.ql
  | _ => false
def DefY.want (d : DefY) : DTab := some (d.nm, d.ql, d.ar, .stmts d.bd, d.sc, mainGlobals, [], builtinsNs)
def DefY.good (K : PySem.W.Frag) (d : DefY) : Bool := dgood K d (K.lookup (d.to K)) && PySem.W.keepIn K (.ref (d.to K))
theorem DefY.is {K : PySem.W.Frag} {d : DefY} (e : dtab (K.lookup (d.to K)) = d.want) (c : d.good K = true) : ∃ fd, FunD K d.nm d.ql d.ar d.bd d.sc (d.df K) [] (d.to K) fd := by
  obtain ⟨c1, kp⟩ := He.ba c
  generalize ho : K.lookup (d.to K) = oo at e c1
  match oo, ho, e, c1 with
  | some ⟨oc, od, .func ⟨a1, a2, a3, a4, a5, a6, a7, a8, a9, b1, b2, b3, b4, b5, b6⟩, osl⟩, ho, e, c1 =>
    have e2 : (some (a1, a2, a3, a4, a5, a6, a7, b6) : DTab) = some (d.nm, d.ql, d.ar, .stmts d.bd, d.sc, mainGlobals, [], builtinsNs) := e
    obtain ⟨rfl, rfl, rfl, rfl, rfl, rfl, rfl, rfl⟩ : a1 = d.nm ∧ a2 = d.ql ∧ a3 = d.ar ∧ a4 = .stmts d.bd ∧ a5 = d.sc ∧ a6 = mainGlobals ∧ a7 = [] ∧ b6 = builtinsNs := by simpa using e2
    obtain ⟨g1, g2⟩ := He.ba c1
    exact ⟨_, ⟨oc, od, a8, a9, b1, b2, b3, b4, b5, osl, rfl, ho, g2, He.dflB_ok g1, .inl rfl⟩, kp⟩
/-! what the Hook looks at: the module's names, their codes, defaults, classes' names; the statics -/
def toV : Value → List Addr
  | .ref a => [a]
  | _ => []
def kidsY : Option Obj → List Addr
  | some ⟨c, _, .fields vs, _⟩ => (match c with
    | .type "staticmethod" => vs.toList.flatMap toV
    | _ => [])
  | some ⟨_, _, .func g, _⟩ => toV g.code ++ toV g.defaults
  | some ⟨_, _, .cls cd, _⟩ => [cd.ns]
  | some ⟨_, _, .dict es _, _⟩ => es.toList.flatMap fun e => toV e.val
  | some ⟨_, _, .seq its _, _⟩ => its.toList.flatMap toV
  | _ => []
def rowsY (g : Addr → Option Obj) : Nat → List Addr → List Addr
  | 0, _ => []
  | n + 1, as => as ++ rowsY g n (as.flatMap fun a => kidsY (g a))
def partY (n : Nat) (g : Addr → Option Obj) : PySem.W.Frag := He.frG g (cStatics :: rowsY g n [mainGlobals])
def lawD : He.Defn := ("law", none)
def tabB (K : PySem.W.Frag) (g : Addr → Option Obj) : Bool := PySem.W.codeHdIn K (He.cT K lawD).1 (He.cT K lawD).2 && ((K.lookup (He.cT K lawD).2).isNone && ((g (He.cT K lawD).2).any He.emptyTab))
abbrev AlY : Type := Bool × Bool × Bool × Bool × List DTab
def obsK (fa : List He.Fa) (fn : List DefY) (ex : List (PySem.W.Frag → Bool)) (g : Addr → Option Obj) (K : PySem.W.Frag) : AlY := (fa.all fun f => f.ok K, fn.all fun d => d.good K, ex.all fun b => b K, tabB K g, fn.map fun d => dtab (K.lookup (d.to K)))
def obsY (n : Nat) (fa : List He.Fa) (fn : List DefY) (ex : List (PySem.W.Frag → Bool)) (g : Addr → Option Obj) : AlY := obsK fa fn ex g (partY n g)
def wantY (fn : List DefY) : AlY := (true, true, true, true, fn.map DefY.want)
structure SaysY (fa : List He.Fa) (fn : List DefY) (ex : List (PySem.W.Frag → Bool)) (h : Heap) (K : PySem.W.Frag) : Prop where
  kin : K.In h
  fas : ∀ f ∈ fa, f.ok K = true
  exs : ∀ b ∈ ex, b K = true
  def_ : ∀ d ∈ fn, ∃ fd, FunD K d.nm d.ql d.ar d.bd d.sc (d.df K) [] (d.to K) fd
  hd : PySem.W.codeHdIn K (He.cT K lawD).1 (He.cT K lawD).2 = true
  out : K.lookup (He.cT K lawD).2 = none
  tab : h.get? (He.cT K lawD).2 = some { cls := .none, data := .fields #[] }
theorem saysY {n : Nat} {fa : List He.Fa} {fn : List DefY} {ex : List (PySem.W.Frag → Bool)} {h : Heap} (e : obsY n fa fn ex h.get? = wantY fn) : SaysY fa fn ex h (partY n h.get?) := by
  generalize hK : partY n h.get? = K
  have e' : obsK fa fn ex h.get? K = wantY fn := by rw [← hK]; exact e
  obtain ⟨e1, e2, e3, e4, e5⟩ : (fa.all fun f => f.ok K) = true ∧ (fn.all fun d => d.good K) = true ∧ (ex.all fun b => b K) = true ∧ tabB K h.get? = true ∧ (fn.map fun d => dtab (K.lookup (d.to K))) = fn.map DefY.want := by
    have q := e'
    unfold obsK wantY at q
    exact ⟨congrArg (fun z : AlY => z.1) q, congrArg (fun z : AlY => z.2.1) q, congrArg (fun z : AlY => z.2.2.1) q, congrArg (fun z : AlY => z.2.2.2.1) q, congrArg (fun z : AlY => z.2.2.2.2) q⟩
  obtain ⟨t1, t⟩ := He.ba e4
  obtain ⟨t2, t3⟩ := He.ba t
  refine ⟨by rw [← hK]; exact He.frG_in, List.all_eq_true.mp e1, List.all_eq_true.mp e3, fun d hd => DefY.is (List.map_inj_left.mp e5 d hd) (List.all_eq_true.mp e2 d hd), t1, by simpa using t2, ?_⟩
  cases q : h.get? (He.cT K lawD).2 with
  | none => rw [q] at t3; cases t3
  | some o => rw [q] at t3; rw [He.emptyTab_eq (o := o) t3]
def hookY (n : Nat) (fa : List He.Fa) (fn : List DefY) (ex : List (PySem.W.Frag → Bool)) : PySem.W.Hook where
  α := AlY
  obs := fun s => obsY n fa fn ex s.heap.get?
  val := fun _ => wantY fn
  says := fun _ h => ∃ K : PySem.W.Frag, SaysY fa fn ex h K
  of := fun _ _ e => ⟨_, saysY e⟩
  keeps := fun _ _ _ ⟨K, c⟩ k => ⟨K, PySem.W.Frag.In.keeps c.kin k, c.fas, c.exs, c.def_, c.hd, c.out, k _ _ c.tab⟩
theorem obsY_eq {n : Nat} {fa : List He.Fa} {fn : List DefY} {ex : List (PySem.W.Frag → Bool)} {g : Addr → Option Obj} {s : Shared} (h : ∀ a, g a = s.heap.get? a) : obsY n fa fn ex g = (hookY n fa fn ex).obs s := by
  have e : g = s.heap.get? := funext h
  subst e
  rfl
section
variable {fa : List He.Fa} {fn : List DefY} {ex : List (PySem.W.Frag → Bool)} {h : Heap} {K : PySem.W.Frag} (c : SaysY fa fn ex h K)
include c
theorem SaysY.fact (i : Nat) {f : He.Fa} (e : fa[i]? = some f := by rfl) : f.ok K = true := c.fas f (List.mem_of_getElem? e)
theorem SaysY.own (i : Nat) {b : PySem.W.Frag → Bool} (e : ex[i]? = some b := by rfl) : b K = true := c.exs b (List.mem_of_getElem? e)
theorem SaysY.get (i : Nat) {d : DefY} (e : fn[i]? = some d := by rfl) : ∃ fd, FunD K d.nm d.ql d.ar d.bd d.sc (d.df K) [] (d.to K) fd := c.def_ d (List.mem_of_getElem? e)
end
/-- a tuple at an address -/
def tupY (K : PySem.W.Frag) (a : Addr) (vs : List V) : Bool := (K.lookup a).any fun o => decide (o.cls = .type "tuple") && (match o.data with
  | .seq its _ => decide (its.size ≤ 1000) && He.relAll vs its.toList
  | _ => false)
theorem tupY_ok {K : PySem.W.Frag} {a : Addr} {vs : List V} (h : tupY K a vs = true) (H : Hp) : SqT K H a vs := by
  unfold tupY at h
  obtain ⟨o, ho, h⟩ : ∃ o, K.lookup a = some o ∧ (decide (o.cls = .type "tuple") && (match o.data with
    | .seq its _ => decide (its.size ≤ 1000) && He.relAll vs its.toList
    | _ => false)) = true := by
    cases q : K.lookup a with
    | none => rw [q] at h; cases h
    | some o => rw [q] at h; exact ⟨o, rfl, h⟩
  obtain ⟨h1, h2⟩ := He.ba h
  split at h2
  · rename_i its n hd
    obtain ⟨h3, h4⟩ := He.ba h2
    exact .inr ⟨o, its, n, ho, of_decide_eq_true h1, hd, Nat.le_of_lt (small1000 (of_decide_eq_true h3)), He.relAll_ok h4⟩
  · cases h2
/-- a class that makes objects -/
def mkB (C f : PySem.W.Frag → Addr) (K : PySem.W.Frag) : Bool := PySem.W.makesIn K (C K) && (He.eqO (PySem.W.findIn K (.ref (C K)) "__init__") (some (some (.ref (f K)))) && (PySem.W.isFn K (.ref (f K)) && PySem.W.keepIn K (.ref (C K))))
theorem mkB_ok {C f : PySem.W.Frag → Addr} {K : PySem.W.Frag} (h : mkB C f K = true) : Mk K (C K) (f K) := by
  obtain ⟨h1, h⟩ := He.ba h
  obtain ⟨h2, h⟩ := He.ba h
  obtain ⟨h3, h4⟩ := He.ba h
  exact ⟨h1, He.eqO_ok h2, h3, h4⟩
/-- isinstance of an own class -/
def insB (x : Str) (K : PySem.W.Frag) : Bool := He.eqO (PySem.W.findIn K (.ref (He.ga K x)) "__class__") (some (some (.builtin "object.__class__"))) && (He.eqO (PySem.W.specialIn K (.builtin "object.__class__") "__get__") (some (some (.builtin "getset_descriptor.__get__"))) && (decide (PySem.W.takesIn K (.builtin "object.__class__") = some true) &&
  (decide (PySem.W.mroIn K (He.ga K x) (.type "object") = some true) && (decide (PySem.W.kitOne K (.ref (He.ga K x)) (.ref (He.ga K x)) = some true) && decide (PySem.W.kitOne K (.type "list") (.ref (He.ga K x)) = some false)))))
theorem insB_ok {x : Str} {K : PySem.W.Frag} (c : Cls K (He.ga K x)) (h : insB x K = true) : C8.InsC K (He.ga K x) ∧ PySem.W.kitOne K (.type "list") (.ref (He.ga K x)) = some false := by
  obtain ⟨h1, h⟩ := He.ba h
  obtain ⟨h2, h⟩ := He.ba h
  obtain ⟨h3, h⟩ := He.ba h
  obtain ⟨h4, h⟩ := He.ba h
  obtain ⟨h5, h6⟩ := He.ba h
  exact ⟨⟨c, He.eqO_ok h1, He.eqO_ok h2, of_decide_eq_true h3, of_decide_eq_true h4, of_decide_eq_true h5⟩, of_decide_eq_true h6⟩
/-- a static method -/
def smP (C m : Str) (K : PySem.W.Frag) : Addr := He.ma K (He.ga K C) m
def smF (C m : Str) (K : PySem.W.Frag) : Addr := match PySem.W.recIn K (smP C m K) "staticmethod" with
  | some (.ref g :: _) => g
  | _ => 0
def smB (C m : Str) (K : PySem.W.Frag) : Bool := PySem.W.readsIn K (He.ga K C) (.type "type") && (He.eqO (PySem.W.specialIn K (.ref (He.ga K C)) "__getattribute__") (some (some (.builtin "type.__getattribute__"))) && ((match PySem.W.findCls K (.ref (He.ga K C)) (.type "type") m with
  | some (.get (.builtin b) (.ref p) .none (.ref c)) => decide (b = "staticmethod.__get__") && (decide (p = smP C m K) && decide (c = He.ga K C))
  | _ => false) && ((match PySem.W.recIn K (smP C m K) "staticmethod" with
  | some (.ref _ :: _) => true
  | _ => false) && PySem.W.keepIn K (.ref (smF C m K)))))
theorem smB_ok {C m : Str} {K : PySem.W.Frag} (h : smB C m K = true) : ∃ mc p, SMet K (He.ga K C) mc m p (smF C m K) := by
  obtain ⟨h1, h⟩ := He.ba h
  obtain ⟨h2, h⟩ := He.ba h
  obtain ⟨h3, h⟩ := He.ba h
  obtain ⟨h4, h5⟩ := He.ba h
  refine ⟨_, smP C m K, h1, He.eqO_ok h2, ?_, ?_, h5⟩
  · split at h3
    · rename_i b p c e
      obtain ⟨q1, q⟩ := He.ba h3
      obtain ⟨q2, q3⟩ := He.ba q
      rw [e, of_decide_eq_true q1, of_decide_eq_true q2, of_decide_eq_true q3]
    · cases h3
  · unfold smF
    split at h4
    · rename_i g r e
      rw [e]
      exact ⟨r, rfl⟩
    · cases h4
theorem fun_of {K : PySem.W.Frag} {x q : Str} {st : Stmt} {f : Addr} {fd : FuncData} (F : FunD K x q (defArgs st) (defBody st) (defScope st) [] [] f fd) : Fun K x q st f fd := by
  obtain ⟨oc, od, dV, kV, doc, pm, an, cdv, ct, osl, rfl, lk, hcd, hD, hK⟩ := F.ex
  rcases hD with ⟨_, rfl⟩ | ⟨e, _⟩
  · exact ⟨⟨oc, od, kV, doc, pm, an, cdv, ct, osl, rfl, lk, hcd⟩, F.kp⟩
  · exact absurd rfl e
theorem funC_of {K : PySem.W.Frag} {st : Stmt} {fd : FuncData} (F : FunD K "law" "law" (defArgs st) (defBody st) (defScope st) [] [] (He.ga K "law") fd) : FunC K "law" st (He.ga K "law") fd (He.cT K lawD).1 := by
  obtain ⟨oc, od, dV, kV, doc, pm, an, cdv, ct, osl, rfl, lk, hcd, hD, hK⟩ := F.ex
  rcases hD with ⟨_, rfl⟩ | ⟨e, _⟩
  · obtain ⟨c, rfl⟩ := He.codeIn_ref hcd
    have e : (He.cT K lawD).1 = c := He.codeOf_eq (p := lawD) lk rfl
    rw [e]
    exact ⟨oc, od, kV, doc, pm, an, ct, osl, rfl, lk, hcd⟩
  · exact absurd rfl e
/-- an own error class -/
def oexB (K : PySem.W.Frag) (C : Addr) : Bool := (match K.lookup C with
  | some ⟨.type c, _, .cls cd, sl⟩ => (match cd.mro, sl.toList with
    | .ref C' :: bm, [_, _, _, _, some (.builtin n), _] => decide (c = "type") && ((C' == C) && (decide (n = "ValueError.__new__") && (!cd.hasDel && (cd.hasDict && PySem.HandSPX.refsVE bm))))
    | _, _ => false)
  | _ => false) && (He.eqO (PySem.W.findIn K (.ref C) "__setattr__") (some (some (.builtin "object.__setattr__"))) && (decide (PySem.W.subIn K (.ref C) (.type "BaseException") = some true) && (decide (PySem.W.typeIn K (.ref C) = some (.type "type")) && PySem.W.keepIn K (.ref C))))
theorem oexB_ok {K : PySem.W.Frag} {C : Addr} (h : oexB K C = true) : OexC K C := by
  obtain ⟨h1, h⟩ := He.ba h
  obtain ⟨h2, h⟩ := He.ba h
  obtain ⟨h3, h⟩ := He.ba h
  obtain ⟨h4, h5⟩ := He.ba h
  refine ⟨?_, He.eqO_ok h2, of_decide_eq_true h3, of_decide_eq_true h4, h5⟩
  split at h1
  · rename_i c dd cd sl ho
    split at h1
    · rename_i C' bm k0 k1 k2 k3 n k5 hm hs
      obtain ⟨e1, q⟩ := He.ba h1
      obtain ⟨e2, q⟩ := He.ba q
      obtain ⟨e3, q⟩ := He.ba q
      obtain ⟨e4, q⟩ := He.ba q
      obtain ⟨e5, q6⟩ := He.ba q
      have e1 := of_decide_eq_true e1
      have e2 := beq_iff_eq.mp e2
      have e3 := of_decide_eq_true e3
      subst e1 e2 e3
      obtain ⟨nm, bs, mro, ns, qn, hd, sn, sub, ab, col, del⟩ := cd
      dsimp only at hm e4 e5
      have e4 : del = false := by cases del with | false => rfl | true => cases e4
      subst hm e4 e5
      have hsl : sl = #[k0, k1, k2, k3, some (.builtin "ValueError.__new__"), k5] := by
        obtain ⟨sl⟩ := sl
        simp only at hs
        rw [hs]
      subst hsl
      exact ⟨nm, qn, ns, bs, bm, sn, sub, ab, col, dd, k0, k1, k2, k3, k5, ho, q6⟩
    · cases h1
  · cases h1
/-- an own error class with its maker -/
def errB (x : Str) (K : PySem.W.Frag) : Bool := oexB K (He.ga K x) && (xfB K (He.ga K x) && (He.eqO (PySem.W.nsIn K mainGlobals x) (some (some (.ref (He.ga K x)))) && (He.eqO (PySem.W.findIn K (.ref (He.ga K x)) "tag") (some none) && (decide (PySem.W.exmOne K (.ref (He.ga K x)) (.ref (He.ga K "TieError")) = some true) && (decide (PySem.W.exmOne K (.ref (He.ga K x)) (.ref (He.ga K "Missing")) = some false) &&
  (He.eqO (PySem.W.findIn K (.ref (He.ga K x)) "__init__") (some (some (.ref (He.ma K (He.ga K x) "__init__")))) && decide (PySem.W.typeIn K (.ref (He.ma K (He.ga K x) "__init__")) = some (.type "function"))))))))
theorem errB_ok {K : PySem.W.Frag} {mg : Str → Option Value} {hp : Heap} {x : Str} (X : K.In hp) (G : hp.Ns mainGlobals mg) (h : errB x K = true) : ErrC K mg x (He.ga K x) (He.ga K "TieError") (He.ga K "Missing") (He.ma K (He.ga K x) "__init__") := by
  obtain ⟨h1, h⟩ := He.ba h
  obtain ⟨h2, h⟩ := He.ba h
  obtain ⟨h3, h⟩ := He.ba h
  obtain ⟨h4, h⟩ := He.ba h
  obtain ⟨h5, h⟩ := He.ba h
  obtain ⟨h6, h⟩ := He.ba h
  obtain ⟨h7, h8⟩ := He.ba h
  exact ⟨oexB_ok h1, xfB_ok h2, PySem.W.mg_of X G (He.eqO_ok h3), He.eqO_ok h4, exm_any (of_decide_eq_true h5) (of_decide_eq_true h6), He.eqO_ok h7, of_decide_eq_true h8⟩
theorem intC {K : PySem.W.Frag} {mg : Str → Option Value} {hp : Heap} {x : Str} {i : Int} (X : K.In hp) (G : hp.Ns mainGlobals mg) (h : (He.Fa.int x i).ok K = true) : ∃ u, mg x = some u ∧ RelV (V.int i) u := by
  obtain ⟨t, e⟩ := He.int_ok X G h
  exact ⟨_, e, ⟨_, rfl⟩⟩
theorem strC {K : PySem.W.Frag} {mg : Str → Option Value} {hp : Heap} {x z : Str} (X : K.In hp) (G : hp.Ns mainGlobals mg) (h : (He.Fa.str x z).ok K = true) : ∃ u, mg x = some u ∧ RelV (V.str z) u := by
  obtain ⟨t, e⟩ := He.str_ok X G h
  exact ⟨_, e, ⟨_, rfl⟩⟩
theorem refC {K : PySem.W.Frag} {mg : Str → Option Value} {hp : Heap} {x : Str} (X : K.In hp) (G : hp.Ns mainGlobals mg) (h : (He.Fa.glo x).ok K = true) : ∃ u, mg x = some u ∧ RelV (V.ref (He.ga K x)) u := ⟨_, He.glo_ok X G h, rfl⟩
section
open PySem.W PySem.Calls PyProof.Rows
/-- the run's equation in three looks, each its own run -/
noncomputable abbrev endY (r : PySem.W.OpenRow) (M : Nat) (w : World) (os : OsState) : Option PySem.W.SharedT := HandSHeadRun.endF (HandSHeadRun.stepQ (HandSHeadRun.denQ HandSHeadRun.tabQ) r.prog w) M r.prog w os
theorem run_three {r : PySem.W.OpenRow} {q : Program} {H : PySem.W.Hook} {ob : PySem.W.SharedT → H.α} {M : Nat} {loose : List Str} {w : World} (h1 : ∀ os, (endY r M w os).map (fun s => HandSHeadRun.looksF r.prog (boot_heap w.params) s.abs) = some true)
    (h2 : ∀ os, (endY r M w os).map (fun s => HandSHeadRun.seenQ q loose (importedModules r.prog.main.body) (fun s => PySem.W.xlAt q [] s && PySem.W.recOk r.toRowW.records s) s.abs) = some (PySem.W.openGood q loose)) (h3 : ∀ os, (endY r M w os).map ob = some (H.val w)) :
    HandSHeadRun.RunEq r q H ob M loose w := by
  intro os
  obtain ⟨s, e, a⟩ := Option.map_eq_some_iff.mp (h1 os)
  have b := h2 os
  have c := h3 os
  rw [e] at b c
  show (endY r M w os).map _ = _
  rw [e]
  have b' := Option.some.inj b
  have c' := Option.some.inj c
  exact congrArg some (Prod.ext a (Prod.ext b' c'))
end
end EK
namespace T8
open PySem PySem.Spec PyProof.Rows L2 EK
def topS (i : Nat) : Stmt := PySem.Challenge.pw_tiespan_k12_rows_refused.main.body.getD i (.Pass ⟨0, 0, 0, 0⟩)
abbrev s_p_is_whole : Stmt := topS 13
abbrev s_p_common_divisor : Stmt := topS 15
abbrev s_p_ratio : Stmt := topS 16
abbrev s_p_is_ratio : Stmt := topS 17
abbrev s_p_is_less : Stmt := topS 18
abbrev s_p_least : Stmt := topS 19
abbrev s_p_greatest : Stmt := topS 20
abbrev s_p_precedes : Stmt := topS 22
abbrev s_p_merged : Stmt := topS 23
abbrev s_p_in_order : Stmt := topS 24
abbrev s_p_is_row : Stmt := topS 26
abbrev s_p_cross : Stmt := topS 27
abbrev s_p_opposite : Stmt := topS 28
abbrev s_p_loose : Stmt := topS 29
abbrev s_p_lowest : Stmt := topS 30
abbrev s_p_tightest : Stmt := topS 31
abbrev s_p_by_slope : Stmt := topS 32
abbrev s_p_follows : Stmt := topS 33
abbrev s_p_chain : Stmt := topS 34
abbrev s_p_crossing : Stmt := topS 35
abbrev s_p_wall_stretch : Stmt := topS 36
abbrev s_p_first_numbers : Stmt := topS 37
abbrev s_p_second_numbers : Stmt := topS 38
abbrev s_p_framed : Stmt := topS 39
abbrev s_p_upright : Stmt := topS 40
abbrev s_p_wall : Stmt := topS 41
abbrev s_p_shown : Stmt := topS 42
abbrev s_p_canonical : Stmt := topS 43
abbrev s_feed : Stmt := topS 65
abbrev s_draw : Stmt := topS 66
abbrev s_any : Stmt := topS 67
abbrev s_field : Stmt := topS 68
abbrev s_why : Stmt := topS 69
abbrev s_gcd : Stmt := topS 70
abbrev s_low : Stmt := topS 71
abbrev s_plus : Stmt := topS 72
abbrev s_by : Stmt := topS 73
abbrev s_part : Stmt := topS 74
abbrev s_rows : Stmt := topS 75
abbrev s_spot : Stmt := topS 76
abbrev s_p_law : Stmt := topS 77
theorem sc_p_is_whole : FnScope ["thing"] ["thing"] (defScope s_p_is_whole) := ⟨rfl, rfl, rfl, by decide +kernel, rfl, by decide +kernel, by decide +kernel⟩
theorem sc_p_common_divisor : FnScope ["one", "other"] ["one", "other"] (defScope s_p_common_divisor) := ⟨rfl, rfl, rfl, by decide +kernel, rfl, by decide +kernel, by decide +kernel⟩
theorem sc_p_ratio : FnScope ["top", "under", "shared"] ["top", "under"] (defScope s_p_ratio) := ⟨rfl, rfl, rfl, by decide +kernel, rfl, by decide +kernel, by decide +kernel⟩
theorem sc_p_is_ratio : FnScope ["thing", "top", "under"] ["thing"] (defScope s_p_is_ratio) := ⟨rfl, rfl, rfl, by decide +kernel, rfl, by decide +kernel, by decide +kernel⟩
theorem sc_p_is_less : FnScope ["one", "other"] ["one", "other"] (defScope s_p_is_less) := ⟨rfl, rfl, rfl, by decide +kernel, rfl, by decide +kernel, by decide +kernel⟩
theorem sc_p_least : FnScope ["values", "found", "value"] ["values"] (defScope s_p_least) := ⟨rfl, rfl, rfl, by decide +kernel, rfl, by decide +kernel, by decide +kernel⟩
theorem sc_p_greatest : FnScope ["values", "found", "value"] ["values"] (defScope s_p_greatest) := ⟨rfl, rfl, rfl, by decide +kernel, rfl, by decide +kernel, by decide +kernel⟩
theorem sc_p_precedes : FnScope ["one", "other"] ["one", "other"] (defScope s_p_precedes) := ⟨rfl, rfl, rfl, by decide +kernel, rfl, by decide +kernel, by decide +kernel⟩
theorem sc_p_merged : FnScope ["ones", "others", "found", "at", "one"] ["ones", "others"] (defScope s_p_merged) := ⟨rfl, rfl, rfl, by decide +kernel, rfl, by decide +kernel, by decide +kernel⟩
theorem sc_p_in_order : FnScope ["things", "middle"] ["things"] (defScope s_p_in_order) := ⟨rfl, rfl, rfl, by decide +kernel, rfl, by decide +kernel, by decide +kernel⟩
theorem sc_p_is_row : FnScope ["thing", "a", "b", "c"] ["thing"] (defScope s_p_is_row) := ⟨rfl, rfl, rfl, by decide +kernel, rfl, by decide +kernel, by decide +kernel⟩
theorem sc_p_cross : FnScope ["one", "other"] ["one", "other"] (defScope s_p_cross) := ⟨rfl, rfl, rfl, by decide +kernel, rfl, by decide +kernel, by decide +kernel⟩
theorem sc_p_opposite : FnScope ["row", "a", "b", "c"] ["row"] (defScope s_p_opposite) := ⟨rfl, rfl, rfl, by decide +kernel, rfl, by decide +kernel, by decide +kernel⟩
theorem sc_p_loose : FnScope ["top", "under"] ["top", "under"] (defScope s_p_loose) := ⟨rfl, rfl, rfl, by decide +kernel, rfl, by decide +kernel, by decide +kernel⟩
theorem sc_p_lowest : FnScope ["one"] ["one"] (defScope s_p_lowest) := ⟨rfl, rfl, rfl, by decide +kernel, rfl, by decide +kernel, by decide +kernel⟩
theorem sc_p_tightest : FnScope ["rows", "bounds", "a", "b", "c", "shared", "way"] ["rows"] (defScope s_p_tightest) := ⟨rfl, rfl, rfl, by decide +kernel, rfl, by decide +kernel, by decide +kernel⟩
theorem sc_p_by_slope : FnScope ["rows", "placed", "row", "thing"] ["rows"] (defScope s_p_by_slope) := ⟨rfl, rfl, rfl, by decide +kernel, rfl, by decide +kernel, by decide +kernel⟩
theorem sc_p_follows : FnScope ["row", "one", "other", "top", "under", "first", "second", "mine", "theirs"] ["row", "one", "other"] (defScope s_p_follows) := ⟨rfl, rfl, rfl, by decide +kernel, rfl, by decide +kernel, by decide +kernel⟩
theorem sc_p_chain : FnScope ["rows", "kept", "row"] ["rows"] (defScope s_p_chain) := ⟨rfl, rfl, rfl, by decide +kernel, rfl, by decide +kernel, by decide +kernel⟩
theorem sc_p_crossing : FnScope ["one", "other", "a", "b", "c", "d", "e", "f"] ["one", "other"] (defScope s_p_crossing) := ⟨rfl, rfl, rfl, by decide +kernel, rfl, by decide +kernel, by decide +kernel⟩
theorem sc_p_wall_stretch : FnScope ["rows", "low", "top", "a", "b", "c"] ["rows"] (defScope s_p_wall_stretch) := ⟨rfl, rfl, rfl, by decide +kernel, rfl, by decide +kernel, by decide +kernel⟩
theorem sc_p_first_numbers : FnScope ["rows", "tops", "floors", "low", "top", "one", "other", "c", "f", "a", "bound"] ["rows", "tops", "floors"] (defScope s_p_first_numbers) := ⟨rfl, rfl, rfl, by decide +kernel, rfl, by decide +kernel, by decide +kernel⟩
theorem sc_p_second_numbers : FnScope ["rows", "x", "low", "top", "a", "b", "c", "bound"] ["rows", "x"] (defScope s_p_second_numbers) := ⟨rfl, rfl, rfl, by decide +kernel, rfl, by decide +kernel, by decide +kernel⟩
theorem sc_p_framed : FnScope ["low", "top", "tops", "floors", "right", "left"] ["low", "top", "tops", "floors"] (defScope s_p_framed) := ⟨rfl, rfl, rfl, by decide +kernel, rfl, by decide +kernel, by decide +kernel⟩
theorem sc_p_upright : FnScope ["rows", "x", "low", "top", "tops", "floors"] ["rows", "x"] (defScope s_p_upright) := ⟨rfl, rfl, rfl, by decide +kernel, rfl, by decide +kernel, by decide +kernel⟩
theorem sc_p_wall : FnScope ["rows", "x", "low", "top"] ["rows", "x"] (defScope s_p_wall) := ⟨rfl, rfl, rfl, by decide +kernel, rfl, by decide +kernel, by decide +kernel⟩
theorem sc_p_shown : FnScope ["rows", "low", "top", "found", "at", "row", "right", "left"] ["rows", "low", "top"] (defScope s_p_shown) := ⟨rfl, rfl, rfl, by decide +kernel, rfl, by decide +kernel, by decide +kernel⟩
theorem sc_p_canonical : FnScope ["rows", "tight", "row", "tops", "floors", "stretch", "low", "top", "left", "right"] ["rows"] (defScope s_p_canonical) := ⟨rfl, rfl, rfl, by decide +kernel, rfl, by decide +kernel, by decide +kernel⟩
theorem sc_feed : FnScope ["_law_script", "_law_cell", "_law_cells", "_law_mark"] ["_law_script"] (defScope s_feed) := ⟨rfl, rfl, rfl, by decide +kernel, rfl, by decide +kernel, by decide +kernel⟩
theorem sc_draw : FnScope ["_law_feed_here", "_law_many", "_law_cell", "_law_one", "_law_two", "_law_drawn"] ["_law_feed_here", "_law_many"] (defScope s_draw) := ⟨rfl, rfl, rfl, by decide +kernel, rfl, by decide +kernel, by decide +kernel⟩
theorem sc_any : FnScope ["_law_feed_here", "_law_row"] ["_law_feed_here", "_law_row"] (defScope s_any) := ⟨rfl, rfl, rfl, by decide +kernel, rfl, by decide +kernel, by decide +kernel⟩
theorem sc_field : FnScope ["_law_e"] ["_law_e"] (defScope s_field) := ⟨rfl, rfl, rfl, by decide +kernel, rfl, by decide +kernel, by decide +kernel⟩
theorem sc_why : FnScope ["_law_ask", "_law_told", "_law_e"] ["_law_ask"] (defScope s_why) := ⟨rfl, rfl, rfl, by decide +kernel, rfl, by decide +kernel, by decide +kernel⟩
theorem sc_gcd : FnScope ["_law_one", "_law_two"] ["_law_one", "_law_two"] (defScope s_gcd) := ⟨rfl, rfl, rfl, by decide +kernel, rfl, by decide +kernel, by decide +kernel⟩
theorem sc_low : FnScope ["_law_upper", "_law_lower", "_law_part_here"] ["_law_upper", "_law_lower"] (defScope s_low) := ⟨rfl, rfl, rfl, by decide +kernel, rfl, by decide +kernel, by decide +kernel⟩
theorem sc_plus : FnScope ["_law_one", "_law_two"] ["_law_one", "_law_two"] (defScope s_plus) := ⟨rfl, rfl, rfl, by decide +kernel, rfl, by decide +kernel, by decide +kernel⟩
theorem sc_by : FnScope ["_law_one", "_law_two"] ["_law_one", "_law_two"] (defScope s_by) := ⟨rfl, rfl, rfl, by decide +kernel, rfl, by decide +kernel, by decide +kernel⟩
theorem sc_part : FnScope ["_law_feed_here", "_law_size", "_law_upper"] ["_law_feed_here", "_law_size"] (defScope s_part) := ⟨rfl, rfl, rfl, by decide +kernel, rfl, by decide +kernel, by decide +kernel⟩
theorem sc_rows : FnScope ["_law_feed_here", "_law_many", "_law_first_x", "_law_second_y", "_law_found", "_law_loose", "_law_k", "_law_a", "_law_b", "_law_c"] ["_law_feed_here", "_law_many"] (defScope s_rows) := ⟨rfl, rfl, rfl, by decide +kernel, rfl, by decide +kernel, by decide +kernel⟩
theorem sc_spot : FnScope ["_law_a", "_law_b", "_law_point"] ["_law_a", "_law_b", "_law_point"] (defScope s_spot) := ⟨rfl, rfl, rfl, by decide +kernel, rfl, by decide +kernel, by decide +kernel⟩
theorem sc_p_law : FnScope ["_law_script", "_law_feed_here", "_law_turn", "_law_odd", "_law_at", "_law_late", "_law_kept", "_law_bent", "_law_lines"] ["_law_script"] (defScope s_p_law) := ⟨rfl, rfl, rfl, by decide +kernel, rfl, by decide +kernel, by decide +kernel⟩
abbrev s_p_FigInit : Stmt := inClass (topS 63) 0
theorem sc_p_FigInit : FnScope ["self", "rows", "at", "row", "sides"] ["self", "rows"] (defScope s_p_FigInit) := ⟨rfl, rfl, rfl, by decide +kernel, rfl, by decide +kernel, by decide +kernel⟩
structure Txt (K : PySem.W.Frag) (mg : Str → Option Value) (fa : Nat → Addr) (fd : Nat → FuncData) : Prop where
  F_FigInit : FunD K "__init__" "Figure.__init__" (defArgs s_p_FigInit) (defBody s_p_FigInit) (defScope s_p_FigInit) [V.ref (fa 1502)] [] (fa 1500) (fd 1500)
  b_FigInit : Binds K (fd 1500) ["self", "rows"] []
  b_FigInit1 : ∃ ds, Vals [V.ref (fa 1502)] ds ∧ Binds K (fd 1500) ["self", "rows"] ds
  z_FigInit : ∀ H : Hp, SqT K H (fa 1502) []
  mk_Figure : Mk K (fa 63) (fa 1500)
  g_Figure : mg "Figure" = some (.ref (fa 63))
  cl_Figure : Cls K (fa 63)
  na_Figure_filled : NoAttr K (fa 63) "filled"
  na_Figure_sides : NoAttr K (fa 63) "sides"
  kb_FigInit : KBn K (fd 1500) ["self", "rows"] 1 ["rows"] (fun us ws => us ++ [ws.getD 0 Value.none]) (fun vs zs => vs ++ [zs.getD 0 V.non])
  F_p_is_whole : Fun K "is_whole" "is_whole" s_p_is_whole (fa 13) (fd 13)
  g_p_is_whole : mg "is_whole" = some (.ref (fa 13))
  b_p_is_whole : Binds K (fd 13) ["thing"] []
  F_p_common_divisor : Fun K "common_divisor" "common_divisor" s_p_common_divisor (fa 15) (fd 15)
  g_p_common_divisor : mg "common_divisor" = some (.ref (fa 15))
  b_p_common_divisor : Binds K (fd 15) ["one", "other"] []
  F_p_ratio : FunD K "ratio" "ratio" (defArgs s_p_ratio) (defBody s_p_ratio) (defScope s_p_ratio) [V.int 1] [] (fa 16) (fd 16)
  g_p_ratio : mg "ratio" = some (.ref (fa 16))
  b_p_ratio : Binds K (fd 16) ["top", "under"] []
  d_p_ratio : ∃ ds, Vals [V.int 1] ds ∧ Binds K (fd 16) ["top", "under"] ds
  F_p_is_ratio : Fun K "is_ratio" "is_ratio" s_p_is_ratio (fa 17) (fd 17)
  g_p_is_ratio : mg "is_ratio" = some (.ref (fa 17))
  b_p_is_ratio : Binds K (fd 17) ["thing"] []
  F_p_is_less : Fun K "is_less" "is_less" s_p_is_less (fa 18) (fd 18)
  g_p_is_less : mg "is_less" = some (.ref (fa 18))
  b_p_is_less : Binds K (fd 18) ["one", "other"] []
  F_p_least : Fun K "least" "least" s_p_least (fa 19) (fd 19)
  g_p_least : mg "least" = some (.ref (fa 19))
  F_p_greatest : Fun K "greatest" "greatest" s_p_greatest (fa 20) (fd 20)
  g_p_greatest : mg "greatest" = some (.ref (fa 20))
  F_p_precedes : Fun K "precedes" "precedes" s_p_precedes (fa 22) (fd 22)
  g_p_precedes : mg "precedes" = some (.ref (fa 22))
  b_p_precedes : Binds K (fd 22) ["one", "other"] []
  F_p_merged : Fun K "merged" "merged" s_p_merged (fa 23) (fd 23)
  g_p_merged : mg "merged" = some (.ref (fa 23))
  b_p_merged : Binds K (fd 23) ["ones", "others"] []
  F_p_in_order : Fun K "in_order" "in_order" s_p_in_order (fa 24) (fd 24)
  g_p_in_order : mg "in_order" = some (.ref (fa 24))
  b_p_in_order : Binds K (fd 24) ["things"] []
  F_p_is_row : Fun K "is_row" "is_row" s_p_is_row (fa 26) (fd 26)
  g_p_is_row : mg "is_row" = some (.ref (fa 26))
  b_p_is_row : Binds K (fd 26) ["thing"] []
  F_p_cross : Fun K "cross" "cross" s_p_cross (fa 27) (fd 27)
  g_p_cross : mg "cross" = some (.ref (fa 27))
  b_p_cross : Binds K (fd 27) ["one", "other"] []
  F_p_opposite : Fun K "opposite" "opposite" s_p_opposite (fa 28) (fd 28)
  g_p_opposite : mg "opposite" = some (.ref (fa 28))
  b_p_opposite : Binds K (fd 28) ["row"] []
  F_p_loose : Fun K "loose" "loose" s_p_loose (fa 29) (fd 29)
  g_p_loose : mg "loose" = some (.ref (fa 29))
  b_p_loose : Binds K (fd 29) ["top", "under"] []
  F_p_lowest : Fun K "lowest" "lowest" s_p_lowest (fa 30) (fd 30)
  g_p_lowest : mg "lowest" = some (.ref (fa 30))
  b_p_lowest : Binds K (fd 30) ["one"] []
  F_p_tightest : Fun K "tightest" "tightest" s_p_tightest (fa 31) (fd 31)
  g_p_tightest : mg "tightest" = some (.ref (fa 31))
  b_p_tightest : Binds K (fd 31) ["rows"] []
  F_p_by_slope : Fun K "by_slope" "by_slope" s_p_by_slope (fa 32) (fd 32)
  g_p_by_slope : mg "by_slope" = some (.ref (fa 32))
  b_p_by_slope : Binds K (fd 32) ["rows"] []
  F_p_follows : Fun K "follows" "follows" s_p_follows (fa 33) (fd 33)
  g_p_follows : mg "follows" = some (.ref (fa 33))
  b_p_follows : Binds K (fd 33) ["row", "one", "other"] []
  F_p_chain : Fun K "chain" "chain" s_p_chain (fa 34) (fd 34)
  g_p_chain : mg "chain" = some (.ref (fa 34))
  b_p_chain : Binds K (fd 34) ["rows"] []
  F_p_crossing : Fun K "crossing" "crossing" s_p_crossing (fa 35) (fd 35)
  g_p_crossing : mg "crossing" = some (.ref (fa 35))
  b_p_crossing : Binds K (fd 35) ["one", "other"] []
  F_p_wall_stretch : Fun K "wall_stretch" "wall_stretch" s_p_wall_stretch (fa 36) (fd 36)
  g_p_wall_stretch : mg "wall_stretch" = some (.ref (fa 36))
  b_p_wall_stretch : Binds K (fd 36) ["rows"] []
  F_p_first_numbers : Fun K "first_numbers" "first_numbers" s_p_first_numbers (fa 37) (fd 37)
  g_p_first_numbers : mg "first_numbers" = some (.ref (fa 37))
  b_p_first_numbers : Binds K (fd 37) ["rows", "tops", "floors"] []
  F_p_second_numbers : Fun K "second_numbers" "second_numbers" s_p_second_numbers (fa 38) (fd 38)
  g_p_second_numbers : mg "second_numbers" = some (.ref (fa 38))
  b_p_second_numbers : Binds K (fd 38) ["rows", "x"] []
  F_p_framed : Fun K "framed" "framed" s_p_framed (fa 39) (fd 39)
  g_p_framed : mg "framed" = some (.ref (fa 39))
  b_p_framed : Binds K (fd 39) ["low", "top", "tops", "floors"] []
  F_p_upright : Fun K "upright" "upright" s_p_upright (fa 40) (fd 40)
  g_p_upright : mg "upright" = some (.ref (fa 40))
  b_p_upright : Binds K (fd 40) ["rows", "x"] []
  F_p_wall : Fun K "wall" "wall" s_p_wall (fa 41) (fd 41)
  g_p_wall : mg "wall" = some (.ref (fa 41))
  b_p_wall : Binds K (fd 41) ["rows", "x"] []
  F_p_shown : Fun K "shown" "shown" s_p_shown (fa 42) (fd 42)
  g_p_shown : mg "shown" = some (.ref (fa 42))
  b_p_shown : Binds K (fd 42) ["rows", "low", "top"] []
  F_p_canonical : Fun K "canonical" "canonical" s_p_canonical (fa 43) (fd 43)
  g_p_canonical : mg "canonical" = some (.ref (fa 43))
  b_p_canonical : Binds K (fd 43) ["rows"] []
  F_feed : Fun K "_law_feed" "_law_feed" s_feed (fa 65) (fd 65)
  g_feed : mg "_law_feed" = some (.ref (fa 65))
  b_feed : Binds K (fd 65) ["_law_script"] []
  F_draw : Fun K "_law_draw" "_law_draw" s_draw (fa 66) (fd 66)
  g_draw : mg "_law_draw" = some (.ref (fa 66))
  b_draw : Binds K (fd 66) ["_law_feed_here", "_law_many"] []
  F_any : Fun K "_law_any" "_law_any" s_any (fa 67) (fd 67)
  g_any : mg "_law_any" = some (.ref (fa 67))
  b_any : Binds K (fd 67) ["_law_feed_here", "_law_row"] []
  F_field : Fun K "_law_field" "_law_field" s_field (fa 68) (fd 68)
  g_field : mg "_law_field" = some (.ref (fa 68))
  b_field : Binds K (fd 68) ["_law_e"] []
  F_why : Fun K "_law_why" "_law_why" s_why (fa 69) (fd 69)
  g_why : mg "_law_why" = some (.ref (fa 69))
  b_why : Binds K (fd 69) ["_law_ask"] []
  F_gcd : Fun K "_law_gcd" "_law_gcd" s_gcd (fa 70) (fd 70)
  g_gcd : mg "_law_gcd" = some (.ref (fa 70))
  b_gcd : Binds K (fd 70) ["_law_one", "_law_two"] []
  F_low : Fun K "_law_low" "_law_low" s_low (fa 71) (fd 71)
  g_low : mg "_law_low" = some (.ref (fa 71))
  b_low : Binds K (fd 71) ["_law_upper", "_law_lower"] []
  F_plus : Fun K "_law_plus" "_law_plus" s_plus (fa 72) (fd 72)
  g_plus : mg "_law_plus" = some (.ref (fa 72))
  b_plus : Binds K (fd 72) ["_law_one", "_law_two"] []
  F_by : Fun K "_law_by" "_law_by" s_by (fa 73) (fd 73)
  g_by : mg "_law_by" = some (.ref (fa 73))
  b_by : Binds K (fd 73) ["_law_one", "_law_two"] []
  F_part : Fun K "_law_part" "_law_part" s_part (fa 74) (fd 74)
  g_part : mg "_law_part" = some (.ref (fa 74))
  b_part : Binds K (fd 74) ["_law_feed_here", "_law_size"] []
  F_rows : Fun K "_law_rows" "_law_rows" s_rows (fa 75) (fd 75)
  g_rows : mg "_law_rows" = some (.ref (fa 75))
  b_rows : Binds K (fd 75) ["_law_feed_here", "_law_many"] []
  F_spot : Fun K "_law_spot" "_law_spot" s_spot (fa 76) (fd 76)
  g_spot : mg "_law_spot" = some (.ref (fa 76))
  b_spot : Binds K (fd 76) ["_law_a", "_law_b", "_law_point"] []
  F_p_law : Fun K "law" "law" s_p_law (fa 77) (fd 77)
  g_p_law : mg "law" = some (.ref (fa 77))
  b_p_law : Binds K (fd 77) ["_law_script"] []
  eInvalidRatio : ErrC K mg "InvalidRatio" (fa 3) (fa 2) (fa 6) (fa 1003)
  IInvalidRatio : Fun K "__init__" "InvalidRatio.__init__" (inClass (topS 3) 0) (fa 1003) (fd 1003)
  bIInvalidRatio : Binds K (fd 1003) ["self", "given"] []
  nInvalidRatio_given : PySem.W.findIn K (.ref (fa 3)) "given" = some none
  eInvalidRow : ErrC K mg "InvalidRow" (fa 4) (fa 2) (fa 6) (fa 1004)
  IInvalidRow : Fun K "__init__" "InvalidRow.__init__" (inClass (topS 4) 0) (fa 1004) (fd 1004)
  bIInvalidRow : Binds K (fd 1004) ["self", "at"] []
  nInvalidRow_at : PySem.W.findIn K (.ref (fa 4)) "at" = some none
  gTieError : mg "TieError" = some (.ref (fa 2))
  gMissing : mg "Missing" = some (.ref (fa 6))
  c_LONG : ∃ u, mg "LONG" = some u ∧ RelV (.int 4096) u
  c_ZERO : ∃ u, mg "ZERO" = some u ∧ RelV (.ref (fa 2000)) u
  z_ZERO : ∀ H : Hp, SqT K H ((fa 2000)) [V.int 0, V.int 1]
  m_int : mg "int" = none
  m_len : mg "len" = none
  m_abs : mg "abs" = none
  m_range : mg "range" = none
  m_zip : mg "zip" = none
  m_all : mg "all" = none
  m_isinstance : mg "isinstance" = none
  m_bool : mg "bool" = none
  m_str : mg "str" = none
  m_tuple : mg "tuple" = none
  m_list : mg "list" = none
  m_dict : mg "dict" = none
  m_sorted : mg "sorted" = none
  m_set : mg "set" = none
  m_enumerate : mg "enumerate" = none
/-! ### the head -/
section
open PySem.W PySem.Calls
abbrev hR : OpenRow := OpenLaw.row PySem.Challenge.rw_tiespan_k12_rows_refused
abbrev hQ : Program := view hR.prog [77]
def hN0 : List PySem.Str := ["_wall", "TieError", "InvalidRatio", "InvalidRow", "EmptyFigure", "Missing", "NothingLeft", "ZERO", "LONG", "LEADING", "HALF", "is_whole", "shortened", "common_divisor", "ratio", "is_ratio", "is_less", "least", "greatest", "precedes", "merged", "in_order", "is_row", "cross", "opposite", "loose", "lowest", "tightest", "by_slope", "follows"]
def hN1 : List PySem.Str := ["chain", "crossing", "wall_stretch", "first_numbers", "second_numbers", "framed", "upright", "wall", "shown", "canonical", "AXES", "is_within", "meeting", "corner_points", "foot", "spots", "turns_off", "turned_off", "height", "reach", "lies_within", "whole_point", "edge", "is_left", "bent", "edges", "joint_rows", "Figure", "_law_feed", "_law_draw"]
def hN2 : List PySem.Str := ["_law_any", "_law_field", "_law_why", "_law_gcd", "_law_low", "_law_plus", "_law_by", "_law_part", "_law_rows", "_law_spot"]
def hN : List PySem.Str := hN0 ++ hN1 ++ hN2
def hd13 : DefY := ⟨fun K => He.ga K "is_whole", "is_whole", "is_whole", defArgs s_p_is_whole, defBody s_p_is_whole, defScope s_p_is_whole, fun K => []⟩
def hd15 : DefY := ⟨fun K => He.ga K "common_divisor", "common_divisor", "common_divisor", defArgs s_p_common_divisor, defBody s_p_common_divisor, defScope s_p_common_divisor, fun K => []⟩
def hd16 : DefY := ⟨fun K => He.ga K "ratio", "ratio", "ratio", defArgs s_p_ratio, defBody s_p_ratio, defScope s_p_ratio, fun K => [V.int 1]⟩
def hd17 : DefY := ⟨fun K => He.ga K "is_ratio", "is_ratio", "is_ratio", defArgs s_p_is_ratio, defBody s_p_is_ratio, defScope s_p_is_ratio, fun K => []⟩
def hd18 : DefY := ⟨fun K => He.ga K "is_less", "is_less", "is_less", defArgs s_p_is_less, defBody s_p_is_less, defScope s_p_is_less, fun K => []⟩
def hd19 : DefY := ⟨fun K => He.ga K "least", "least", "least", defArgs s_p_least, defBody s_p_least, defScope s_p_least, fun K => []⟩
def hd20 : DefY := ⟨fun K => He.ga K "greatest", "greatest", "greatest", defArgs s_p_greatest, defBody s_p_greatest, defScope s_p_greatest, fun K => []⟩
def hd22 : DefY := ⟨fun K => He.ga K "precedes", "precedes", "precedes", defArgs s_p_precedes, defBody s_p_precedes, defScope s_p_precedes, fun K => []⟩
def hd23 : DefY := ⟨fun K => He.ga K "merged", "merged", "merged", defArgs s_p_merged, defBody s_p_merged, defScope s_p_merged, fun K => []⟩
def hd24 : DefY := ⟨fun K => He.ga K "in_order", "in_order", "in_order", defArgs s_p_in_order, defBody s_p_in_order, defScope s_p_in_order, fun K => []⟩
def hd26 : DefY := ⟨fun K => He.ga K "is_row", "is_row", "is_row", defArgs s_p_is_row, defBody s_p_is_row, defScope s_p_is_row, fun K => []⟩
def hd27 : DefY := ⟨fun K => He.ga K "cross", "cross", "cross", defArgs s_p_cross, defBody s_p_cross, defScope s_p_cross, fun K => []⟩
def hd28 : DefY := ⟨fun K => He.ga K "opposite", "opposite", "opposite", defArgs s_p_opposite, defBody s_p_opposite, defScope s_p_opposite, fun K => []⟩
def hd29 : DefY := ⟨fun K => He.ga K "loose", "loose", "loose", defArgs s_p_loose, defBody s_p_loose, defScope s_p_loose, fun K => []⟩
def hd30 : DefY := ⟨fun K => He.ga K "lowest", "lowest", "lowest", defArgs s_p_lowest, defBody s_p_lowest, defScope s_p_lowest, fun K => []⟩
def hd31 : DefY := ⟨fun K => He.ga K "tightest", "tightest", "tightest", defArgs s_p_tightest, defBody s_p_tightest, defScope s_p_tightest, fun K => []⟩
def hd32 : DefY := ⟨fun K => He.ga K "by_slope", "by_slope", "by_slope", defArgs s_p_by_slope, defBody s_p_by_slope, defScope s_p_by_slope, fun K => []⟩
def hd33 : DefY := ⟨fun K => He.ga K "follows", "follows", "follows", defArgs s_p_follows, defBody s_p_follows, defScope s_p_follows, fun K => []⟩
def hd34 : DefY := ⟨fun K => He.ga K "chain", "chain", "chain", defArgs s_p_chain, defBody s_p_chain, defScope s_p_chain, fun K => []⟩
def hd35 : DefY := ⟨fun K => He.ga K "crossing", "crossing", "crossing", defArgs s_p_crossing, defBody s_p_crossing, defScope s_p_crossing, fun K => []⟩
def hd36 : DefY := ⟨fun K => He.ga K "wall_stretch", "wall_stretch", "wall_stretch", defArgs s_p_wall_stretch, defBody s_p_wall_stretch, defScope s_p_wall_stretch, fun K => []⟩
def hd37 : DefY := ⟨fun K => He.ga K "first_numbers", "first_numbers", "first_numbers", defArgs s_p_first_numbers, defBody s_p_first_numbers, defScope s_p_first_numbers, fun K => []⟩
def hd38 : DefY := ⟨fun K => He.ga K "second_numbers", "second_numbers", "second_numbers", defArgs s_p_second_numbers, defBody s_p_second_numbers, defScope s_p_second_numbers, fun K => []⟩
def hd39 : DefY := ⟨fun K => He.ga K "framed", "framed", "framed", defArgs s_p_framed, defBody s_p_framed, defScope s_p_framed, fun K => []⟩
def hd40 : DefY := ⟨fun K => He.ga K "upright", "upright", "upright", defArgs s_p_upright, defBody s_p_upright, defScope s_p_upright, fun K => []⟩
def hd41 : DefY := ⟨fun K => He.ga K "wall", "wall", "wall", defArgs s_p_wall, defBody s_p_wall, defScope s_p_wall, fun K => []⟩
def hd42 : DefY := ⟨fun K => He.ga K "shown", "shown", "shown", defArgs s_p_shown, defBody s_p_shown, defScope s_p_shown, fun K => []⟩
def hd43 : DefY := ⟨fun K => He.ga K "canonical", "canonical", "canonical", defArgs s_p_canonical, defBody s_p_canonical, defScope s_p_canonical, fun K => []⟩
def hd65 : DefY := ⟨fun K => He.ga K "_law_feed", "_law_feed", "_law_feed", defArgs s_feed, defBody s_feed, defScope s_feed, fun K => []⟩
def hd66 : DefY := ⟨fun K => He.ga K "_law_draw", "_law_draw", "_law_draw", defArgs s_draw, defBody s_draw, defScope s_draw, fun K => []⟩
def hd67 : DefY := ⟨fun K => He.ga K "_law_any", "_law_any", "_law_any", defArgs s_any, defBody s_any, defScope s_any, fun K => []⟩
def hd68 : DefY := ⟨fun K => He.ga K "_law_field", "_law_field", "_law_field", defArgs s_field, defBody s_field, defScope s_field, fun K => []⟩
def hd69 : DefY := ⟨fun K => He.ga K "_law_why", "_law_why", "_law_why", defArgs s_why, defBody s_why, defScope s_why, fun K => []⟩
def hd70 : DefY := ⟨fun K => He.ga K "_law_gcd", "_law_gcd", "_law_gcd", defArgs s_gcd, defBody s_gcd, defScope s_gcd, fun K => []⟩
def hd71 : DefY := ⟨fun K => He.ga K "_law_low", "_law_low", "_law_low", defArgs s_low, defBody s_low, defScope s_low, fun K => []⟩
def hd72 : DefY := ⟨fun K => He.ga K "_law_plus", "_law_plus", "_law_plus", defArgs s_plus, defBody s_plus, defScope s_plus, fun K => []⟩
def hd73 : DefY := ⟨fun K => He.ga K "_law_by", "_law_by", "_law_by", defArgs s_by, defBody s_by, defScope s_by, fun K => []⟩
def hd74 : DefY := ⟨fun K => He.ga K "_law_part", "_law_part", "_law_part", defArgs s_part, defBody s_part, defScope s_part, fun K => []⟩
def hd75 : DefY := ⟨fun K => He.ga K "_law_rows", "_law_rows", "_law_rows", defArgs s_rows, defBody s_rows, defScope s_rows, fun K => []⟩
def hd76 : DefY := ⟨fun K => He.ga K "_law_spot", "_law_spot", "_law_spot", defArgs s_spot, defBody s_spot, defScope s_spot, fun K => []⟩
def hd77 : DefY := ⟨fun K => He.ga K "law", "law", "law", defArgs s_p_law, defBody s_p_law, defScope s_p_law, fun K => []⟩
def hd1003 : DefY := ⟨fun K => He.ma K (He.ga K "InvalidRatio") "__init__", "__init__", "InvalidRatio.__init__", defArgs (inClass (topS 3) 0), defBody (inClass (topS 3) 0), defScope (inClass (topS 3) 0), fun K => []⟩
def hd1004 : DefY := ⟨fun K => He.ma K (He.ga K "InvalidRow") "__init__", "__init__", "InvalidRow.__init__", defArgs (inClass (topS 4) 0), defBody (inClass (topS 4) 0), defScope (inClass (topS 4) 0), fun K => []⟩
def hd1500 : DefY := ⟨fun K => He.ma K (He.ga K "Figure") "__init__", "__init__", "Figure.__init__", defArgs s_p_FigInit, defBody s_p_FigInit, defScope s_p_FigInit, fun K => [V.ref (He.dflAt ("Figure", some "__init__") 0 K)]⟩
def hFn : List DefY := hd13 :: hd15 :: hd16 :: hd17 :: hd18 :: hd19 :: hd20 :: hd22 :: hd23 :: hd24 :: hd26 :: hd27 :: hd28 :: hd29 :: hd30 :: hd31 :: hd32 :: hd33 :: hd34 :: hd35 :: hd36 :: hd37 :: hd38 :: hd39 :: hd40 :: hd41 :: hd42 :: hd43 :: hd65 :: hd66 :: (hd67 :: hd68 :: hd69 :: hd70 :: hd71 :: hd72 :: hd73 :: hd74 :: hd75 :: hd76 :: hd77 :: hd1003 :: hd1004 :: hd1500 :: [])
def hA0 : List He.Fa := [.glo "is_whole", .glo "common_divisor", .glo "ratio", .glo "is_ratio", .glo "is_less", .glo "least", .glo "greatest", .glo "precedes", .glo "merged", .glo "in_order", .glo "is_row", .glo "cross", .glo "opposite", .glo "loose", .glo "lowest", .glo "tightest", .glo "by_slope", .glo "follows", .glo "chain", .glo "crossing", .glo "wall_stretch", .glo "first_numbers", .glo "second_numbers", .glo "framed", .glo "upright", .glo "wall", .glo "shown", .glo "canonical", .glo "_law_feed", .glo "_law_draw"]
def hA1 : List He.Fa := [.glo "_law_any", .glo "_law_field", .glo "_law_why", .glo "_law_gcd", .glo "_law_low", .glo "_law_plus", .glo "_law_by", .glo "_law_part", .glo "_law_rows", .glo "_law_spot", .glo "law", .glo "TieError", .glo "Missing", .noat "InvalidRatio" "given", .noat "InvalidRow" "at", .int "LONG" 4096, .glo "ZERO", .free "int", .free "len", .free "abs", .free "range", .free "zip", .free "all", .free "isinstance", .free "bool", .free "str", .free "tuple", .free "list", .free "dict", .free "sorted"]
def hA2 : List He.Fa := [.free "set", .free "enumerate", .glo "Figure", .cls "Figure", .noat "Figure" "filled", .noat "Figure" "sides"]
def hA : List He.Fa := hA0 ++ (hA1 ++ (hA2))
def hE : List (PySem.W.Frag → Bool) := [errB "InvalidRatio",
  errB "InvalidRow",
  fun K => tupY K (He.ga K "ZERO") [V.int 0, V.int 1],
  mkB (fun K => He.ga K "Figure") (fun K => He.ma K (He.ga K "Figure") "__init__"),
  fun K => tupY K (He.dflAt ("Figure", some "__init__") 0 K) []]
abbrev hk : Hook := hookY 6 hA hFn hE
def hob (s : SharedT) : AlY := obsY 6 hA hFn hE (HandSHeadRun.getT s)
theorem hob_eq (s : SharedT) : hob s = hk.obs s.abs := obsY_eq (HandSHeadRun.getT_eq s)
set_option maxHeartbeats 0 in
theorem hrun1 (w : World) : ∀ os, (endY hR 12000 w os).map (fun s => HandSHeadRun.looksF hR.prog (boot_heap w.params) s.abs) = some true := by
  intro os
  kernel_rfl
set_option maxHeartbeats 0 in
theorem hrun2 (w : World) : ∀ os, (endY hR 12000 w os).map (fun s => HandSHeadRun.seenQ hQ hN (importedModules hR.prog.main.body) (fun s => PySem.W.xlAt hQ [] s && PySem.W.recOk hR.toRowW.records s) s.abs) = some (PySem.W.openGood hQ hN) := by
  intro os
  kernel_rfl
set_option maxHeartbeats 0 in
theorem hrun3 (w : World) : ∀ os, (endY hR 12000 w os).map hob = some (hk.val w) := by
  intro os
  kernel_rfl
theorem hrun (w : World) : HandSHeadRun.RunEq hR hQ hk hob 12000 hN w := run_three (hrun1 w) (hrun2 w) (hrun3 w)
end
/-! ### the law's own words: drawing -/
def FeedOk (H : Hp) (a c : Addr) : Prop := ∃ (ns : List Int) (k big mark : Int), H a = some (.lst [.ref c, .int k, .int big, .int mark]) ∧ H c = some (.lst (ns.map V.int)) ∧ c ≠ a ∧ ns.length ≤ 63 ∧ 0 ≤ k
def But (a : Addr) (H H' : Hp) : Prop := ∀ b o, b ≠ a → H b = some o → H' b = some o
theorem But.refl (a : Addr) (H : Hp) : But a H H := fun _ _ _ h => h
theorem But.trans {a : Addr} {H H1 H2 : Hp} (p : But a H H1) (q : But a H1 H2) : But a H H2 := fun b o n h => q b o n (p b o n h)
theorem But.upd {a : Addr} {H : Hp} {o : HO} : But a H (upd H a o) := fun b _ n h => by rw [upd_ne n]; exact h
theorem But.of {a : Addr} {H H' : Hp} (s : Same H H') : But a H H' := fun b o _ h => s b o h
theorem same_upd {H : Hp} {p : Addr} {o : HO} (h : H p = none) : Same H (upd H p o) := fun b x e => by
  rw [upd_ne (ne_of_none e h)]
  exact e
theorem FeedOk.new {H : Hp} {a c p : Addr} {o : HO} (h : FeedOk H a c) (n : H p = none) : FeedOk (upd H p o) a c := by
  obtain ⟨ns, k, big, mark, h1, h2, h3⟩ := h
  exact ⟨ns, k, big, mark, same_upd n _ _ h1, same_upd n _ _ h2, h3⟩
theorem FeedOk.same {H H' : Hp} {a c : Addr} (h : FeedOk H a c) (s : Same H H') : FeedOk H' a c := by
  obtain ⟨ns, k, big, mark, h1, h2, h3⟩ := h
  exact ⟨ns, k, big, mark, s _ _ h1, s _ _ h2, h3⟩
def Mid (m : Int) : Prop := 0 < m ∧ m.natAbs.log2 < 9000
def spDraw : Sp := fun vs H Q _ => ∃ (a c : Addr) (m : Int), vs = [.ref a, .int m] ∧ FeedOk H a c ∧ Mid m ∧ ∀ r H', 0 ≤ r → r < m → FeedOk H' a c → But a H H' → Q (.int r) H'
section
variable {P : Program} {w : World} {K : PySem.W.Frag} {mg : Str → Option Value} {base : Heap} {fa : Nat → Addr} {fd : Nat → FuncData}
theorem ok_draw (T : Txt K mg fa fd) : FnOk P w K mg base CX0 1 (fa 66) (fd 66) ["_law_feed_here", "_law_many"] spDraw := by
  refine T.F_draw.ok sc_draw (fun vs H Q E h => ?_) (fun cdv A outer s H vs Q E hr h => ?_)
  · obtain ⟨a, c, m, rfl, _⟩ := h
    rfl
  · obtain ⟨a, c, m, rfl, ⟨ns, k, big, mark, ha, hc, nca, hlen, hk⟩, ⟨hm, hm9⟩, q⟩ := h
    refine ⟨_, (C8.pss_cut (ps_if (pt_cmpR op_lt (pe_ix ix_list (pv 0) pe_int (fun _ _ => rfl)) pe_int (nomark _)) (C8.pss_cut (ps_asg (pe_op op_add (pe_ix ix_list (pv 0) pe_int (fun _ _ => rfl)) pe_int) (pg_sub (pv 0) pe_int set_list))
      (pss_cons (ps_set (i := 2) sc_draw.nd rfl (.inl rfl) (pe_op op_add (pe_ix ix_list (pv 0) pe_int (fun _ _ => rfl)) (pe_op op_mul (pe_ix ix_list (pv 0) pe_int (fun _ _ => rfl)) pe_int)))
      (C8.pss_cut (ps_if (pt_cmpR op_le (pe_ix ix_list (pv 0) pe_int (fun _ _ => rfl)) (pe_callB call_len_seq (by rfl) T.m_len PySem.boot_len (pa_cons (pe_ix ix_list (pv 0) pe_int (fun _ _ => rfl)) pa_nil)) (nomark _)) (pss_one (ps_set (i := 2) sc_draw.nd rfl (.inl rfl) (pe_ix ix_list (pe_ix ix_list (pv 0) pe_int (fun _ _ => rfl)) (pe_op op_sub (pe_ix ix_list (pv 0) pe_int (fun _ _ => rfl)) pe_int) (fun _ _ => rfl)))) pss_nil)
      (pss_cons (ps_if (PW.pt (pw_or (pt_cmpR op_gt (pe_ix ix_list (pv 0) pe_int (fun _ _ => rfl)) (pe_callB call_len_seq (by rfl) T.m_len PySem.boot_len (pa_cons (pe_ix ix_list (pv 0) pe_int (fun _ _ => rfl)) pa_nil)) (nomark _)) (pw_or1 (pt_cmpR op_lt (pv 2) (pe_op op_pow pe_int pe_int) (nomark _))))) (pss_cons (ps_set (i := 3) sc_draw.nd rfl (.inl rfl) (pe_op op_mod (pe_callTy call_int1 (by rfl) T.m_int PySem.Pv.boot_int (pa_cons (pe_op op_add (pe_op op_add (pe_op op_mul (pv 2) pe_int) (pe_op op_mul (pe_ix ix_list (pv 0) pe_int (fun _ _ => rfl)) pe_int)) (pe_ix ix_list (pv 0) pe_int (fun _ _ => rfl))) pa_nil)) pe_int))
      (pss_cons (ps_set (i := 4) sc_draw.nd rfl (.inl rfl) (pe_op op_mod (pe_callTy call_int1 (by rfl) T.m_int PySem.Pv.boot_int (pa_cons (pe_op op_add (pe_op op_mul (pv 3) (pv 3)) (pe_op op_mul (pe_ix ix_list (pv 0) pe_int (fun _ _ => rfl)) pe_int)) pa_nil)) pe_int))
      (pss_one (ps_ret (pe_op op_mod (pe_op op_fdiv (pe_op op_mod (pe_callTy call_int1 (by rfl) T.m_int PySem.Pv.boot_int (pa_cons (pe_op op_add (pe_op op_mul (pv 4) pe_int) (pv 3)) pa_nil)) pe_int) pe_int) (pv 1)))))) pss_nil)
      (pss_one (ps_asg (pv 2) (pg_sub (pv 0) pe_int set_list))))))) pss_nil)
      (pss_cons (ps_set (i := 5) sc_draw.nd rfl (.inl rfl) (pe_op op_mod (pe_callTy call_int1 (by rfl) T.m_int PySem.Pv.boot_int (pa_cons (pe_ix ix_list (pv 0) pe_int (fun _ _ => rfl)) pa_nil)) (pv 1)))
      (pss_cons (ps_asg (pe_op op_fdivW (pe_callTy call_int1 (by rfl) T.m_int PySem.Pv.boot_int (pa_cons (pe_ix ix_list (pv 0) pe_int (fun _ _ => rfl)) pa_nil)) (pv 1)) (pg_sub (pv 0) pe_int set_list))
      (pss_one (ps_ret (pv 5)))))), ?_⟩
    have i0 : ∀ (x y z u : V), atI [x, y, z, u] 0 = some x := fun _ _ _ _ => rfl
    have i1 : ∀ (x y z u : V), atI [x, y, z, u] 1 = some y := fun _ _ _ _ => rfl
    have i2 : ∀ (x y z u : V), atI [x, y, z, u] 2 = some z := fun _ _ _ _ => rfl
    have i3 : ∀ (x y z u : V), atI [x, y, z, u] 3 = some u := fun _ _ _ _ => rfl
    refine ⟨fun σ H1 => FeedOk H1 a c ∧ But a H H1 ∧ ∃ y2 y3 y4 y5, σ = [some (.ref a), some (.int m), y2, y3, y4, y5], ?_, fun σ H1 hM => ?_⟩
    · refine ⟨.ref a, rfl, a, _, _, _, rfl, rfl, SqL.of ha, i2 _ _ _ _, _, _, rfl, rfl, _, rfl, ite2 (fun e => ?_) (fun e => ?_)⟩
      · -- feed[1] = feed[1] + 1
        refine ⟨fun σ H1 => σ = [some (.ref a), some (.int m), none, none, none, none] ∧ H1 a = some (.lst [.ref c, .int (k + 1), .int big, .int mark]) ∧ H1 c = some (.lst (ns.map V.int)) ∧ But a H H1,
          ⟨.ref a, rfl, a, _, _, _, rfl, rfl, SqL.of ha, i1 _ _ _ _, _, _, rfl, rfl, .ref a, rfl, a, _, _, 1, rfl, rfl, ha, rfl, rfl, upd_same, by rw [upd_ne nca]; exact hc, But.upd⟩, fun σ H1 hM => ?_⟩
        obtain ⟨rfl, ha1, hc1, b1⟩ := hM
        refine ⟨.ref a, rfl, a, _, _, _, rfl, rfl, SqL.of ha1, i3 _ _ _ _, .ref a, rfl, a, _, _, _, rfl, rfl, SqL.of ha1, i1 _ _ _ _, _, _, rfl, rfl, .inr (by decide), _, _, rfl, rfl, ?_⟩
        refine ⟨fun σ H2 => H2 = H1 ∧ ∃ z : Int, σ = [some (.ref a), some (.int m), some (.int z), none, none, none], ?_, fun σ H2 hM => ?_⟩
        · refine ⟨.ref a, rfl, a, _, _, _, rfl, rfl, SqL.of ha1, i1 _ _ _ _, .ref a, rfl, a, _, _, _, rfl, rfl, SqL.of ha1, i0 _ _ _ _, c, _, rfl, .inl (SqL.of hc1), _, _, rfl, rfl, _, rfl, ite2 (fun e1 => ?_) (fun e1 => ?_)⟩
          · have h1 : k + 1 ≤ ((ns.map V.int).length : Int) := of_decide_eq_true e1
            rw [List.length_map] at h1
            have h2 : k.toNat < ns.length := by omega
            have g : (ns.map V.int)[k.toNat]? = some (.int ns[k.toNat]) := by rw [List.getElem?_map, List.getElem?_eq_getElem h2]; rfl
            exact ⟨.ref a, rfl, a, _, _, _, rfl, rfl, SqL.of ha1, i0 _ _ _ _, .ref a, rfl, a, _, _, _, rfl, rfl, SqL.of ha1, i1 _ _ _ _, _, _, rfl, rfl, c, _, _, _, rfl, rfl, SqL.of hc1, at_of (j := k.toNat) (by omega) g, rfl, _, rfl⟩
          · exact ⟨rfl, _, rfl⟩
        · obtain ⟨rfl, z, rfl⟩ := hM
          have tail : FeedOk (upd H2 a (.lst ([V.ref c, .int (k + 1), .int big, .int mark].set 2 (.int z)))) a c ∧ But a H (upd H2 a (.lst ([V.ref c, .int (k + 1), .int big, .int mark].set 2 (.int z)))) ∧ ∃ y2 y3 y4 y5, [some (V.ref a), some (.int m), some (.int z), none, none, none] = [some (V.ref a), some (.int m), y2, y3, y4, y5] :=
            ⟨⟨ns, k + 1, z, mark, upd_same, by rw [upd_ne nca]; exact hc1, nca, hlen, by omega⟩, b1.trans But.upd, _, _, _, _, rfl⟩
          have pos : ∀ x y : Int, 0 ≤ x % 2147483647 ∧ x % 2147483647 < 2147483647 := fun x _ => ⟨Int.emod_nonneg _ (by decide), Int.emod_lt_of_pos _ (by decide)⟩
          have done : ∀ x : Int, Q (.int (x % m)) H2 := fun x => q _ _ (Int.emod_nonneg _ (by omega)) (Int.emod_lt_of_pos _ hm) ⟨ns, k + 1, big, mark, ha1, hc1, nca, hlen, by omega⟩ b1
          refine ⟨.ref a, rfl, a, _, _, _, rfl, rfl, SqL.of ha1, i1 _ _ _ _, .ref a, rfl, a, _, _, _, rfl, rfl, SqL.of ha1, i0 _ _ _ _, c, _, rfl, .inl (SqL.of hc1), _, _, rfl, rfl, _, rfl, ite2 (fun e1 => ?_) (fun e1 => ?_)⟩
          · exact ⟨_, rfl, _, _, rfl, rfl, .inr (by decide), _, rfl, a, _, _, _, rfl, rfl, SqL.of ha1, i1 _ _ _ _, _, _, rfl, rfl, .inr (by decide), _, _, rfl, rfl, _, rfl, a, _, _, _, rfl, rfl, SqL.of ha1, i3 _ _ _ _, _, _, rfl, rfl, .inl ⟨_, rfl, _, _, rfl, rfl, (by show (0 : Int) < _; decide), _, rfl, _, rfl, _, _, rfl, rfl, .inl (by have p := pos (z * 48271 + (k + 1) * 69621 + mark) 0; exact ⟨by omega, by omega⟩), _, rfl, a, _, _, _, rfl, rfl, SqL.of ha1, i1 _ _ _ _, _, _, rfl, rfl, .inr (by decide), _, _, rfl, rfl, .inl ⟨_, rfl, _, _, rfl, rfl, (by show (0 : Int) < _; decide), _, rfl, _, _, rfl, rfl, .inr (by decide), _, rfl, _, _, rfl, rfl, .inl ⟨_, rfl, _, _, rfl, rfl, (by show (0 : Int) < _; decide), _, _, rfl, rfl, ⟨by decide, by decide⟩, _, rfl, _, _, rfl, rfl, hm, done _⟩⟩⟩⟩
          · refine ⟨_, rfl, _, _, rfl, rfl, ⟨by decide, by decide, by decide⟩, _, _, rfl, rfl, _, rfl, ite2 (fun e2 => ?_) (fun e2 => ?_)⟩
            · exact ⟨_, rfl, _, _, rfl, rfl, .inr (by decide), _, rfl, a, _, _, _, rfl, rfl, SqL.of ha1, i1 _ _ _ _, _, _, rfl, rfl, .inr (by decide), _, _, rfl, rfl, _, rfl, a, _, _, _, rfl, rfl, SqL.of ha1, i3 _ _ _ _, _, _, rfl, rfl, .inl ⟨_, rfl, _, _, rfl, rfl, (by show (0 : Int) < _; decide), _, rfl, _, rfl, _, _, rfl, rfl, .inl (by have p := pos (z * 48271 + (k + 1) * 69621 + mark) 0; exact ⟨by omega, by omega⟩), _, rfl, a, _, _, _, rfl, rfl, SqL.of ha1, i1 _ _ _ _, _, _, rfl, rfl, .inr (by decide), _, _, rfl, rfl, .inl ⟨_, rfl, _, _, rfl, rfl, (by show (0 : Int) < _; decide), _, rfl, _, _, rfl, rfl, .inr (by decide), _, rfl, _, _, rfl, rfl, .inl ⟨_, rfl, _, _, rfl, rfl, (by show (0 : Int) < _; decide), _, _, rfl, rfl, ⟨by decide, by decide⟩, _, rfl, _, _, rfl, rfl, hm, done _⟩⟩⟩⟩
            · exact ⟨_, rfl, .ref a, rfl, a, _, _, 2, rfl, rfl, ha1, rfl, tail⟩
      · exact ⟨⟨ns, k, big, mark, ha, hc, nca, hlen, hk⟩, But.refl _ _, none, none, none, none, rfl⟩
    · obtain ⟨⟨ns1, k1, big1, mark1, ha1, hc1, nca1, hlen1, hk1⟩, b1, y2, y3, y4, y5, rfl⟩ := hM
      refine ⟨.ref a, rfl, a, _, _, _, rfl, rfl, SqL.of ha1, i2 _ _ _ _, .inl ⟨_, rfl, _, rfl, _, _, rfl, rfl, hm, ?_⟩⟩
      refine ⟨.ref a, rfl, a, _, _, _, rfl, rfl, SqL.of ha1, i2 _ _ _ _, .inl ⟨_, rfl, _, rfl, _, _, rfl, rfl, ⟨hm, hm9⟩, ?_⟩⟩
      refine ⟨.ref a, rfl, a, _, _, 2, rfl, rfl, ha1, rfl, ?_⟩
      refine ⟨_, rfl, q _ _ (Int.emod_nonneg _ (by omega)) (Int.emod_lt_of_pos _ hm) ⟨ns1, k1, big1 / m, mark1, upd_same, ?_, nca1, hlen1, hk1⟩ (b1.trans But.upd)⟩
      rw [upd_ne nca1]
      exact hc1
theorem cut63 (xs : List V) (h : xs.length ≤ 63) : cutV xs none (some 63) = xs := by
  unfold cutV
  rw [show HT.sIx xs.length xs.length (some 63) = min 63 xs.length from HT.sIx_nat xs.length xs.length 63, HT.sIx_none]
  rw [Nat.min_eq_right h]
  exact List.take_length
def spFeed (K : PySem.W.Frag) : Sp := fun vs H Q _ => ∃ (a : Addr) (ns : List Int), vs = [.ref a] ∧ SqL K H a (ns.map V.int) ∧ ns.length ≤ 63 ∧ ∀ p c H', H p = none → H c = none → Same H H' → FeedOk H' p c → Q (.ref p) H'
theorem ok_feed (T : Txt K mg fa fd) : FnOk P w K mg base CX0 1 (fa 65) (fd 65) ["_law_script"] (spFeed K) := by
  refine T.F_feed.ok sc_feed (fun vs H Q E h => ?_) (fun cdv A outer s H vs Q E hr h => ?_)
  · obtain ⟨a, ns, rfl, _⟩ := h
    rfl
  · obtain ⟨a, ns, rfl, hS, hlen, q⟩ := h
    refine ⟨_, (C8.pss_cut (ps_setLc (i := 2) (own := [("_law_cell", 1)]) (g := gName 1) (tt := tYes) rfl sc_feed.nd rfl rfl (sw_true rfl rfl rfl (by decide +kernel)) (pi_list (pe_slice sl_list (pv 0) po_none (po_some pe_int))) (blkOk_by (own := [("_law_cell", 1)]) (N := ["_law_script", "_law_cell", "_law_cells", "_law_mark"]) (sc := defScope s_feed) (by decide +kernel)) (fun _ _ _ _ _ => pg_name (i := 1) sc_feed.nd rfl (Or.inl rfl)) (fun _ _ _ _ _ => pts_nil) (fun _ _ _ _ _ => (pe_callTy call_int1 (by rfl) T.m_int PySem.Pv.boot_int (pa_cons (pv 1) pa_nil))))
      (pss_cons (ps_set (i := 3) sc_feed.nd rfl (.inl rfl) (pe_op op_add pe_int (pe_op op_mul pe_int (pe_callB call_len_seq (by rfl) T.m_len PySem.boot_len (pa_cons (pv 2) pa_nil)))))
      (pss_cons (ps_for PassesOwn.never rfl (pi_list (pv 2)) (pg_name (i := 1) sc_feed.nd rfl (.inl rfl)) (pss_one (ps_set (i := 3) sc_feed.nd rfl (.inl rfl) (pe_op op_mod (pe_callTy call_int1 (by rfl) T.m_int PySem.Pv.boot_int (pa_cons (pe_op op_add (pe_op op_mul (pv 3) pe_int) (pv 1)) pa_nil)) pe_int))))
      (pss_one (ps_ret (pe_lst (pa_cons (pv 2) (pa_cons pe_int (pa_cons pe_int (pa_cons (pv 3) pa_nil)))))))))), ?_⟩
    refine ⟨fun σ H1 => ∃ c, σ = [some (.ref a), none, some (.ref c), none] ∧ H c = none ∧ Same H H1 ∧ H1 c = some (.lst (ns.map V.int)), ?_, fun σ H1 hM => ?_⟩
    · refine ⟨.ref a, rfl, 63, rfl, a, _, rfl, hS, fun p np => ?_⟩
      rw [cut63 _ (by rw [List.length_map]; exact hlen)]
      have s1 : Same H (upd H p (.lst (ns.map V.int))) := same_upd np
      refine ⟨p, rfl, ⟨_, SqL.of upd_same⟩, fun D nD => ?_⟩
      have nD0 : H D = none := s1.free nD
      have npD : p ≠ D := ne_of_none upd_same nD
      refine lc_list (K := K) (a := p) (xs := ns.map V.int) (fun i H2 => Same (upd H p (.lst (ns.map V.int))) H2 ∧ H2 D = some (.lst ((ns.take i).map V.int))) ⟨same_upd nD, upd_same⟩ (fun i H2 _ hp => SqL.of (hp.1 _ _ upd_same)) (fun i x H2 hx hp => ?_) (fun H2 hp => ?_)
      · rw [List.getElem?_map] at hx
        obtain ⟨z, hz, rfl⟩ := Option.map_eq_some_iff.mp hx
        refine ⟨rfl, _, rfl, .inl ⟨_, rfl, _, hp.2, ?_, ?_, ?_⟩⟩
        · rw [List.length_map, List.length_take]
          exact Nat.lt_of_le_of_lt (Nat.min_le_left _ _) (small1000 (by
            have := (List.getElem?_eq_some_iff.mp hz).1
            omega))
        · exact fun b o e => by
            rw [upd_ne (ne_of_none e nD)]
            exact hp.1 b o e
        · rw [upd_same, List.take_add_one, hz, List.map_append]
          rfl
      · rw [List.length_map] at hp
        refine ⟨D, rfl, nD0, s1.trans hp.1, ?_⟩
        rw [hp.2, List.take_length]
    · obtain ⟨c, rfl, nc, s1, hc⟩ := hM
      refine ⟨_, rfl, c, _, rfl, .inl (SqL.of hc), _, _, rfl, rfl, .inl (by decide), _, _, rfl, rfl, ?_⟩
      refine ⟨_, rfl, c, rfl, ⟨_, SqL.of hc⟩, for_list (K := K) (a := c) (xs := ns.map V.int) (fun i σ H2 => H2 = H1 ∧ ∃ (y1 : Option V) (m : Int), σ = [some (.ref a), y1, some (.ref c), some (.int m)] ∧ 0 ≤ m ∧ m < 1000000000000) ?_ (fun i σ H2 _ hp => by rw [hp.1]; exact SqL.of hc) (fun i x σ H2 hx hp => ?_) (fun σ H2 hp => ?_)⟩
      · refine ⟨rfl, _, _, rfl, ?_⟩
        rw [List.length_map]
        omega
      · obtain ⟨rfl, y1, m, rfl, h0, h1⟩ := hp
        rw [List.getElem?_map] at hx
        obtain ⟨z, hz, rfl⟩ := Option.map_eq_some_iff.mp hx
        exact ⟨_, rfl, _, _, rfl, rfl, .inr (by decide), _, rfl, _, _, rfl, rfl, .inl ⟨_, rfl, _, _, rfl, rfl, (by show (0 : Int) < _; decide), rfl, _, _, rfl, Int.emod_nonneg _ (by decide), Int.lt_trans (Int.emod_lt_of_pos _ (by decide)) (by decide)⟩⟩
      · obtain ⟨rfl, y1, m, rfl, h0, h1⟩ := hp
        refine ⟨_, rfl, _, rfl, Nat.le_trans (by decide : 4 ≤ 1000) (Nat.le_of_lt (small1000 (Nat.le_refl _))), fun p np => ?_⟩
        refine q p c _ (s1.free np) nc (s1.trans (same_upd np)) ⟨ns, 0, 0, m, upd_same, ?_, ne_of_none hc np, hlen, Int.le_refl _⟩
        rw [upd_ne (ne_of_none hc np)]
        exact hc
/-! ### the row's own draw -/
def spAny : Sp := fun vs H Q _ => ∃ (a c r : Addr) (xs : List V), vs = [.ref a, .ref r] ∧ FeedOk H a c ∧ H r = some (.lst xs) ∧ r ≠ a ∧ 0 < xs.length ∧ xs.length ≤ 1000 ∧ ∀ v H', v ∈ xs → FeedOk H' a c → But a H H' → Q v H'
theorem mid_small {n : Nat} (h0 : 0 < n) (h : n ≤ 1000) : Mid (n : Int) := ⟨by omega, by
  rw [Int.natAbs_natCast]
  exact Nat.lt_of_le_of_lt (Nat.log2_le_self n) (by omega)⟩
theorem ok_any (T : Txt K mg fa fd) : FnOk P w K mg base CX0 2 (fa 67) (fd 67) ["_law_feed_here", "_law_row"] spAny := by
  refine T.F_any.ok sc_any (fun vs H Q E h => ?_) (fun cdv A outer s H vs Q E hr h => ?_)
  · obtain ⟨a, c, m, xs, rfl, _⟩ := h
    rfl
  · obtain ⟨a, c, r, xs, rfl, hF, hx, nra, h0, h1, q⟩ := h
    refine ⟨_, (pss_one (ps_ret (pe_ix ix_list (pv 1) (pe_call (ok_draw T) (hr.mono (by decide)) (by rfl) T.g_draw T.F_draw.kp T.b_draw .nil pass0 (pa_cons (pv 0) (pa_cons (pe_callB call_len_seq (by rfl) T.m_len PySem.boot_len (pa_cons (pv 1) pa_nil)) pa_nil))) (fun _ _ => rfl)))), ?_⟩
    refine ⟨_, rfl, _, rfl, _, rfl, r, _, rfl, .inl (SqL.of hx), a, c, _, rfl, hF, mid_small h0 h1, fun z H' z0 z1 hF' b => ?_⟩
    have hz : z.toNat < xs.length := by omega
    exact ⟨r, xs, z, xs[z.toNat], rfl, rfl, SqL.of (b _ _ nra hx), at_of (j := z.toNat) (by omega) (List.getElem?_eq_getElem hz), q _ _ (List.getElem_mem hz) hF' b⟩
/-! ### the greatest common divisor -/
def spGcd : Sp := fun vs H Q _ => ∃ x y : Int, vs = [.int x, .int y] ∧ Q (.int (Int.gcd x y : Nat)) H
theorem ok_gcd (T : Txt K mg fa fd) : FnOk P w K mg base CX0 1 (fa 70) (fd 70) ["_law_one", "_law_two"] spGcd := by
  refine T.F_gcd.ok sc_gcd (fun vs H Q E h => ?_) (fun cdv A outer s H vs Q E hr h => ?_)
  · obtain ⟨x, y, rfl, _⟩ := h
    rfl
  · obtain ⟨x, y, rfl, q⟩ := h
    refine ⟨_, (pss_cons (ps_par (i := 0) (j := 1) (by rfl) sc_gcd.nd rfl rfl (by decide) rfl rfl (pa_cons (pe_callB call_abs (by rfl) T.m_abs PyProof.Rows.boot_abs (pa_cons (pv 0) pa_nil)) (pa_cons (pe_callB call_abs (by rfl) T.m_abs PyProof.Rows.boot_abs (pa_cons (pv 1) pa_nil)) pa_nil)) (by rfl))
      (pss_cons (ps_while PassesOwn.never (pt_cmpR op_ne (pv 1) pe_int (nomark _)) (pss_one (ps_par (i := 0) (j := 1) (by rfl) sc_gcd.nd rfl rfl (by decide) rfl rfl (pa_cons (pv 1) (pa_cons (pe_op op_mod (pe_callTy call_int1 (by rfl) T.m_int PySem.Pv.boot_int (pa_cons (pv 0) pa_nil)) (pv 1)) pa_nil)) (by rfl))))
      (pss_one (ps_ret (pv 0))))), ?_⟩
    refine ⟨_, rfl, _, rfl, _, rfl, _, rfl, _, _, rfl, ?_⟩
    have ab : ∀ z : Int, (if z < 0 then -z else z) = (z.natAbs : Int) := fun z => by split <;> omega
    rw [ab, ab]
    refine ⟨fun m σ H1 => ∃ u v : Nat, m = v ∧ σ = [some (.int (u : Int)), some (.int (v : Int))] ∧ H1 = H ∧ Nat.gcd u v = Int.gcd x y, ⟨_, x.natAbs, y.natAbs, rfl, rfl, rfl, rfl⟩, fun m σ H1 hW => ?_⟩
    obtain ⟨u, v, rfl, rfl, rfl, hg⟩ := hW
    refine ⟨_, rfl, rfl, _, rfl, ?_⟩
    by_cases hv : m = 0
    · subst hv
      rw [decide_eq_true (show V.int ((0 : Nat) : Int) = V.int 0 from rfl)]
      refine ⟨_, rfl, ?_⟩
      rw [Nat.gcd_zero_right] at hg
      rw [hg]
      exact q
    · rw [decide_eq_false (fun e => hv (by have := V.int.inj e; omega))]
      refine ⟨fun σ' H' => ∃ m', m' < m ∧ ∃ u v : Nat, m' = v ∧ σ' = [some (.int (u : Int)), some (.int (v : Int))] ∧ H' = H1 ∧ Nat.gcd u v = Int.gcd x y, fun σ' H' h => h, ?_⟩
      refine ⟨_, rfl, _, rfl, .inl ⟨_, rfl, _, rfl, _, _, rfl, rfl, (by show (0 : Int) < _; omega), ?_⟩⟩
      refine ⟨_, _, rfl, u % m, Nat.mod_lt _ (by omega), m, u % m, rfl, rfl, rfl, ?_⟩
      rw [← hg, Nat.gcd_comm m, ← Nat.gcd_rec, Nat.gcd_comm]
/-! ### lowest terms -/
def CDivG (_ j : Int) : Prop := j ≠ 0 ∧ j.natAbs.log2 < 9000
theorem op_fdivG {X : Cx} : OpR X (binaryOp .FloorDiv) (rI CDivG fun i j => .int (i.fdiv j)) := opI fun _ _ _ _ _ _ _ hc q => floordiv_int hc.1 q (.inl (PyProof.noPylong_of_log2 hc.2))
def lowG (u v : Int) : Int := if v < 0 then -(Int.gcd u v : Nat) else (Int.gcd u v : Nat)
def lowT (u v : Int) : Int := u.fdiv (lowG u v)
def lowD (u v : Int) : Int := v.fdiv (lowG u v)
theorem gcd_pos {u v : Int} (h : v ≠ 0) : 0 < Int.gcd u v := Nat.pos_of_ne_zero fun e => h (Int.gcd_eq_zero_iff.mp e).2
theorem gcd_le {u v : Int} (h : v ≠ 0) : Int.gcd u v ≤ v.natAbs := Nat.le_of_dvd (by omega) (Nat.gcd_dvd_right _ _)
theorem log2_mono {a b k : Nat} (h : a ≤ b) (hb : b.log2 < k) : a.log2 < k := by
  by_cases h0 : a = 0
  · subst h0
    rw [Nat.log2_zero]
    omega
  · have hb0 : b ≠ 0 := by omega
    exact (Nat.log2_lt h0).mpr (Nat.lt_of_le_of_lt h ((Nat.log2_lt hb0).mp hb))
theorem lowG_ok {u v : Int} (h : v ≠ 0) (h9 : v.natAbs.log2 < 4096) : CDivG u (lowG u v) := by
  have h1 := gcd_pos (u := u) h
  have h2 := gcd_le (u := u) h
  unfold lowG
  split
  · exact ⟨by omega, by rw [Int.natAbs_neg, Int.natAbs_natCast]; exact Nat.lt_trans (log2_mono h2 h9) (by decide)⟩
  · exact ⟨by omega, by rw [Int.natAbs_natCast]; exact Nat.lt_trans (log2_mono h2 h9) (by decide)⟩
def spLow : Sp := fun vs H Q _ => ∃ u v : Int, vs = [.int u, .int v] ∧ v ≠ 0 ∧ v.natAbs.log2 < 4096 ∧ ∀ p, H p = none → Q (.ref p) (upd H p (.tup [.int (lowT u v), .int (lowD u v)]))
theorem two_line : 2 ≤ sizeLine := Nat.le_trans (by decide : 2 ≤ 1000) (Nat.le_of_lt (small1000 (Nat.le_refl _)))
theorem ok_low (T : Txt K mg fa fd) : FnOk P w K mg base CX0 2 (fa 71) (fd 71) ["_law_upper", "_law_lower"] spLow := by
  refine T.F_low.ok sc_low (fun vs H Q E h => ?_) (fun cdv A outer s H vs Q E hr h => ?_)
  · obtain ⟨x, y, rfl, _⟩ := h
    rfl
  · obtain ⟨u, v, rfl, h0, h9, q⟩ := h
    refine ⟨_, (pss_cons (ps_set (i := 2) sc_low.nd rfl (.inl rfl) (pe_call (ok_gcd T) (hr.mono (by decide)) (by rfl) T.g_gcd T.F_gcd.kp T.b_gcd .nil pass0 (pa_cons (pv 0) (pa_cons (pv 1) pa_nil))))
      (C8.pss_cut (ps_if (pt_cmpR op_lt (pv 1) pe_int (nomark _)) (pss_one (ps_set (i := 2) sc_low.nd rfl (.inl rfl) (pe_un un_neg (pv 2)))) pss_nil)
      (pss_one (ps_ret (pe_tup (pa_cons (pe_op op_fdivG (pv 0) (pv 2)) (pa_cons (pe_op op_fdivG (pv 1) (pv 2)) pa_nil))))))), ?_⟩
    refine ⟨_, rfl, _, rfl, u, v, rfl, ?_⟩
    refine ⟨fun σ H1 => H1 = H ∧ σ = [some (.int u), some (.int v), some (.int (lowG u v))], ?_, fun σ H1 hM => ?_⟩
    · refine ⟨_, rfl, _, _, rfl, rfl, _, rfl, ite2 (fun e => ?_) (fun e => ?_)⟩
      · refine ⟨_, rfl, _, rfl, rfl, ?_⟩
        unfold lowG
        rw [if_pos (of_decide_eq_true e)]
        rfl
      · refine ⟨rfl, ?_⟩
        unfold lowG
        rw [if_neg (fun z => e (decide_eq_true z))]
        rfl
    · obtain ⟨rfl, rfl⟩ := hM
      have hG := lowG_ok (u := u) h0 h9
      exact ⟨_, rfl, _, rfl, _, _, rfl, rfl, hG, _, rfl, _, rfl, _, _, rfl, rfl, hG, two_line, q⟩
/-! ### sameness of data -/
def Leaf (v w : V) : Prop := v = w ∧ (v = .non ∨ (∃ b, v = .bl b) ∨ (∃ i, v = .int i) ∨ ∃ x, v = .str x)
def Eqd (H : Hp) : Nat → V → V → Prop
  | 0, v, w => Leaf v w
  | n + 1, v, w => Leaf v w ∨ ∃ (a b : Addr) (xs ys : List V), v = .ref a ∧ w = .ref b ∧ ((H a = some (.lst xs) ∧ H b = some (.lst ys)) ∨ (H a = some (.tup xs) ∧ H b = some (.tup ys))) ∧ xs.length = ys.length ∧ xs.length ≤ 1000 ∧
      ∀ (i : Nat) (x y : V), xs[i]? = some x → ys[i]? = some y → Eqd H n x y
theorem Eqd.leaf {H : Hp} {n : Nat} {v w : V} (h : Leaf v w) : Eqd H n v w := by
  cases n with
  | zero => exact h
  | succ n => exact .inl h
theorem Eqd.mono {H H' : Hp} (s : Same H H') : ∀ (n : Nat) {v w : V}, Eqd H n v w → Eqd H' n v w
  | 0, _, _, h => h
  | n + 1, _, _, h => by
    rcases h with h | ⟨a, b, xs, ys, e1, e2, h, l1, l2, r⟩
    · exact .inl h
    · refine .inr ⟨a, b, xs, ys, e1, e2, ?_, l1, l2, fun i x y h1 h2 => Eqd.mono s n (r i x y h1 h2)⟩
      rcases h with ⟨h1, h2⟩ | ⟨h1, h2⟩
      · exact .inl ⟨s _ _ h1, s _ _ h2⟩
      · exact .inr ⟨s _ _ h1, s _ _ h2⟩
def spSame (n : Nat) : Sp := fun vs H Q _ => ∃ v w : V, vs = [v, w] ∧ Eqd H n v w ∧ ∀ H', Same H H' → Q (.bl true) H'
def spS : Nat → Sp
  | 0 => fun _ _ _ _ => False
  | n + 1 => spSame n
theorem none_of_false {K : PySem.W.Frag} {f : Addr} {fd : FuncData} {st : Stmt} {x : Str} {N ps : List Str} (F : Fun K x x st f fd) (S : FnScope N ps (defScope st)) : FnOk P w K mg base CX0 1 f fd ps (fun _ _ _ _ => False) :=
  F.ok S (fun _ _ _ _ h => h.elim) fun _ _ _ _ _ _ _ _ _ h => h.elim
theorem kit2 {K : PySem.W.Frag} {a b c : String} {r1 r2 : Bool} (h1 : kitB a b = some r1) (h2 : kitB a c = some r2) : PySem.W.kitAny K (.type a) [.type b, .type c] = some (r1 || r2) := by
  cases r1 with
  | true => exact kitAny_cons (kit_ty h1) (fun h => nomatch h) fun _ => rfl
  | false =>
    refine kitAny_cons (kit_ty h1) (fun _ => ?_) fun h => nomatch h
    cases r2 with
    | true => exact kitAny_cons (kit_ty h2) (fun h => nomatch h) fun _ => rfl
    | false => exact kitAny_cons (kit_ty h2) (fun _ => kitAny_nil) fun h => nomatch h
end
/-! ### more of lowest terms -/
theorem lowG_ne {u v : Int} (h : v ≠ 0) : lowG u v ≠ 0 := by
  have h1 := gcd_pos (u := u) h
  unfold lowG
  split <;> omega
theorem lowG_dvd_left (u v : Int) : lowG u v ∣ u := by
  unfold lowG
  split
  · exact Int.neg_dvd.mpr (Int.gcd_dvd_left _ _)
  · exact (Int.gcd_dvd_left _ _)
theorem lowG_dvd_right (u v : Int) : lowG u v ∣ v := by
  unfold lowG
  split
  · exact Int.neg_dvd.mpr (Int.gcd_dvd_right _ _)
  · exact (Int.gcd_dvd_right _ _)
theorem lowT_mul {u v : Int} (h : v ≠ 0) : u = lowG u v * lowT u v := by
  obtain ⟨t, ht⟩ := lowG_dvd_left u v
  unfold lowT
  generalize lowG u v = g at ht ⊢
  have hg : g ≠ 0 ∨ g = 0 := by omega
  rcases hg with hg | hg
  · rw [ht, Int.mul_fdiv_cancel_left _ hg]
  · rw [ht, hg, Int.zero_mul, Int.zero_mul]
theorem lowT_abs {u v : Int} (h : v ≠ 0) : (lowT u v).natAbs ≤ u.natAbs := by
  have e := lowT_mul (u := u) h
  have h2 : u.natAbs = (lowG u v).natAbs * (lowT u v).natAbs := by
    rw [← Int.natAbs_mul, ← e]
  have h3 : 1 ≤ (lowG u v).natAbs := by
    have := lowG_ne (u := u) h
    omega
  calc (lowT u v).natAbs = 1 * (lowT u v).natAbs := (Nat.one_mul _).symm
    _ ≤ (lowG u v).natAbs * (lowT u v).natAbs := Nat.mul_le_mul_right _ h3
    _ = u.natAbs := h2.symm
theorem lowD_mul {u v : Int} (h : v ≠ 0) : v = lowG u v * lowD u v := by
  obtain ⟨t, ht⟩ := lowG_dvd_right u v
  have hg := lowG_ne (u := u) h
  unfold lowD
  generalize lowG u v = g at ht hg ⊢
  rw [ht, Int.mul_fdiv_cancel_left _ hg]
theorem lowD_abs {u v : Int} (h : v ≠ 0) : (lowD u v).natAbs ≤ v.natAbs := by
  have e := lowD_mul (u := u) h
  have h2 : v.natAbs = (lowG u v).natAbs * (lowD u v).natAbs := by
    rw [← Int.natAbs_mul, ← e]
  have h3 : 1 ≤ (lowG u v).natAbs := by
    have := lowG_ne (u := u) h
    omega
  calc (lowD u v).natAbs = 1 * (lowD u v).natAbs := (Nat.one_mul _).symm
    _ ≤ (lowG u v).natAbs * (lowD u v).natAbs := Nat.mul_le_mul_right _ h3
    _ = v.natAbs := h2.symm
theorem lowD_pos {u v : Int} (h : v ≠ 0) : 0 < lowD u v := by
  have e := lowD_mul (u := u) h
  have h1 := gcd_pos (u := u) h
  have key : ∀ g d : Int, v = g * d → (0 < g ∧ 0 < v) ∨ (g < 0 ∧ v < 0) → 0 < d := fun g d ev hh => by
    rcases Int.lt_trichotomy d 0 with hd | hd | hd
    · rcases hh with ⟨h1, h2⟩ | ⟨h1, h2⟩
      · have := Int.mul_neg_of_pos_of_neg h1 hd
        omega
      · have := Int.mul_pos_of_neg_of_neg h1 hd
        omega
    · rw [hd, Int.mul_zero] at ev
      omega
    · exact hd
  refine key _ _ e ?_
  unfold lowG
  split
  · exact .inr ⟨by omega, by assumption⟩
  · exact .inl ⟨by omega, by omega⟩
theorem low_gcd {u v : Int} (hv : v ≠ 0) : Int.gcd (lowT u v) (lowD u v) = 1 := by
  have e1 := lowT_mul (u := u) hv
  have e2 := lowD_mul (u := u) hv
  have hg := gcd_pos (u := u) hv
  have e3 : Int.gcd u v = (lowG u v).natAbs * Int.gcd (lowT u v) (lowD u v) := by
    have : Int.gcd (lowG u v * lowT u v) (lowG u v * lowD u v) = (lowG u v).natAbs * Int.gcd (lowT u v) (lowD u v) := Int.gcd_mul_left _ _ _
    rw [← e1, ← e2] at this
    exact this
  have e4 : (lowG u v).natAbs = Int.gcd u v := by
    unfold lowG
    split <;> omega
  rw [e4] at e3
  have e5 : Int.gcd u v * 1 = Int.gcd u v * Int.gcd (lowT u v) (lowD u v) := by rw [Nat.mul_one]; exact e3
  exact (Nat.eq_of_mul_eq_mul_left hg e5).symm
/-! ### data in the heap -/
mutual
inductive Dt (z : Addr) (H : Hp) : V → PyData → Prop
  | non : Dt z H .non .none
  | bl (b : Bool) : Dt z H (.bl b) (.bool b)
  | int (i : Int) (h : i.natAbs.log2 < 4096) : Dt z H (.int i) (.int i)
  | str (x : Str) (h : x.length ≤ 1000) : Dt z H (.str x) (.str x)
  | lst {a : Addr} {xs : List V} {ds : List PyData} : H a = some (.lst xs) → a ≠ z → DtAll z H xs ds → Dt z H (.ref a) (.list ds)
  | tup {a : Addr} {xs : List V} {ds : List PyData} : H a = some (.tup xs) → DtAll z H xs ds → Dt z H (.ref a) (.tuple ds)
inductive DtAll (z : Addr) (H : Hp) : List V → List PyData → Prop
  | nil : DtAll z H [] []
  | cons {v : V} {vs : List V} {d : PyData} {ds : List PyData} : Dt z H v d → DtAll z H vs ds → DtAll z H (v :: vs) (d :: ds)
end
mutual
theorem Dt.via {z : Addr} {H H' : Hp} (s : ∀ a o, H a = some o → ((∃ xs, o = .lst xs) ∧ a ≠ z) ∨ (∃ xs, o = .tup xs) → H' a = some o) : ∀ (d : PyData) (v : V), Dt z H v d → Dt z H' v d
  | .none, _, h => by cases h; exact .non
  | .bool _, _, h => by cases h; exact .bl _
  | .int _, _, h => by
    cases h with
    | int _ hb => exact .int _ hb
  | .str _, _, h => by
    cases h with
    | str _ hx => exact .str _ hx
  | .list ds, _, h => by
    cases h with
    | lst h1 hz h2 => exact .lst (s _ _ h1 (.inl ⟨⟨_, rfl⟩, hz⟩)) hz (DtAll.via s ds _ h2)
  | .tuple ds, _, h => by
    cases h with
    | tup h1 h2 => exact .tup (s _ _ h1 (.inr ⟨_, rfl⟩)) (DtAll.via s ds _ h2)
  | .dict _, _, h => by cases h
theorem DtAll.via {z : Addr} {H H' : Hp} (s : ∀ a o, H a = some o → ((∃ xs, o = .lst xs) ∧ a ≠ z) ∨ (∃ xs, o = .tup xs) → H' a = some o) : ∀ (ds : List PyData) (vs : List V), DtAll z H vs ds → DtAll z H' vs ds
  | [], _, h => by cases h; exact .nil
  | d :: ds, _, h => by
    cases h with
    | cons h1 h2 => exact .cons (Dt.via s d _ h1) (DtAll.via s ds _ h2)
end
theorem Dt.same {z : Addr} {H H' : Hp} {v : V} {d : PyData} (h : Dt z H v d) (s : Same H H') : Dt z H' v d := Dt.via (fun a o e _ => s a o e) d v h
theorem DtAll.same {z : Addr} {H H' : Hp} {vs : List V} {ds : List PyData} (h : DtAll z H vs ds) (s : Same H H') : DtAll z H' vs ds := DtAll.via (fun a o e _ => s a o e) ds vs h
theorem DtAll.len {z : Addr} {H : Hp} : ∀ {vs : List V} {ds : List PyData}, DtAll z H vs ds → vs.length = ds.length
  | _, _, .nil => rfl
  | _, _, .cons _ h => congrArg (· + 1) (DtAll.len h)
mutual
theorem Dt.dp {K : PySem.W.Frag} {z : Addr} {H : Hp} : ∀ (d : PyData) (v : V), Dt z H v d → Dp K H v d
  | .none, _, h => by cases h; exact .non
  | .bool _, _, h => by cases h; exact .bl _
  | .int _, _, h => by cases h; exact .int _
  | .str _, _, h => by cases h; exact .str _
  | .list ds, _, h => by
    cases h with
    | lst h1 _ h2 => exact .lst (SqL.of h1) (DtAll.dp ds _ h2)
  | .tuple ds, _, h => by
    cases h with
    | tup h1 h2 => exact .tup (SqT.of h1) (DtAll.dp ds _ h2)
  | .dict _, _, h => by cases h
theorem DtAll.dp {K : PySem.W.Frag} {z : Addr} {H : Hp} : ∀ (ds : List PyData) (vs : List V), DtAll z H vs ds → DpAll K H vs ds
  | [], _, h => by cases h; exact .nil
  | d :: ds, _, h => by
    cases h with
    | cons h1 h2 => exact .cons (Dt.dp d _ h1) (DtAll.dp ds _ h2)
end
theorem Dt.but {z : Addr} {H H' : Hp} {v : V} {d : PyData} {c : Addr} (hF : FeedOk H z c) (b : But z H H') (h : Dt z H v d) : Dt z H' v d := by
  obtain ⟨ns, k, big, mark, ha, _⟩ := hF
  refine Dt.via (fun p o e g => b p o ?_ e) d v h
  rcases g with ⟨_, g⟩ | ⟨xs, rfl⟩
  · exact g
  · exact ne_of e ha (by intro z; cases z)
theorem dnewT {z : Addr} {H : Hp} {p : Addr} {vs : List V} {ds : List PyData} (n : H p = none) (h : DtAll z H vs ds) : Same H (upd H p (.tup vs)) ∧ Dt z (upd H p (.tup vs)) (.ref p) (.tuple ds) :=
  ⟨same_upd n, .tup upd_same (h.same (same_upd n))⟩
theorem dnewL {z : Addr} {H : Hp} {p : Addr} {vs : List V} {ds : List PyData} (n : H p = none) (hz : p ≠ z) (h : DtAll z H vs ds) : Same H (upd H p (.lst vs)) ∧ Dt z (upd H p (.lst vs)) (.ref p) (.list ds) :=
  ⟨same_upd n, .lst upd_same hz (h.same (same_upd n))⟩
theorem drow {z : Addr} {H : Hp} {p : Addr} {vs : List V} {ds : List PyData} (n : H p = none) (h : DtAll z H vs ds) : Same H (upd H p (.lst vs)) ∧ DtAll z (upd H p (.lst vs)) vs ds ∧ (upd H p (.lst vs)) p = some (.lst vs) :=
  ⟨same_upd n, h.same (same_upd n), upd_same⟩
theorem DtAll.mem {z : Addr} {H : Hp} : ∀ {vs : List V} {ds : List PyData} {v : V}, DtAll z H vs ds → v ∈ vs → ∃ d, d ∈ ds ∧ Dt z H v d
  | _, _, _, .cons (d := d) h r, e => by
    rcases List.mem_cons.mp e with rfl | e
    · exact ⟨d, List.mem_cons_self, h⟩
    · obtain ⟨d', h1, h2⟩ := DtAll.mem r e
      exact ⟨d', List.mem_cons_of_mem _ h1, h2⟩
def tagD : PyData → String
  | .none => "NoneType"
  | .bool _ => "bool"
  | .int _ => "int"
  | .str _ => "str"
  | .list _ => "list"
  | .tuple _ => "tuple"
  | .dict _ => "dict"
theorem Dt.ty {K : PySem.W.Frag} {z : Addr} {H : Hp} {v : V} {d : PyData} (h : Dt z H v d) : TyOf K H v (.type (tagD d)) := by
  cases h with
  | non => exact .non
  | bl b => exact .bl b
  | int i _ => exact .int i
  | str x _ => exact .str x
  | lst h _ _ => exact .lst h
  | tup h _ => exact .tup h
def isTup : PyData → Bool
  | .tuple _ => true
  | _ => false
def isTxt : PyData → Bool
  | .str _ => true
  | _ => false
def isInt : PyData → Bool
  | .int _ => true
  | _ => false
theorem kitTup {d : PyData} : kitB (tagD d) "tuple" = some (isTup d) := by cases d <;> rfl
theorem kitTxt {d : PyData} : kitB (tagD d) "str" = some (isTxt d) := by cases d <;> rfl
theorem Dt.split {z : Addr} {H : Hp} {v : V} {d : PyData} (h : Dt z H v d) : isTup d = false ∨ ∃ a xs ds, v = .ref a ∧ d = .tuple ds ∧ H a = some (.tup xs) ∧ DtAll z H xs ds := by
  cases h with
  | tup h1 h2 => exact .inr ⟨_, _, _, rfl, rfl, h1, h2⟩
  | non => exact .inl rfl
  | bl b => exact .inl rfl
  | int i _ => exact .inl rfl
  | str x _ => exact .inl rfl
  | lst h _ _ => exact .inl rfl
/-! ### what is a name, a fraction, a tie -/
def nameD : PyData → Bool
  | .str x => nameB x.cps.toList
  | _ => false
def ratD : PyData → Bool
  | .tuple [.int t, .int u] => decide (1 ≤ u) && decide (Int.gcd t u = 1)
  | _ => false
def nonz : PyData → Bool
  | .tuple (.int t :: _) => decide (t ≠ 0)
  | _ => false
def termD : PyData → Bool
  | .tuple [n, r] => nameD n && ratD r && nonz r
  | _ => false
def ltD : PyData → PyData → Bool
  | .tuple (.str x :: _), .tuple (.str y :: _) => decide (x.cps.toList < y.cps.toList)
  | _, _ => false
def termsD : PyData → Bool
  | .tuple [s] => termD s
  | .tuple [s, t] => termD s && termD t && ltD s t
  | _ => false
def tieD : PyData → Bool
  | .tuple [t, b] => termsD t && ratD b
  | _ => false
mutual
def noL : PyData → Bool
  | .list _ => false
  | .dict _ => false
  | .tuple ds => noLs ds
  | _ => true
def noLs : List PyData → Bool
  | [] => true
  | d :: ds => noL d && noLs ds
end
/-- tuples stay -/
def TT (H H' : Hp) : Prop := ∀ p xs, H p = some (.tup xs) → H' p = some (.tup xs)
theorem TT.of {H H' : Hp} (s : Same H H') : TT H H' := fun p _ e => s p _ e
theorem TT.but {a c : Addr} {H H' : Hp} (hF : FeedOk H a c) (b : But a H H') : TT H H' := fun p xs e => by
  obtain ⟨ns, k, big, mark, ha, _⟩ := hF
  exact b p _ (ne_of e ha (by intro z; cases z)) e
theorem TT.upd {H : Hp} {D : Addr} {ys zs : List V} (hD : H D = some (.lst ys)) : TT H (L2.upd H D (.lst zs)) := fun p xs e => by
  rw [upd_ne (ne_of e hD (by intro z; cases z))]
  exact e
theorem TT.trans {H H1 H2 : Hp} (h : TT H H1) (k : TT H1 H2) : TT H H2 := fun p xs e => k p xs (h p xs e)
mutual
theorem Dt.tups {z z' : Addr} {H H' : Hp} (s : TT H H') : ∀ (d : PyData) (v : V), noL d = true → Dt z H v d → Dt z' H' v d
  | .none, _, _, h => by cases h; exact .non
  | .bool _, _, _, h => by cases h; exact .bl _
  | .int _, _, _, h => by
    cases h with
    | int _ hb => exact .int _ hb
  | .str _, _, _, h => by
    cases h with
    | str _ hx => exact .str _ hx
  | .list ds, _, n, h => by
    unfold noL at n
    cases n
  | .tuple ds, _, n, h => by
    unfold noL at n
    cases h with
    | tup h1 h2 => exact .tup (s _ _ h1) (DtAll.tups s ds _ n h2)
  | .dict _, _, n, h => by cases h
theorem DtAll.tups {z z' : Addr} {H H' : Hp} (s : TT H H') : ∀ (ds : List PyData) (vs : List V), noLs ds = true → DtAll z H vs ds → DtAll z' H' vs ds
  | [], _, _, h => by cases h; exact .nil
  | d :: ds, _, n, h => by
    unfold noLs at n
    rw [Bool.and_eq_true] at n
    cases h with
    | cons h1 h2 => exact .cons (Dt.tups s d _ n.1 h1) (DtAll.tups s ds _ n.2 h2)
end
theorem DtAll.snoc {z : Addr} {H : Hp} : ∀ {vs : List V} {ds : List PyData} {v : V} {d : PyData}, DtAll z H vs ds → Dt z H v d → DtAll z H (vs ++ [v]) (ds ++ [d])
  | _, _, _, _, .nil, k => .cons k .nil
  | _, _, _, _, .cons h r, k => .cons h (DtAll.snoc r k)
theorem ratD_inv {d : PyData} (h : ratD d = true) : ∃ t u, d = .tuple [.int t, .int u] := by
  unfold ratD at h
  split at h
  · exact ⟨_, _, rfl⟩
  · cases h
theorem DtAll.at {z : Addr} {H : Hp} : ∀ {vs : List V} {ds : List PyData} (i : Nat) {x : V}, DtAll z H vs ds → vs[i]? = some x → ∃ d, ds[i]? = some d ∧ Dt z H x d
  | _, _, 0, _, .cons h _, e => ⟨_, rfl, by cases e; exact h⟩
  | _, _, i + 1, _, .cons _ h, e => DtAll.at i h e
def smallR : PyData → Bool
  | .tuple [.int t, .int u] => decide (t.natAbs ≤ 5 ∧ u.natAbs ≤ 3)
  | _ => false
def okR (r : PyData) : Prop := ratD r = true ∧ nonz r = true ∧ smallR r = true
theorem okR.noL {r : PyData} (h : okR r) : noL r = true := by
  obtain ⟨t, u, rfl⟩ := ratD_inv h.1
  rfl
abbrev trm1 (t : Str × PyData) : PyData := .tuple [.str t.1, t.2]
theorem noLs_trms : ∀ {ts : List (Str × PyData)}, (∀ t ∈ ts, okR t.2) → noLs (ts.map trm1) = true
  | [], _ => rfl
  | t :: ts, h => by
    have h1 := (h t List.mem_cons_self).noL
    have h2 := noLs_trms fun u hu => h u (List.mem_cons_of_mem _ hu)
    show (((true && (noL t.2 && true)) && noLs (ts.map trm1)) = true)
    rw [h1, h2]
    rfl
/-- terms: names and rates -/
abbrev trmD (ts : List (Str × PyData)) : PyData := .tuple (ts.map fun t => .tuple [.str t.1, t.2])
theorem tie_inv {z : Addr} {H : Hp} {v : V} {dd : List PyData} {b : PyData} (hv : Dt z H v (.tuple [.tuple dd, b])) : ∃ p t y xs, v = .ref p ∧ H p = some (.tup [.ref t, y]) ∧ H t = some (.tup xs) ∧ DtAll z H xs dd ∧ Dt z H y b := by
  match v, hv with
  | _, .tup hp (.cons (.tup ht hts) (.cons hb .nil)) => exact ⟨_, _, _, _, rfl, hp, ht, hts, hb⟩
theorem trm_inv {z : Addr} {H : Hp} {xs : List V} {n : Str} {r : PyData} {ds : List PyData} (h : DtAll z H xs (.tuple [.str n, r] :: ds)) : ∃ e rv xs', xs = .ref e :: xs' ∧ H e = some (.tup [.str n, rv]) ∧ Dt z H rv r := by
  match xs, h with
  | _, .cons (.tup he (.cons (.str _ _) (.cons hr .nil))) _ => exact ⟨_, _, _, rfl, he, hr⟩
/-! ### names in order -/
theorem S_of (x : Str) : SX.S x.cps.toList = x := by
  cases x
  rfl
theorem lt_tri : ∀ (x y : List Nat), ltCps y x = false → x ≠ y → ltCps x y = true
  | [], [], _, h => absurd rfl h
  | [], _ :: _, _, _ => rfl
  | _ :: _, [], h, _ => by cases h
  | a :: r, b :: t, h, n => by
    unfold ltCps at h ⊢
    rw [Bool.or_eq_false_iff, decide_eq_false_iff_not, Bool.and_eq_false_iff] at h
    rw [Bool.or_eq_true, decide_eq_true_eq, Bool.and_eq_true, beq_iff_eq]
    by_cases e : a = b
    · subst e
      refine .inr ⟨rfl, lt_tri r t ?_ fun z => n (by rw [z])⟩
      rcases h.2 with h | h
      · simp at h
      · exact h
    · exact .inl (by omega)
theorem sorted_two {x y : Str} (h : sortedS [x, y] = true) (n : x ≠ y) : decide (x.cps.toList < y.cps.toList) = true := by
  have h : (!ltCps y.cps.toList x.cps.toList && true) = true := h
  rw [Bool.and_true, Bool.not_eq_true'] at h
  rw [lt_meets]
  refine lt_tri _ _ h fun z => n ?_
  rw [← S_of x, ← S_of y, z]
theorem S_list (a : List Nat) : (SX.S a).cps.toList = a := by simp [SX.S]
section
variable {P : Program} {w : World} {K : PySem.W.Frag} {mg : Str → Option Value} {base : Heap} {fa : Nat → Addr} {fd : Nat → FuncData}
/-! ### InvalidRatio's making; common_divisor; ratio -/
theorem scI : FnScope ["self", "given"] ["self", "given"] (defScope (inClass (topS 3) 0)) := ⟨rfl, rfl, rfl, by decide +kernel, rfl, by decide +kernel, by decide +kernel⟩
theorem ok_InvalidRatio (T : Txt K mg fa fd) : FnOk P w K mg base CX0 1 (fa 1003) (fd 1003) ["self", "given"] (spInit1 K "given" "InvalidRatio") := by
  refine T.IInvalidRatio.ok scI (fun vs H Q E h => ?_) (fun cdv A outer s H vs Q E hr h => ?_)
  · obtain ⟨a, C, v, rfl, _⟩ := h
    rfl
  · obtain ⟨a, C, v, rfl, hC, h1, h2, ha, q⟩ := h
    refine ⟨_, pss_cons (ps_ost (pv 0) (pv 1)) (pss_one (ps_ost (pv 0) pe_str)), ?_⟩
    refine ⟨_, rfl, _, rfl, a, C, rfl, hC, h1, .inl ⟨ha, fun dx nd ne => ?_⟩⟩
    refine ⟨_, rfl, a, C, rfl, hC, h2, .inr ⟨dx, _, upd_same, ?_, by show 1 ≤ 900; decide, q dx nd ne⟩⟩
    rw [upd_ne ne, upd_same]
abbrev Bd (t : Int) : Prop := t.natAbs.log2 < 4096
theorem bits_bd {v : Nat} (h : v.log2 < 4096) : ¬ ((4096 : Int) < ((Builtin.Int.intBits (v : Int) : Nat) : Int)) := by
  unfold Builtin.Int.intBits
  rw [Int.natAbs_natCast]
  split <;> omega
def spDiv : Sp := fun vs H Q _ => ∃ x y : Int, vs = [.int x, .int y] ∧ (Bd x ∨ Bd y) ∧ Q (.int (Int.gcd x y : Nat)) H
theorem ok_p_common_divisor (T : Txt K mg fa fd) : FnOk P w K mg base CX0 1 (fa 15) (fd 15) ["one", "other"] spDiv := by
  refine T.F_p_common_divisor.ok sc_p_common_divisor (fun vs H Q E h => ?_) (fun cdv A outer s H vs Q E hr h => ?_)
  · obtain ⟨x, y, rfl, _⟩ := h
    rfl
  · obtain ⟨x, y, rfl, hb, q⟩ := h
    refine ⟨_, (pss_cons (ps_set (i := 0) sc_p_common_divisor.nd rfl (.inl rfl) (pe_callB call_abs (by rfl) T.m_abs PyProof.Rows.boot_abs (pa_cons (pv 0) pa_nil)))
      (pss_cons (ps_set (i := 1) sc_p_common_divisor.nd rfl (.inl rfl) (pe_callB call_abs (by rfl) T.m_abs PyProof.Rows.boot_abs (pa_cons (pv 1) pa_nil)))
      (C8.pss_cut (ps_if (pt_cmpR op_lt (pv 0) (pv 1) (nomark _)) (pss_one (ps_par (i := 0) (j := 1) (by rfl) sc_p_common_divisor.nd rfl rfl (by decide) rfl rfl (pa_cons (pv 1) (pa_cons (pv 0) pa_nil)) (by rfl))) pss_nil)
      (pss_cons (ps_while PassesOwn.never (pt_cmpR op_gt (pe_bits (pv 1)) (C8.pe_gc (by rfl) T.c_LONG) (nomark _)) (pss_one ps_never))
      (pss_cons (ps_while PassesOwn.never (pt_cmpR op_gt (pv 1) pe_int (nomark _)) (pss_one (ps_par (i := 0) (j := 1) (by rfl) sc_p_common_divisor.nd rfl rfl (by decide) rfl rfl (pa_cons (pv 1) (pa_cons (pe_op op_mod (pv 0) (pv 1)) pa_nil)) (by rfl))))
      (pss_one (ps_ret (pv 0)))))))), ?_⟩
    refine ⟨_, rfl, _, rfl, _, rfl, _, rfl, ?_⟩
    have ab : ∀ z : Int, (if z < 0 then -z else z) = (z.natAbs : Int) := fun z => by split <;> omega
    rw [ab, ab]
    refine ⟨fun σ H1 => H1 = H ∧ ∃ u v : Nat, σ = [some (.int (u : Int)), some (.int (v : Int))] ∧ v.log2 < 4096 ∧ Nat.gcd u v = Int.gcd x y, ?_, fun σ H1 hM => ?_⟩
    · refine ⟨_, rfl, _, rfl, _, _, rfl, rfl, _, rfl, ite2 (fun e => ?_) (fun e => ?_)⟩
      · have lt : (x.natAbs : Int) < (y.natAbs : Int) := of_decide_eq_true e
        refine ⟨_, rfl, _, rfl, _, _, rfl, rfl, y.natAbs, x.natAbs, rfl, ?_, Nat.gcd_comm _ _⟩
        rcases hb with hb | hb
        · exact hb
        · exact log2_mono (by omega) hb
      · have ge : ¬ (x.natAbs : Int) < (y.natAbs : Int) := fun z => e (decide_eq_true z)
        refine ⟨rfl, x.natAbs, y.natAbs, rfl, ?_, rfl⟩
        rcases hb with hb | hb
        · exact log2_mono (by omega) hb
        · exact hb
    obtain ⟨rfl, u0, v0, rfl, hv0, hg0⟩ := hM
    refine ⟨fun m σ H2 => σ = [some (.int (u0 : Int)), some (.int (v0 : Int))] ∧ H2 = H1, ⟨0, rfl, rfl⟩, fun m σ H2 hW => ?_⟩
    obtain ⟨rfl, rfl⟩ := hW
    refine ⟨_, rfl, _, rfl, _, _, rfl, rfl, _, rfl, ite2 (fun e => absurd (of_decide_eq_true e) (bits_bd hv0)) (fun _ => ?_)⟩
    refine ⟨fun m σ H1 => ∃ u v : Nat, m = v ∧ σ = [some (.int (u : Int)), some (.int (v : Int))] ∧ H1 = H2 ∧ Nat.gcd u v = Int.gcd x y, ⟨_, u0, v0, rfl, rfl, rfl, hg0⟩, fun m σ H1 hW => ?_⟩
    obtain ⟨u, v, rfl, rfl, rfl, hg⟩ := hW
    refine ⟨_, rfl, _, _, rfl, rfl, _, rfl, ite2 (fun e => ?_) (fun e => ?_)⟩
    · have hv : 0 < (m : Int) := of_decide_eq_true e
      refine ⟨fun σ' H' => ∃ m', m' < m ∧ ∃ u v : Nat, m' = v ∧ σ' = [some (.int (u : Int)), some (.int (v : Int))] ∧ H' = H1 ∧ Nat.gcd u v = Int.gcd x y, fun σ' H' h => h, ?_⟩
      refine ⟨_, rfl, _, rfl, _, rfl, _, _, rfl, rfl, hv, ?_⟩
      refine ⟨_, _, rfl, u % m, Nat.mod_lt _ (by omega), m, u % m, rfl, rfl, rfl, ?_⟩
      rw [← hg, Nat.gcd_comm m, ← Nat.gcd_rec, Nat.gcd_comm]
    · have hv : m = 0 := by
        have : ¬ 0 < (m : Int) := fun z => e (decide_eq_true z)
        omega
      subst hv
      refine ⟨_, rfl, ?_⟩
      rw [Nat.gcd_zero_right] at hg
      rw [hg]
      exact q
def spRatio (C : Addr) : Sp := fun vs H Q E => ∃ u v : Int, vs = [.int u, .int v] ∧ (v ≠ 0 → v.natAbs.log2 < 4096 ∧ ∀ p, H p = none → Q (.ref p) (upd H p (.tup [.int (lowT u v), .int (lowD u v)]))) ∧
  (v = 0 → ∀ d H', H d = none → Same H H' → H' d = some (.xd [("tag", .str "InvalidRatio"), ("given", .int 0)]) → E (.ref C) (some d) H')
theorem ok_p_ratio (T : Txt K mg fa fd) : FnOk P w K mg base (L2.CX P w) 3 (fa 16) (fd 16) ["top", "under"] (spRatio (fa 3)) := by
  refine T.F_p_ratio.ok sc_p_ratio (fun vs H Q E h => ?_) (fun cdv A outer s H vs Q E hr h => ?_)
  · obtain ⟨x, y, rfl, _⟩ := h
    rfl
  · obtain ⟨u, v, rfl, h1, h0⟩ := h
    refine ⟨_, (pss_cons (ps_if (pt_cmpR op_eq (pv 1) pe_int (nomark _)) (pss_one (ps_raise rfl (takes_of rfl rfl rfl rfl) (pmk_oex T.eInvalidRatio.oex T.eInvalidRatio.iC T.eInvalidRatio.tI (ok_InvalidRatio T) (hr.mono (by decide)) T.bIInvalidRatio .nil pass0 (by rfl) T.eInvalidRatio.gC (pa_cons pe_int pa_nil)))) pss_nil)
      (pss_cons (ps_set (i := 2) sc_p_ratio.nd rfl (.inl rfl) (pe_call (ok_p_common_divisor T) (hr.mono (by decide)) (by rfl) T.g_p_common_divisor T.F_p_common_divisor.kp T.b_p_common_divisor .nil pass0 (pa_cons (pv 0) (pa_cons (pv 1) pa_nil))))
      (C8.pss_cut (ps_if (pt_cmpR op_lt (pv 1) pe_int (nomark _)) (pss_one (ps_set (i := 2) sc_p_ratio.nd rfl (.inl rfl) (pe_un un_neg (pv 2)))) pss_nil)
      (pss_one (ps_ret (pe_tup (pa_cons (pe_op op_fdivG (pv 0) (pv 2)) (pa_cons (pe_op op_fdivG (pv 1) (pv 2)) pa_nil)))))))), ?_⟩
    refine ⟨_, rfl, rfl, _, rfl, ite2 (fun e => ?_) (fun e => ?_)⟩
    · have ev : v = 0 := V.int.inj (of_decide_eq_true e)
      refine ⟨by show 1 ≤ 1000; decide, fun a na => ⟨a, _, .int 0, rfl, T.eInvalidRatio.oex, T.nInvalidRatio_given, T.eInvalidRatio.tag, upd_same, fun dx nd ne => ⟨rfl, dx, _, ?_, upd_same, ?_, ?_⟩⟩⟩
      · rw [upd_ne ne.symm, upd_same]
      · rw [upd_ne ne] at nd
        exact nd
      · have nd' : H dx = none := by
          rw [upd_ne ne] at nd
          exact nd
        refine h0 ev dx _ nd' (Same.del na nd' fun b o hb q => ?_) upd_same
        rw [upd_ne (ne_of_none q nd'), upd_ne hb, upd_ne (ne_of_none q nd'), upd_ne hb]
        exact q
    · have ev : v ≠ 0 := fun z => e (decide_eq_true (by rw [z]))
      obtain ⟨h9, q⟩ := h1 ev
      refine ⟨_, rfl, _, rfl, u, v, rfl, .inr h9, ?_⟩
      refine ⟨fun σ H1 => H1 = H ∧ σ = [some (.int u), some (.int v), some (.int (lowG u v))], ?_, fun σ H1 hM => ?_⟩
      · refine ⟨_, rfl, _, _, rfl, rfl, _, rfl, ite2 (fun e => ?_) (fun e => ?_)⟩
        · refine ⟨_, rfl, _, rfl, rfl, ?_⟩
          unfold lowG
          rw [if_pos (of_decide_eq_true e)]
          rfl
        · refine ⟨rfl, ?_⟩
          unfold lowG
          rw [if_neg (fun z => e (decide_eq_true z))]
          rfl
      · obtain ⟨rfl, rfl⟩ := hM
        have hG := lowG_ok (u := u) ev h9
        exact ⟨_, rfl, _, rfl, _, _, rfl, rfl, hG, _, rfl, _, rfl, _, _, rfl, rfl, hG, two_line, q⟩
end
theorem small_line {n : Nat} (h : n ≤ 1000) : n ≤ sizeLine := Nat.le_trans h (Nat.le_of_lt (small1000 (Nat.le_refl _)))
theorem quote : (Str.ofString "'" : Str) = SX.S [39] := by decide +kernel
abbrev vS (a : List Nat) : V := .str (SX.S a)
/-! ### fractions and rows: what stands for them -/
theorem SqT_sm {K : PySem.W.Frag} {H H' : Hp} {c : Addr} {xs : List V} (s : Same H H') (h : SqT K H c xs) : SqT K H' c xs := by
  rcases h with (e | ⟨o, e⟩) | e
  · exact .inl (.inl (s _ _ e))
  · exact .inl (.inr ⟨o, s _ _ e⟩)
  · exact .inr e
abbrev Fq : Type := Int × Int
structure Rw where
  a : Int
  b : Int
  c : Fq
deriving DecidableEq
def FqV (K : PySem.W.Frag) (H : Hp) (v : V) (f : Fq) : Prop := ∃ p, v = V.ref p ∧ SqT K H p [.int f.1, .int f.2]
def RwV (K : PySem.W.Frag) (H : Hp) (v : V) (r : Rw) : Prop := ∃ p c, v = V.ref p ∧ SqT K H p [.int r.a, .int r.b, c] ∧ FqV K H c r.c
def OqV (K : PySem.W.Frag) (H : Hp) (v : V) : Option Fq → Prop
  | none => v = .non
  | some f => FqV K H v f
section
variable {K : PySem.W.Frag} {H H' : Hp} {v : V}
theorem FqV.same {f : Fq} (h : FqV K H v f) (s : Same H H') : FqV K H' v f := by
  obtain ⟨p, e, q⟩ := h
  exact ⟨p, e, SqT_sm s q⟩
theorem RwV.same {r : Rw} (h : RwV K H v r) (s : Same H H') : RwV K H' v r := by
  obtain ⟨p, c, e, q, f⟩ := h
  exact ⟨p, c, e, SqT_sm s q, f.same s⟩
theorem OqV.same {o : Option Fq} (h : OqV K H v o) (s : Same H H') : OqV K H' v o := by
  cases o with
  | none => exact h
  | some f => exact FqV.same (show FqV K H v f from h) s
theorem FqV.new {f : Fq} {p : Addr} : FqV K (upd H p (.tup [.int f.1, .int f.2])) (.ref p) f := ⟨p, rfl, SqT.of upd_same⟩
end
/-- .. and their sizes -/
def Lz (k : Nat) (z : Int) : Prop := z.natAbs < 2 ^ k
theorem Lz.mono {k m : Nat} {z : Int} (h : Lz k z) (l : k ≤ m) : Lz m z := Nat.lt_of_lt_of_le h (Nat.pow_le_pow_right (by decide) l)
theorem Lz.mul {k m : Nat} {x y : Int} (hx : Lz k x) (hy : Lz m y) : Lz (k + m) (x * y) := by
  unfold Lz at *
  rw [Int.natAbs_mul, Nat.pow_add]
  exact Nat.mul_lt_mul_of_lt_of_lt hx hy
theorem Lz.neg {k : Nat} {x : Int} (h : Lz k x) : Lz k (-x) := by
  unfold Lz at *
  rwa [Int.natAbs_neg]
theorem Lz.add {k : Nat} {x y : Int} (hx : Lz k x) (hy : Lz k y) : Lz (k + 1) (x + y) := by
  unfold Lz at *
  rw [Nat.pow_succ]
  omega
theorem Lz.sub {k : Nat} {x y : Int} (hx : Lz k x) (hy : Lz k y) : Lz (k + 1) (x - y) := by
  unfold Lz at *
  rw [Nat.pow_succ]
  omega
theorem Lz.log {k : Nat} {z : Int} (h : Lz k z) (hk : 0 < k) : z.natAbs.log2 < k := by
  by_cases h0 : z.natAbs = 0
  · rw [h0]
    exact hk
  · exact (Nat.log2_lt h0).mpr h
theorem Lz.one (k : Nat) (h : 1 ≤ k) : Lz k 1 := by
  unfold Lz
  exact Nat.one_lt_two_pow (by omega)
theorem Lz.zero (k : Nat) : Lz k 0 := Nat.two_pow_pos k
theorem mulW {k m : Nat} {x y : Int} (hx : Lz k x) (hy : Lz m y) (l : k + m ≤ 999990) : CMulW x y := by
  have a := (hx.mono (Nat.le_succ k)).log (Nat.succ_pos k)
  have b := (hy.mono (Nat.le_succ m)).log (Nat.succ_pos m)
  show _ + _ < 1000000
  omega
def FqZ (k : Nat) (f : Fq) : Prop := Lz k f.1 ∧ Lz k f.2
def OqZ (k : Nat) : Option Fq → Prop
  | none => True
  | some f => FqZ k f
structure RwZ (k : Nat) (r : Rw) : Prop where
  a : Lz k r.a
  b : Lz k r.b
  c : FqZ k r.c
theorem FqZ.mono {k m : Nat} {f : Fq} (h : FqZ k f) (l : k ≤ m) : FqZ m f := ⟨h.1.mono l, h.2.mono l⟩
theorem OqZ.mono {k m : Nat} {o : Option Fq} (h : OqZ k o) (l : k ≤ m) : OqZ m o := by
  cases o with
  | none => trivial
  | some f => exact FqZ.mono (show FqZ k f from h) l
theorem RwZ.mono {k m : Nat} {r : Rw} (h : RwZ k r) (l : k ≤ m) : RwZ m r := ⟨h.a.mono l, h.b.mono l, h.c.mono l⟩
def ltF (f g : Fq) : Bool := decide (f.1 * g.2 < g.1 * f.2)
/-- the lesser (or the greater) one of what is found and a value -/
def pickO (top : Bool) : Option Fq → Option Fq → Option Fq
  | o, none => o
  | none, some x => some x
  | some y, some x => if (if top then ltF y x else ltF x y) = true then some x else some y
theorem pickO_z {top : Bool} {k : Nat} {o p : Option Fq} (h1 : OqZ k o) (h2 : OqZ k p) : OqZ k (pickO top o p) := by
  cases p with
  | none => exact h1
  | some x => cases o with
    | none => exact h2
    | some y =>
      unfold pickO
      dsimp only
      by_cases c : (if top then ltF y x else ltF x y) = true
      · rw [if_pos c]; exact h2
      · rw [if_neg c]; exact h1
theorem t0 {x y : V} : atI [x, y] 0 = some x := rfl
theorem t1 {x y : V} : atI [x, y] 1 = some y := rfl
theorem u0 {x y z : V} : atI [x, y, z] 0 = some x := rfl
theorem u1 {x y z : V} : atI [x, y, z] 1 = some y := rfl
theorem u2 {x y z : V} : atI [x, y, z] 2 = some z := rfl
section
variable {P : Program} {w : World} {K : PySem.W.Frag} {mg : Str → Option Value} {base : Heap} {fa : Nat → Addr} {fd : Nat → FuncData}
def spLess (K : PySem.W.Frag) : Sp := fun vs H Q _ => ∃ (v u : V) (f g : Fq) (k : Nat), vs = [v, u] ∧ FqV K H v f ∧ FqV K H u g ∧ FqZ k f ∧ FqZ k g ∧ k ≤ 400000 ∧ Q (.bl (ltF f g)) H
theorem ok_p_is_less (T : Txt K mg fa fd) : FnOk P w K mg base CX0 1 (fa 18) (fd 18) ["one", "other"] (spLess K) := by
  refine T.F_p_is_less.ok sc_p_is_less (fun vs H Q E h => ?_) (fun cdv A outer s H vs Q E hr h => ?_)
  · obtain ⟨v, u, f, g, k, rfl, _⟩ := h
    rfl
  · obtain ⟨v, u, f, g, k, rfl, ⟨p, rfl, hp⟩, ⟨r, rfl, hr'⟩, zf, zg, hk, q⟩ := h
    exact ⟨_, (pss_one (ps_ret (pe_cmpR op_lt (pe_op op_mulW (pe_ix ix_tup (pv 0) pe_int (fun _ _ => rfl)) (pe_ix ix_tup (pv 1) pe_int (fun _ _ => rfl))) (pe_op op_mulW (pe_ix ix_tup (pv 1) pe_int (fun _ _ => rfl)) (pe_ix ix_tup (pv 0) pe_int (fun _ _ => rfl))) (nomark _)))), _, rfl, p, _, _, _, rfl, rfl, hp, t0, _, rfl, r, _, _, _, rfl, rfl, hr', t1, _, _, rfl, rfl, mulW zf.1 zg.2 (by omega),
      _, rfl, r, _, _, _, rfl, rfl, hr', t0, _, rfl, p, _, _, _, rfl, rfl, hp, t1, _, _, rfl, rfl, mulW zg.1 zf.2 (by omega), _, _, rfl, rfl, q⟩
theorem star_ok {x : Str} {st : Stmt} {f : Addr} {fdd : FuncData} {N : List Str} {pv : Str} {k : Nat} {sp : Sp} (F : Fun K x x st f fdd) (S : FnScope N [pv] (defScope st))
    (hb : ∀ (kV doc pm : Value) (an : Option Addr) (cdv ct : Value) (rest : List Value), bindArgs (PySem.W.fnOf x x (defArgs st) (defBody st) (defScope st) .none kV doc pm an cdv ct) ⟨rest, []⟩ = (newTuple rest >>= fun t => pure [(pv, t)]))
    (hbody : ∀ (cdv : Value) (A : Around) (outer : List Env) (s : Shared) (H : Hp) (vs : List V) (Q : VK) (E : XK), Room k (A.deeper (envOfC x (defScope st) s.heap.objs.size f cdv)) → sp vs H Q E →
      ∃ t, PSs (cxOf CX0 P w K mg base N x (defScope st) f cdv A outer s H E).nox (defBody st) t ∧ t { nx := fun _ H' => Q .non H', rt := Q } (start N vs) H) :
    FnR P w K mg base CX0 (k + 1) f (fun vs H Q E => vs.length ≤ sizeLine ∧ ∀ p, H p = none → sp [V.ref p] (upd H p (.tup vs)) Q E) := by
  obtain ⟨oc, od, kV, doc, pm, an, cdv, ct, osl, rfl, lk, hcd⟩ := F.ex
  refine FnR.imp (StX.fn_star (ps := []) (pv := pv) (sp := sp) lk hcd S StX.cxUp_none (fun us rest hl => ?_) fun A outer s H vs Q E hr hsp => ?_) fun vs H Q E h => ⟨[], vs, rfl, rfl, h.1, h.2⟩
  · cases us with
    | nil => exact hb kV doc pm an cdv ct rest
    | cons _ _ => cases hl
  · obtain ⟨t, h, q⟩ := hbody cdv A outer s H vs Q E hr hsp
    exact ⟨t, h.nox, q⟩
def spIn (K : PySem.W.Frag) (top : Bool) : Sp := fun vs H Q _ => ∃ (p : Addr) (v u : V) (o1 o2 : Option Fq) (k : Nat), vs = [.ref p] ∧ H p = some (.tup [v, u]) ∧ OqV K H v o1 ∧ OqV K H u o2 ∧ OqZ k o1 ∧ OqZ k o2 ∧ k ≤ 400000 ∧ ∀ x, OqV K H x (pickO top o1 o2) → Q x H
/-- least(v, u), greatest(v, u) -/
def spPick (K : PySem.W.Frag) (top : Bool) : Sp := fun vs H Q _ => ∃ (v u : V) (o1 o2 : Option Fq) (k : Nat), vs = [v, u] ∧ OqV K H v o1 ∧ OqV K H u o2 ∧ OqZ k o1 ∧ OqZ k o2 ∧ k ≤ 400000 ∧ ∀ x H', Same H H' → OqV K H' x (pickO top o1 o2) → Q x H'
theorem star_pick {top : Bool} {f : Addr} {k : Nat} (h : FnR P w K mg base CX0 k f (fun vs H Q E => vs.length ≤ sizeLine ∧ ∀ p, H p = none → spIn K top [V.ref p] (upd H p (.tup vs)) Q E)) : FnR P w K mg base CX0 k f (spPick K top) :=
  h.imp fun vs H Q E ⟨v, u, o1, o2, k, e, h1, h2, z1, z2, hk, q⟩ => by
    subst e
    exact ⟨two_line, fun p np => ⟨p, v, u, o1, o2, k, rfl, upd_same, h1.same (same_upd np), h2.same (same_upd np), z1, z2, hk, fun x hx => q x _ (same_upd np) hx⟩⟩
theorem oq_dec {v : V} {o : Option Fq} {H : Hp} (h : OqV K H v o) : decide (v = V.non) = o.isNone := by
  cases o with
  | none => rw [show v = V.non from h]; rfl
  | some f =>
    obtain ⟨p, e, _⟩ := (show FqV K H v f from h)
    rw [e]
    rfl
end
section
variable {P : Program} {w : World} {K : PySem.W.Frag} {mg : Str → Option Value} {base : Heap} {fa : Nat → Addr} {fd : Nat → FuncData}
theorem ok_p_least (T : Txt K mg fa fd) : FnR P w K mg base CX0 2 (fa 19) (spPick K false) := by
  refine star_pick (star_ok T.F_p_least sc_p_least (fun _ _ _ _ _ _ rest => by cases rest <;> rfl) fun cdv A outer s H vs Q E hr h => ?_)
  obtain ⟨p, v, u, o1, o2, k, rfl, hp, h1, h2, z1, z2, hk, q⟩ := h
  refine ⟨_, (C8.pss_cut (ps_set (i := 1) sc_p_least.nd rfl (.inl rfl) pe_non)
      (C8.pss_cut (ps_for PassesOwn.never rfl (pi_tup (pv 0)) (pg_name (i := 2) sc_p_least.nd rfl (.inl rfl)) (pss_one (ps_if (PW.pt (pw_and (pt_cmpR op_notN (pv 2) pe_non (nomark _)) (pw_and1 (PW.pt (pw_or (pt_cmpR op_isN (pv 1) pe_non (nomark _)) (pw_or1 (pt_val (pe_call (ok_p_is_less T) (hr.mono (by decide)) (by rfl) T.g_p_is_less T.F_p_is_less.kp T.b_p_is_less .nil pass0 (pa_cons (pv 2) (pa_cons (pv 1) pa_nil)))))))))) (pss_one (ps_set (i := 1) sc_p_least.nd rfl (.inl rfl) (pv 2))) pss_nil)))
      (pss_one (ps_ret (pv 1))))), ?_⟩
  refine ⟨fun σ G => G = H ∧ σ = [some (.ref p), some .non, none], ⟨rfl, rfl⟩, fun σ G hM => ?_⟩
  obtain ⟨rfl, rfl⟩ := hM
  refine ⟨fun σ G2 => G2 = G ∧ ∃ x y, OqV K G x (pickO false o1 o2) ∧ σ = [some (.ref p), some x, y], ?_, fun σ G2 hM => ?_⟩
  · refine ⟨_, rfl, p, rfl, ⟨_, SqT.of hp⟩, for_tup (K := K) (a := p) (xs := [v, u]) (fun i σ G2 => G2 = G ∧ ∃ x y, OqV K G x (([o1, o2].take i).foldl (pickO false) none) ∧ OqZ k (([o1, o2].take i).foldl (pickO false) none) ∧ σ = [some (.ref p), some x, y]) ⟨rfl, _, _, rfl, trivial, rfl⟩ (fun i σ G2 _ hp2 => by rw [hp2.1]; exact SqT.of hp) (fun i x σ G2 hx hp2 => ?_) (fun σ G2 hp2 => ?_)⟩
    · obtain ⟨rfl, fv, y, hf, zf, rfl⟩ := hp2
      obtain ⟨o, ho, hv, zo⟩ : ∃ o, [o1, o2][i]? = some o ∧ OqV K G2 x o ∧ OqZ k o := by
        match i, hx with
        | 0, hx => cases hx; exact ⟨_, rfl, h1, z1⟩
        | 1, hx => cases hx; exact ⟨_, rfl, h2, z2⟩
        | i + 2, hx => cases hx
      have e2 : ([o1, o2].take (i + 1)).foldl (pickO false) none = pickO false (([o1, o2].take i).foldl (pickO false) none) o := by
        rw [List.take_add_one, ho, List.foldl_append]
        rfl
      rw [e2]
      generalize ([o1, o2].take i).foldl (pickO false) none = fo at hf zf e2
      have zp := pickO_z (top := false) zf zo
      clear e2 ho
      cases o with
      | none =>
        have hv : x = .non := hv
        subst hv
        exact ⟨_, rfl, rfl, _, rfl, iteF (iteF ⟨rfl, fv, some .non, hf, zf, rfl⟩)⟩
      | some f =>
        obtain ⟨px, rfl, hpx⟩ := id (show FqV K G2 x f from hv)
        refine ⟨_, rfl, rfl, _, rfl, iteT ⟨_, rfl, rfl, _, rfl, ?_⟩⟩
        cases fo with
        | none =>
          have hf : fv = .non := hf
          subst hf
          exact iteT (iteT ⟨_, rfl, rfl, .ref px, some (.ref px), hv, zp, rfl⟩)
        | some g =>
          obtain ⟨pg, rfl, hpg⟩ := id (show FqV K G2 fv g from hf)
          refine iteF ⟨_, rfl, _, rfl, .ref px, .ref pg, f, g, k, rfl, hv, hf, zo, zf, hk, _, rfl, ?_⟩
          have e : pickO false (some g) (some f) = if ltF f g = true then some f else some g := rfl
          rw [e] at zp ⊢
          cases c : ltF f g with
          | true =>
            rw [c, if_pos rfl] at zp
            rw [if_pos rfl]
            exact iteT ⟨_, rfl, rfl, .ref px, some (.ref px), hv, zp, rfl⟩
          | false =>
            rw [c, if_neg Bool.false_ne_true] at zp
            rw [if_neg Bool.false_ne_true]
            exact iteF ⟨rfl, .ref pg, some (.ref px), hf, zp, rfl⟩
    · obtain ⟨rfl, x, y, hx, _, rfl⟩ := hp2
      have e : ([o1, o2].take [v, u].length).foldl (pickO false) none = pickO false o1 o2 := by
        show pickO false (pickO false none o1) o2 = _
        cases o1 <;> rfl
      rw [e] at hx
      exact ⟨rfl, x, y, hx, rfl⟩
  · obtain ⟨rfl, x, y, hx, rfl⟩ := hM
    exact ⟨_, rfl, q x hx⟩
theorem ok_p_greatest (T : Txt K mg fa fd) : FnR P w K mg base CX0 2 (fa 20) (spPick K true) := by
  refine star_pick (star_ok T.F_p_greatest sc_p_greatest (fun _ _ _ _ _ _ rest => by cases rest <;> rfl) fun cdv A outer s H vs Q E hr h => ?_)
  obtain ⟨p, v, u, o1, o2, k, rfl, hp, h1, h2, z1, z2, hk, q⟩ := h
  refine ⟨_, (C8.pss_cut (ps_set (i := 1) sc_p_greatest.nd rfl (.inl rfl) pe_non)
      (C8.pss_cut (ps_for PassesOwn.never rfl (pi_tup (pv 0)) (pg_name (i := 2) sc_p_greatest.nd rfl (.inl rfl)) (pss_one (ps_if (PW.pt (pw_and (pt_cmpR op_notN (pv 2) pe_non (nomark _)) (pw_and1 (PW.pt (pw_or (pt_cmpR op_isN (pv 1) pe_non (nomark _)) (pw_or1 (pt_val (pe_call (ok_p_is_less T) (hr.mono (by decide)) (by rfl) T.g_p_is_less T.F_p_is_less.kp T.b_p_is_less .nil pass0 (pa_cons (pv 1) (pa_cons (pv 2) pa_nil)))))))))) (pss_one (ps_set (i := 1) sc_p_greatest.nd rfl (.inl rfl) (pv 2))) pss_nil)))
      (pss_one (ps_ret (pv 1))))), ?_⟩
  refine ⟨fun σ G => G = H ∧ σ = [some (.ref p), some .non, none], ⟨rfl, rfl⟩, fun σ G hM => ?_⟩
  obtain ⟨rfl, rfl⟩ := hM
  refine ⟨fun σ G2 => G2 = G ∧ ∃ x y, OqV K G x (pickO true o1 o2) ∧ σ = [some (.ref p), some x, y], ?_, fun σ G2 hM => ?_⟩
  · refine ⟨_, rfl, p, rfl, ⟨_, SqT.of hp⟩, for_tup (K := K) (a := p) (xs := [v, u]) (fun i σ G2 => G2 = G ∧ ∃ x y, OqV K G x (([o1, o2].take i).foldl (pickO true) none) ∧ OqZ k (([o1, o2].take i).foldl (pickO true) none) ∧ σ = [some (.ref p), some x, y]) ⟨rfl, _, _, rfl, trivial, rfl⟩ (fun i σ G2 _ hp2 => by rw [hp2.1]; exact SqT.of hp) (fun i x σ G2 hx hp2 => ?_) (fun σ G2 hp2 => ?_)⟩
    · obtain ⟨rfl, fv, y, hf, zf, rfl⟩ := hp2
      obtain ⟨o, ho, hv, zo⟩ : ∃ o, [o1, o2][i]? = some o ∧ OqV K G2 x o ∧ OqZ k o := by
        match i, hx with
        | 0, hx => cases hx; exact ⟨_, rfl, h1, z1⟩
        | 1, hx => cases hx; exact ⟨_, rfl, h2, z2⟩
        | i + 2, hx => cases hx
      have e2 : ([o1, o2].take (i + 1)).foldl (pickO true) none = pickO true (([o1, o2].take i).foldl (pickO true) none) o := by
        rw [List.take_add_one, ho, List.foldl_append]
        rfl
      rw [e2]
      generalize ([o1, o2].take i).foldl (pickO true) none = fo at hf zf e2
      have zp := pickO_z (top := true) zf zo
      clear e2 ho
      cases o with
      | none =>
        have hv : x = .non := hv
        subst hv
        exact ⟨_, rfl, rfl, _, rfl, iteF (iteF ⟨rfl, fv, some .non, hf, zf, rfl⟩)⟩
      | some f =>
        obtain ⟨px, rfl, hpx⟩ := id (show FqV K G2 x f from hv)
        refine ⟨_, rfl, rfl, _, rfl, iteT ⟨_, rfl, rfl, _, rfl, ?_⟩⟩
        cases fo with
        | none =>
          have hf : fv = .non := hf
          subst hf
          exact iteT (iteT ⟨_, rfl, rfl, .ref px, some (.ref px), hv, zp, rfl⟩)
        | some g =>
          obtain ⟨pg, rfl, hpg⟩ := id (show FqV K G2 fv g from hf)
          refine iteF ⟨_, rfl, _, rfl, .ref pg, .ref px, g, f, k, rfl, hf, hv, zf, zo, hk, _, rfl, ?_⟩
          have e : pickO true (some g) (some f) = if ltF g f = true then some f else some g := rfl
          rw [e] at zp ⊢
          cases c : ltF g f with
          | true =>
            rw [c, if_pos rfl] at zp
            rw [if_pos rfl]
            exact iteT ⟨_, rfl, rfl, .ref px, some (.ref px), hv, zp, rfl⟩
          | false =>
            rw [c, if_neg Bool.false_ne_true] at zp
            rw [if_neg Bool.false_ne_true]
            exact iteF ⟨rfl, .ref pg, some (.ref px), hf, zp, rfl⟩
    · obtain ⟨rfl, x, y, hx, _, rfl⟩ := hp2
      have e : ([o1, o2].take [v, u].length).foldl (pickO true) none = pickO true o1 o2 := by
        show pickO true (pickO true none o1) o2 = _
        cases o1 <;> rfl
      rw [e] at hx
      exact ⟨rfl, x, y, hx, rfl⟩
  · obtain ⟨rfl, x, y, hx, rfl⟩ := hM
    exact ⟨_, rfl, q x hx⟩
end
/-- what begins with two integers -/
def WyV (K : PySem.W.Frag) (H : Hp) (v : V) (a b : Int) : Prop := ∃ p xs, v = V.ref p ∧ SqT K H p xs ∧ atI xs 0 = some (.int a) ∧ atI xs 1 = some (.int b)
theorem RwV.wy {K : PySem.W.Frag} {H : Hp} {v : V} {r : Rw} (h : RwV K H v r) : WyV K H v r.a r.b := by
  obtain ⟨p, c, e, q, f⟩ := h
  exact ⟨p, _, e, q, rfl, rfl⟩
def crossF (a b c d : Int) : Int := a * d - b * c
def crossR (r s : Rw) : Int := crossF r.a r.b s.a s.b
def oppR (r : Rw) : Rw := ⟨-r.a, -r.b, (-r.c.1, r.c.2)⟩
def looseF (t u : Int) : Fq := if u < 0 then (-t, -u) else (t, u)
def lowR (f : Fq) : Fq := (lowT f.1 f.2, lowD f.1 f.2)
theorem Lz.cross {k : Nat} {a b c d : Int} (ha : Lz k a) (hb : Lz k b) (hc : Lz k c) (hd : Lz k d) : Lz (2 * k + 1) (crossF a b c d) := by
  have := (ha.mul hd).sub (hb.mul hc)
  rwa [← Nat.two_mul] at this
theorem looseZ {k : Nat} {t u : Int} (h1 : Lz k t) (h2 : Lz k u) : FqZ k (looseF t u) := by
  unfold looseF
  split
  · exact ⟨h1.neg, h2.neg⟩
  · exact ⟨h1, h2⟩
theorem lowRZ {k : Nat} {f : Fq} (h : FqZ k f) (h0 : f.2 ≠ 0) : FqZ k (lowR f) := ⟨Nat.lt_of_le_of_lt (lowT_abs h0) h.1, Nat.lt_of_le_of_lt (lowD_abs h0) h.2⟩
section
variable {P : Program} {w : World} {K : PySem.W.Frag} {mg : Str → Option Value} {base : Heap} {fa : Nat → Addr} {fd : Nat → FuncData}
theorem ok_p_ratio0 (T : Txt K mg fa fd) : FnOk P w K mg base CX0 3 (fa 16) (fd 16) ["top", "under"] spLow := by
  refine T.F_p_ratio.ok sc_p_ratio (fun vs H Q E h => ?_) (fun cdv A outer s H vs Q E hr h => ?_)
  · obtain ⟨x, y, rfl, _⟩ := h
    rfl
  · obtain ⟨u, v, rfl, ev, h9, q⟩ := h
    refine ⟨_, (pss_cons (ps_if (pt_cmpR op_eq (pv 1) pe_int (nomark _)) (pss_one ps_never) pss_nil)
      (pss_cons (ps_set (i := 2) sc_p_ratio.nd rfl (.inl rfl) (pe_call (ok_p_common_divisor T) (hr.mono (by decide)) (by rfl) T.g_p_common_divisor T.F_p_common_divisor.kp T.b_p_common_divisor .nil pass0 (pa_cons (pv 0) (pa_cons (pv 1) pa_nil))))
      (C8.pss_cut (ps_if (pt_cmpR op_lt (pv 1) pe_int (nomark _)) (pss_one (ps_set (i := 2) sc_p_ratio.nd rfl (.inl rfl) (pe_un un_neg (pv 2)))) pss_nil)
      (pss_one (ps_ret (pe_tup (pa_cons (pe_op op_fdivG (pv 0) (pv 2)) (pa_cons (pe_op op_fdivG (pv 1) (pv 2)) pa_nil)))))))), ?_⟩
    refine ⟨_, rfl, rfl, _, rfl, ite2 (fun e => absurd (V.int.inj (of_decide_eq_true e)) ev) (fun _ => ?_)⟩
    refine ⟨_, rfl, _, rfl, u, v, rfl, .inr h9, ?_⟩
    refine ⟨fun σ H1 => H1 = H ∧ σ = [some (.int u), some (.int v), some (.int (lowG u v))], ?_, fun σ H1 hM => ?_⟩
    · refine ⟨_, rfl, _, _, rfl, rfl, _, rfl, ite2 (fun e => ?_) (fun e => ?_)⟩
      · refine ⟨_, rfl, _, rfl, rfl, ?_⟩
        unfold lowG
        rw [if_pos (of_decide_eq_true e)]
        rfl
      · refine ⟨rfl, ?_⟩
        unfold lowG
        rw [if_neg (fun z => e (decide_eq_true z))]
        rfl
    · obtain ⟨rfl, rfl⟩ := hM
      have hG := lowG_ok (u := u) ev h9
      exact ⟨_, rfl, _, rfl, _, _, rfl, rfl, hG, _, rfl, _, rfl, _, _, rfl, rfl, hG, two_line, q⟩
def spCross (K : PySem.W.Frag) : Sp := fun vs H Q _ => ∃ (v u : V) (a b c d : Int) (k : Nat), vs = [v, u] ∧ WyV K H v a b ∧ WyV K H u c d ∧ Lz k a ∧ Lz k b ∧ Lz k c ∧ Lz k d ∧ k ≤ 400000 ∧ Q (.int (crossF a b c d)) H
theorem ok_p_cross (T : Txt K mg fa fd) : FnOk P w K mg base CX0 1 (fa 27) (fd 27) ["one", "other"] (spCross K) := by
  refine T.F_p_cross.ok sc_p_cross (fun vs H Q E h => ?_) (fun cdv A outer s H vs Q E hr h => ?_)
  · obtain ⟨v, u, a, b, c, d, k, rfl, _⟩ := h
    rfl
  · obtain ⟨v, u, a, b, c, d, k, rfl, ⟨p, xs, rfl, hp, p0, p1⟩, ⟨r, ys, rfl, hr', r0, r1⟩, za, zb, zc, zd, hk, q⟩ := h
    exact ⟨_, (pss_one (ps_ret (pe_op op_sub (pe_op op_mulW (pe_ix ix_tup (pv 0) pe_int (fun _ _ => rfl)) (pe_ix ix_tup (pv 1) pe_int (fun _ _ => rfl))) (pe_op op_mulW (pe_ix ix_tup (pv 0) pe_int (fun _ _ => rfl)) (pe_ix ix_tup (pv 1) pe_int (fun _ _ => rfl)))))), _, rfl, p, _, _, _, rfl, rfl, hp, p0, _, rfl, r, _, _, _, rfl, rfl, hr', r1, _, _, rfl, rfl, mulW za zd (by omega),
      _, rfl, p, _, _, _, rfl, rfl, hp, p1, _, rfl, r, _, _, _, rfl, rfl, hr', r0, _, _, rfl, rfl, mulW zb zc (by omega), _, _, rfl, rfl, q⟩
def spOpp (K : PySem.W.Frag) : Sp := fun vs H Q _ => ∃ (v : V) (r : Rw), vs = [v] ∧ RwV K H v r ∧ ∀ u H', Same H H' → RwV K H' u (oppR r) → Q u H'
theorem ok_p_opposite (T : Txt K mg fa fd) : FnOk P w K mg base CX0 1 (fa 28) (fd 28) ["row"] (spOpp K) := by
  refine T.F_p_opposite.ok sc_p_opposite (fun vs H Q E h => ?_) (fun cdv A outer s H vs Q E hr h => ?_)
  · obtain ⟨v, r, rfl, _⟩ := h
    rfl
  · obtain ⟨v, r, rfl, ⟨p, c, rfl, hp, pc, rfl, hc⟩, q⟩ := h
    refine ⟨_, (C8.pss_cut (ps_asg (pv 0) (pg_tup (by rfl) (pgs_cons (pg_name (i := 1) sc_p_opposite.nd rfl (.inl rfl)) (pgs_cons (pg_name (i := 2) sc_p_opposite.nd rfl (.inl rfl)) (pgs_cons (pg_name (i := 3) sc_p_opposite.nd rfl (.inl rfl)) pgs_nil)))))
      (pss_one (ps_ret (pe_tup (pa_cons (pe_un un_neg (pv 1)) (pa_cons (pe_un un_neg (pv 2)) (pa_cons (pe_tup (pa_cons (pe_un un_neg (pe_ix ix_tup (pv 3) pe_int (fun _ _ => rfl))) (pa_cons (pe_ix ix_tup (pv 3) pe_int (fun _ _ => rfl)) pa_nil))) pa_nil))))))), ?_⟩
    refine ⟨fun σ G => G = H ∧ σ = [some (.ref p), some (.int r.a), some (.int r.b), some (.ref pc)], ⟨_, rfl, p, _, rfl, hp, rfl, _, _, rfl, _, _, rfl, _, _, rfl, rfl, rfl, rfl⟩, fun σ G hM => ?_⟩
    obtain ⟨rfl, rfl⟩ := hM
    refine ⟨_, rfl, _, rfl, _, rfl, _, rfl, _, rfl, pc, _, _, _, rfl, rfl, hc, t0, _, rfl, _, rfl, pc, _, _, _, rfl, rfl, hc, t1, two_line, fun x nx => ⟨small_line (by show 3 ≤ 1000; decide), fun y ny => ?_⟩⟩
    have s1 := same_upd (o := .tup [V.int (-r.c.1), .int r.c.2]) nx
    have s2 := same_upd (o := .tup [V.int (-r.a), .int (-r.b), .ref x]) ny
    exact q _ _ (s1.trans s2) ⟨y, _, rfl, SqT.of upd_same, x, rfl, SqT.of (s2 _ _ upd_same)⟩
def spLoose : Sp := fun vs H Q _ => ∃ (t u : Int), vs = [.int t, .int u] ∧ ∀ p, H p = none → Q (.ref p) (upd H p (.tup [.int (looseF t u).1, .int (looseF t u).2]))
theorem ok_p_loose (T : Txt K mg fa fd) : FnOk P w K mg base CX0 1 (fa 29) (fd 29) ["top", "under"] spLoose := by
  refine T.F_p_loose.ok sc_p_loose (fun vs H Q E h => ?_) (fun cdv A outer s H vs Q E hr h => ?_)
  · obtain ⟨t, u, rfl, _⟩ := h
    rfl
  · obtain ⟨t, u, rfl, q⟩ := h
    refine ⟨_, (pss_one (ps_ret (pe_ifExp (pt_cmpR op_lt (pv 1) pe_int (nomark _)) (pe_tup (pa_cons (pe_un un_neg (pv 0)) (pa_cons (pe_un un_neg (pv 1)) pa_nil))) (pe_tup (pa_cons (pv 0) (pa_cons (pv 1) pa_nil)))))), ?_⟩
    unfold looseF at q
    refine ⟨_, rfl, _, _, rfl, rfl, _, rfl, ite2 (fun e => ?_) (fun e => ?_)⟩
    · rw [if_pos (of_decide_eq_true e)] at q
      exact ⟨_, rfl, _, rfl, _, rfl, _, rfl, two_line, q⟩
    · rw [if_neg (fun z => e (decide_eq_true z))] at q
      exact ⟨_, rfl, _, rfl, two_line, q⟩
def spLowest (K : PySem.W.Frag) : Sp := fun vs H Q _ => ∃ (v : V) (o : Option Fq), vs = [v] ∧ OqV K H v o ∧ (∀ f, o = some f → f.2 ≠ 0 ∧ FqZ 4096 f) ∧ ∀ u H', Same H H' → OqV K H' u (o.map lowR) → Q u H'
theorem ok_p_lowest (T : Txt K mg fa fd) : FnOk P w K mg base CX0 4 (fa 30) (fd 30) ["one"] (spLowest K) := by
  refine T.F_p_lowest.ok sc_p_lowest (fun vs H Q E h => ?_) (fun cdv A outer s H vs Q E hr h => ?_)
  · obtain ⟨v, o, rfl, _⟩ := h
    rfl
  · obtain ⟨v, o, rfl, hv, hz, q⟩ := h
    refine ⟨_, (pss_one (ps_ret (pe_ifExp (pt_cmpR op_isN (pv 0) pe_non (nomark _)) pe_non (pe_call (ok_p_ratio0 T) (hr.mono (by decide)) (by rfl) T.g_p_ratio T.F_p_ratio.kp T.b_p_ratio .nil pass0 (pa_cons (pe_ix ix_tup (pv 0) pe_int (fun _ _ => rfl)) (pa_cons (pe_ix ix_tup (pv 0) pe_int (fun _ _ => rfl)) pa_nil)))))), ?_⟩
    cases o with
    | none =>
      have hv : v = .non := hv
      subst hv
      exact ⟨_, rfl, rfl, _, rfl, iteT (q _ _ (fun _ _ e => e) rfl)⟩
    | some f =>
      obtain ⟨p, rfl, hp⟩ := (show FqV K H v f from hv)
      obtain ⟨h0, z⟩ := hz f rfl
      exact ⟨_, rfl, rfl, _, rfl, iteF ⟨_, rfl, p, _, _, _, rfl, rfl, hp, t0, _, rfl, p, _, _, _, rfl, rfl, hp, t1, f.1, f.2, rfl, h0, z.2.log (by decide), fun x nx => q _ _ (same_upd nx) (show FqV K _ (.ref x) (lowR f) from FqV.new (f := lowR f))⟩⟩
end
def mineF (r s t : Rw) : Int := r.c.1 * s.c.2 * t.c.2 * crossR s t
def theirF (r s t : Rw) : Int := s.c.1 * t.c.2 * crossR r t + t.c.1 * s.c.2 * crossR s r
def followsF (r s t : Rw) : Bool := decide (mineF r s t ≥ theirF r s t * r.c.2)
def crossingF (r s : Rw) : Fq := looseF (r.c.1 * s.c.2 * s.b - s.c.1 * r.c.2 * r.b) (r.c.2 * s.c.2 * crossR r s)
theorem crossZ {k : Nat} {r s : Rw} (hr : RwZ k r) (hs : RwZ k s) : Lz (2 * k + 1) (crossR r s) := Lz.cross hr.a hr.b hs.a hs.b
theorem crossingZ {k : Nat} {r s : Rw} (hr : RwZ k r) (hs : RwZ k s) : FqZ (4 * k + 1) (crossingF r s) := by
  refine looseZ ?_ ?_
  · exact (((hr.c.1.mul hs.c.2).mul hs.b).sub ((hs.c.1.mul hr.c.2).mul hr.b)).mono (by omega)
  · exact ((hr.c.2.mul hs.c.2).mul (crossZ hr hs)).mono (by omega)
section
variable {P : Program} {w : World} {K : PySem.W.Frag} {mg : Str → Option Value} {base : Heap} {fa : Nat → Addr} {fd : Nat → FuncData}
def spFollows (K : PySem.W.Frag) : Sp := fun vs H Q _ => ∃ (x y z : V) (r s t : Rw) (k : Nat), vs = [x, y, z] ∧ RwV K H x r ∧ RwV K H y s ∧ RwV K H z t ∧ RwZ k r ∧ RwZ k s ∧ RwZ k t ∧ k ≤ 100000 ∧ Q (.bl (followsF r s t)) H
theorem ok_p_follows (T : Txt K mg fa fd) : FnOk P w K mg base CX0 2 (fa 33) (fd 33) ["row", "one", "other"] (spFollows K) := by
  refine T.F_p_follows.ok sc_p_follows (fun vs H Q E h => ?_) (fun cdv A outer s H vs Q E hr h => ?_)
  · obtain ⟨x, y, z, r, s, t, k, rfl, _⟩ := h
    rfl
  · obtain ⟨x, y, z, r, s, t, k, rfl, hx, hy, hz, zr, zs, zt, hk, q⟩ := h
    obtain ⟨px, cx, rfl, hpx, cpx, rfl, hcx⟩ := id hx
    obtain ⟨py, cy, rfl, hpy, cpy, rfl, hcy⟩ := id hy
    obtain ⟨pz, cz, rfl, hpz, cpz, rfl, hcz⟩ := id hz
    refine ⟨_, (C8.pss_cut (ps_asg (pe_ix ix_tup (pv 0) pe_int (fun _ _ => rfl)) (pg_tup (by rfl) (pgs_cons (pg_name (i := 3) sc_p_follows.nd rfl (.inl rfl)) (pgs_cons (pg_name (i := 4) sc_p_follows.nd rfl (.inl rfl)) pgs_nil))))
      (C8.pss_cut (ps_par (i := 5) (j := 6) (by rfl) sc_p_follows.nd rfl rfl (by decide) rfl rfl (pa_cons (pe_ix ix_tup (pv 1) pe_int (fun _ _ => rfl)) (pa_cons (pe_ix ix_tup (pv 2) pe_int (fun _ _ => rfl)) pa_nil)) (by rfl))
      (C8.pss_cut (ps_set (i := 7) sc_p_follows.nd rfl (.inl rfl) (pe_op op_mulW (pe_op op_mulW (pe_op op_mulW (pv 3) (pe_ix ix_tup (pv 5) pe_int (fun _ _ => rfl))) (pe_ix ix_tup (pv 6) pe_int (fun _ _ => rfl))) (pe_call (ok_p_cross T) (hr.mono (by decide)) (by rfl) T.g_p_cross T.F_p_cross.kp T.b_p_cross .nil pass0 (pa_cons (pv 1) (pa_cons (pv 2) pa_nil)))))
      (C8.pss_cut (ps_set (i := 8) sc_p_follows.nd rfl (.inl rfl) (pe_op op_add (pe_op op_mulW (pe_op op_mulW (pe_ix ix_tup (pv 5) pe_int (fun _ _ => rfl)) (pe_ix ix_tup (pv 6) pe_int (fun _ _ => rfl))) (pe_call (ok_p_cross T) (hr.mono (by decide)) (by rfl) T.g_p_cross T.F_p_cross.kp T.b_p_cross .nil pass0 (pa_cons (pv 0) (pa_cons (pv 2) pa_nil)))) (pe_op op_mulW (pe_op op_mulW (pe_ix ix_tup (pv 6) pe_int (fun _ _ => rfl)) (pe_ix ix_tup (pv 5) pe_int (fun _ _ => rfl))) (pe_call (ok_p_cross T) (hr.mono (by decide)) (by rfl) T.g_p_cross T.F_p_cross.kp T.b_p_cross .nil pass0 (pa_cons (pv 1) (pa_cons (pv 0) pa_nil))))))
      (pss_one (ps_ret (pe_cmpR op_ge (pv 7) (pe_op op_mulW (pv 8) (pv 4)) (nomark _)))))))), ?_⟩
    refine ⟨fun σ G => G = H ∧ σ = [some (.ref px), some (.ref py), some (.ref pz), some (.int r.c.1), some (.int r.c.2), none, none, none, none], ⟨_, rfl, px, _, _, _, rfl, rfl, hpx, u2, cpx, _, rfl, hcx, rfl, _, _, rfl, _, _, rfl, rfl, rfl, rfl⟩, fun σ G hM => ?_⟩
    obtain ⟨rfl, rfl⟩ := hM
    refine ⟨fun σ G2 => G2 = G ∧ σ = [some (.ref px), some (.ref py), some (.ref pz), some (.int r.c.1), some (.int r.c.2), some (.ref cpy), some (.ref cpz), none, none], ⟨_, rfl, py, _, _, _, rfl, rfl, hpy, u2, _, rfl, pz, _, _, _, rfl, rfl, hpz, u2, _, _, rfl, rfl, rfl⟩, fun σ G2 hM => ?_⟩
    obtain ⟨rfl, rfl⟩ := hM
    refine ⟨fun σ G3 => G3 = G2 ∧ σ = [some (.ref px), some (.ref py), some (.ref pz), some (.int r.c.1), some (.int r.c.2), some (.ref cpy), some (.ref cpz), some (.int (mineF r s t)), none], ?_, fun σ G3 hM => ?_⟩
    · refine ⟨_, rfl, _, rfl, cpy, _, _, _, rfl, rfl, hcy, t1, _, _, rfl, rfl, mulW zr.c.1 zs.c.2 (by omega), _, rfl, cpz, _, _, _, rfl, rfl, hcz, t1, _, _, rfl, rfl, mulW (zr.c.1.mul zs.c.2) zt.c.2 (by omega),
        _, rfl, _, rfl, _, _, _, _, _, _, k, rfl, hy.wy, hz.wy, zs.a, zs.b, zt.a, zt.b, by omega, _, _, rfl, rfl, mulW ((zr.c.1.mul zs.c.2).mul zt.c.2) (crossZ zs zt) (by omega), rfl, rfl⟩
    obtain ⟨rfl, rfl⟩ := hM
    refine ⟨fun σ G4 => G4 = G3 ∧ σ = [some (.ref px), some (.ref py), some (.ref pz), some (.int r.c.1), some (.int r.c.2), some (.ref cpy), some (.ref cpz), some (.int (mineF r s t)), some (.int (theirF r s t))], ?_, fun σ G4 hM => ?_⟩
    · refine ⟨_, rfl, cpy, _, _, _, rfl, rfl, hcy, t0, _, rfl, cpz, _, _, _, rfl, rfl, hcz, t1, _, _, rfl, rfl, mulW zs.c.1 zt.c.2 (by omega), _, rfl, _, rfl, _, _, _, _, _, _, k, rfl, hx.wy, hz.wy, zr.a, zr.b, zt.a, zt.b, by omega, _, _, rfl, rfl, mulW (zs.c.1.mul zt.c.2) (crossZ zr zt) (by omega),
        _, rfl, cpz, _, _, _, rfl, rfl, hcz, t0, _, rfl, cpy, _, _, _, rfl, rfl, hcy, t1, _, _, rfl, rfl, mulW zt.c.1 zs.c.2 (by omega), _, rfl, _, rfl, _, _, _, _, _, _, k, rfl, hy.wy, hx.wy, zs.a, zs.b, zr.a, zr.b, by omega, _, _, rfl, rfl, mulW (zt.c.1.mul zs.c.2) (crossZ zs zr) (by omega), _, _, rfl, rfl, rfl, rfl⟩
    obtain ⟨rfl, rfl⟩ := hM
    have z1 : Lz (4 * k + 2) (theirF r s t) := (((zs.c.1.mul zt.c.2).mul (crossZ zr zt)).add ((zt.c.1.mul zs.c.2).mul (crossZ zs zr))).mono (by omega)
    exact ⟨_, rfl, _, rfl, _, rfl, _, _, rfl, rfl, mulW z1 zr.c.2 (by omega), _, _, rfl, rfl, q⟩
def spCrossing (K : PySem.W.Frag) : Sp := fun vs H Q _ => ∃ (x y : V) (r s : Rw) (k : Nat), vs = [x, y] ∧ RwV K H x r ∧ RwV K H y s ∧ RwZ k r ∧ RwZ k s ∧ k ≤ 100000 ∧ ∀ u H', Same H H' → FqV K H' u (crossingF r s) → Q u H'
theorem ok_p_crossing (T : Txt K mg fa fd) : FnOk P w K mg base CX0 3 (fa 35) (fd 35) ["one", "other"] (spCrossing K) := by
  refine T.F_p_crossing.ok sc_p_crossing (fun vs H Q E h => ?_) (fun cdv A outer s H vs Q E hr h => ?_)
  · obtain ⟨x, y, r, s, k, rfl, _⟩ := h
    rfl
  · obtain ⟨x, y, r, s, k, rfl, hx, hy, zr, zs, hk, q⟩ := h
    obtain ⟨px, cx, rfl, hpx, cpx, rfl, hcx⟩ := id hx
    obtain ⟨py, cy, rfl, hpy, cpy, rfl, hcy⟩ := id hy
    refine ⟨_, (C8.pss_cut (ps_asg (pe_tup (pa_cons (pv 0) (pa_cons (pv 1) pa_nil))) (pg_tup (by rfl) (pgs_cons (pg_tup (by rfl) (pgs_cons (pg_name (i := 2) sc_p_crossing.nd rfl (.inl rfl)) (pgs_cons (pg_name (i := 3) sc_p_crossing.nd rfl (.inl rfl)) (pgs_cons (pg_name (i := 4) sc_p_crossing.nd rfl (.inl rfl)) pgs_nil)))) (pgs_cons (pg_tup (by rfl) (pgs_cons (pg_name (i := 5) sc_p_crossing.nd rfl (.inl rfl)) (pgs_cons (pg_name (i := 6) sc_p_crossing.nd rfl (.inl rfl)) (pgs_cons (pg_name (i := 7) sc_p_crossing.nd rfl (.inl rfl)) pgs_nil)))) pgs_nil))))
      (pss_one (ps_ret (pe_call (ok_p_loose T) (hr.mono (by decide)) (by rfl) T.g_p_loose T.F_p_loose.kp T.b_p_loose .nil pass0 (pa_cons (pe_op op_sub (pe_op op_mulW (pe_op op_mulW (pe_ix ix_tup (pv 4) pe_int (fun _ _ => rfl)) (pe_ix ix_tup (pv 7) pe_int (fun _ _ => rfl))) (pv 6)) (pe_op op_mulW (pe_op op_mulW (pe_ix ix_tup (pv 7) pe_int (fun _ _ => rfl)) (pe_ix ix_tup (pv 4) pe_int (fun _ _ => rfl))) (pv 3))) (pa_cons (pe_op op_mulW (pe_op op_mulW (pe_ix ix_tup (pv 4) pe_int (fun _ _ => rfl)) (pe_ix ix_tup (pv 7) pe_int (fun _ _ => rfl))) (pe_call (ok_p_cross T) (hr.mono (by decide)) (by rfl) T.g_p_cross T.F_p_cross.kp T.b_p_cross .nil pass0 (pa_cons (pv 0) (pa_cons (pv 1) pa_nil)))) pa_nil)))))), ?_⟩
    refine ⟨fun σ G => Same H G ∧ σ = [some (.ref px), some (.ref py), some (.int r.a), some (.int r.b), some (.ref cpx), some (.int s.a), some (.int s.b), some (.ref cpy)], ?_, fun σ G hM => ?_⟩
    · refine ⟨_, rfl, _, rfl, two_line, fun t nt => ?_⟩
      have s1 := same_upd (o := .tup [V.ref px, .ref py]) nt
      exact ⟨t, _, rfl, .inl (.inl upd_same), rfl, _, _, rfl, px, _, rfl, SqT_sm s1 hpx, rfl, _, _, rfl, _, _, rfl, _, _, rfl, rfl, _, _, rfl, py, _, rfl, SqT_sm s1 hpy, rfl, _, _, rfl, _, _, rfl, _, _, rfl, rfl, rfl, s1, rfl⟩
    obtain ⟨s1, rfl⟩ := hM
    have hcx := SqT_sm s1 hcx
    have hcy := SqT_sm s1 hcy
    refine ⟨_, rfl, cpx, _, _, _, rfl, rfl, hcx, t0, _, rfl, cpy, _, _, _, rfl, rfl, hcy, t1, _, _, rfl, rfl, mulW zr.c.1 zs.c.2 (by omega), _, rfl, _, _, rfl, rfl, mulW (zr.c.1.mul zs.c.2) zs.b (by omega),
      _, rfl, cpy, _, _, _, rfl, rfl, hcy, t0, _, rfl, cpx, _, _, _, rfl, rfl, hcx, t1, _, _, rfl, rfl, mulW zs.c.1 zr.c.2 (by omega), _, rfl, _, _, rfl, rfl, mulW (zs.c.1.mul zr.c.2) zr.b (by omega), _, _, rfl, rfl,
      _, rfl, cpx, _, _, _, rfl, rfl, hcx, t1, _, rfl, cpy, _, _, _, rfl, rfl, hcy, t1, _, _, rfl, rfl, mulW zr.c.2 zs.c.2 (by omega), _, rfl, _, rfl, _, _, _, _, _, _, k, rfl, (hx.same s1).wy, (hy.same s1).wy, zr.a, zr.b, zs.a, zs.b, by omega, _, _, rfl, rfl, mulW (zr.c.2.mul zs.c.2) (crossZ zr zs) (by omega),
      _, _, rfl, fun p np => q _ _ (s1.trans (same_upd np)) (show FqV K _ (.ref p) (crossingF r s) from FqV.new (f := crossingF r s))⟩
end
theorem at_nat {xs : List V} {n : Nat} {v : V} (h : xs[n]? = some v) : atI xs (n : Int) = some v := by
  have lt := (List.getElem?_eq_some_iff.mp h).1
  have e : ixN xs.length (n : Int) = some n := by
    unfold ixN
    simp only [Int.toNat_natCast]
    repeat' split
    all_goals first | rfl | omega
  unfold atI
  rw [e]
  exact h
theorem cut_take (xs : List V) (i : Nat) (h : i ≤ xs.length) : cutV xs none (some (i : Int)) = xs.take i := by
  show (xs.drop 0).take (HT.sIx xs.length xs.length (some (i : Int)) - 0) = _
  rw [HT.sIx_nat, Nat.sub_zero, Nat.min_eq_left h]
  rfl
theorem cut_drop (xs : List V) (i : Nat) (h : i ≤ xs.length) : cutV xs (some (i : Int)) none = xs.drop i := by
  show (xs.drop (HT.sIx xs.length 0 (some (i : Int)))).take (xs.length - HT.sIx xs.length 0 (some (i : Int))) = _
  rw [HT.sIx_nat, Nat.min_eq_left h]
  exact List.take_of_length_le (by rw [List.length_drop]; exact Nat.le_refl _)
theorem SqL_sm {K : PySem.W.Frag} {H H' : Hp} {c : Addr} {xs : List V} (s : Same H H') (h : SqL K H c xs) : SqL K H' c xs := by
  rcases h with (e | ⟨o, e⟩) | e
  · exact .inl (.inl (s _ _ e))
  · exact .inl (.inr ⟨o, s _ _ e⟩)
  · exact .inr e
theorem none_of_same {H H' : Hp} {a : Addr} (s : Same H H') (n : H' a = none) : H a = none := by
  cases e : H a with
  | none => rfl
  | some o => rw [s _ _ e] at n; cases n
theorem iteTq {c : Bool} {A B : Prop} (h : c = true) (a : A) : ite (c = true) A B := by rw [h]; exact a
theorem iteFq {c : Bool} {A B : Prop} (h : c = false) (b : B) : ite (c = true) A B := by rw [h]; exact b
/-- a thing that begins with two fractions: its place -/
structure Th where
  v : V
  f : Fq
  g : Fq
def ThV (K : PySem.W.Frag) (H : Hp) (t : Th) : Prop := ∃ p xs x y, t.v = V.ref p ∧ SqT K H p xs ∧ atI xs 0 = some x ∧ atI xs 1 = some y ∧ FqV K H x t.f ∧ FqV K H y t.g
theorem ThV.same {K : PySem.W.Frag} {H H' : Hp} {t : Th} (h : ThV K H t) (s : Same H H') : ThV K H' t := by
  obtain ⟨p, xs, x, y, e, q, e1, e2, f, g⟩ := h
  exact ⟨p, xs, x, y, e, SqT_sm s q, e1, e2, f.same s, g.same s⟩
def ThZ (k : Nat) (t : Th) : Prop := FqZ k t.f ∧ FqZ k t.g
def precF (t u : Th) : Bool := if ltF t.f u.f = true then true else !ltF u.f t.f && ltF t.g u.g
def mergedF : List Th → List Th → List Th
  | [], us => us
  | t :: ts, [] => t :: mergedF ts []
  | t :: ts, u :: us => if precF u t = true then u :: mergedF (t :: ts) us else if precF t u = true then t :: mergedF ts (u :: us) else t :: mergedF ts us
termination_by ts us => ts.length + us.length
section
variable {P : Program} {w : World} {K : PySem.W.Frag} {mg : Str → Option Value} {base : Heap} {fa : Nat → Addr} {fd : Nat → FuncData}
def spPrec (K : PySem.W.Frag) : Sp := fun vs H Q _ => ∃ (t u : Th) (k : Nat), vs = [t.v, u.v] ∧ ThV K H t ∧ ThV K H u ∧ ThZ k t ∧ ThZ k u ∧ k ≤ 400000 ∧ Q (.bl (precF t u)) H
theorem ok_p_precedes (T : Txt K mg fa fd) : FnOk P w K mg base CX0 2 (fa 22) (fd 22) ["one", "other"] (spPrec K) := by
  refine T.F_p_precedes.ok sc_p_precedes (fun vs H Q E h => ?_) (fun cdv A outer s H vs Q E hr h => ?_)
  · obtain ⟨t, u, k, rfl, _⟩ := h
    rfl
  · obtain ⟨t, u, k, rfl, ⟨p, xs, x, y, e, hp, x0, x1, hf, hg⟩, ⟨r, ys, x', y', e', hr', y0, y1, hf', hg'⟩, zt, zu, hk, q⟩ := h
    rw [e, e']
    refine ⟨_, (C8.pss_cut (ps_if (pt_val (pe_call (ok_p_is_less T) (hr.mono (by decide)) (by rfl) T.g_p_is_less T.F_p_is_less.kp T.b_p_is_less .nil pass0 (pa_cons (pe_ix ix_tup (pv 0) pe_int (fun _ _ => rfl)) (pa_cons (pe_ix ix_tup (pv 1) pe_int (fun _ _ => rfl)) pa_nil)))) (pss_one (ps_ret pe_bl)) pss_nil)
      (pss_one (ps_ret (pe_and (pe_not (pe_call (ok_p_is_less T) (hr.mono (by decide)) (by rfl) T.g_p_is_less T.F_p_is_less.kp T.b_p_is_less .nil pass0 (pa_cons (pe_ix ix_tup (pv 1) pe_int (fun _ _ => rfl)) (pa_cons (pe_ix ix_tup (pv 0) pe_int (fun _ _ => rfl)) pa_nil)))) (pe_one (pe_call (ok_p_is_less T) (hr.mono (by decide)) (by rfl) T.g_p_is_less T.F_p_is_less.kp T.b_p_is_less .nil pass0 (pa_cons (pe_ix ix_tup (pv 0) pe_int (fun _ _ => rfl)) (pa_cons (pe_ix ix_tup (pv 1) pe_int (fun _ _ => rfl)) pa_nil)))))))), ?_⟩
    unfold precF at q
    refine ⟨fun σ G => G = H ∧ ltF t.f u.f = false ∧ σ = [some (.ref p), some (.ref r)], ?_, fun σ G hM => ?_⟩
    · refine ⟨_, rfl, p, _, _, _, rfl, rfl, hp, x0, _, rfl, r, _, _, _, rfl, rfl, hr', y0, _, _, _, _, k, rfl, hf, hf', zt.1, zu.1, hk, _, rfl, ?_⟩
      cases c : ltF t.f u.f with
      | true =>
        rw [c, if_pos rfl] at q
        exact iteT q
      | false => exact iteF ⟨rfl, rfl, rfl⟩
    obtain ⟨rfl, c, rfl⟩ := hM
    rw [c, if_neg Bool.false_ne_true] at q
    refine ⟨_, rfl, r, _, _, _, rfl, rfl, hr', y0, _, rfl, p, _, _, _, rfl, rfl, hp, x0, _, _, _, _, k, rfl, hf', hf, zu.1, zt.1, hk, _, rfl, _, rfl, ?_⟩
    cases c2 : ltF u.f t.f with
    | true =>
      rw [c2] at q
      exact iteF q
    | false =>
      rw [c2] at q
      exact iteT ⟨_, rfl, p, _, _, _, rfl, rfl, hp, x1, _, rfl, r, _, _, _, rfl, rfl, hr', y1, _, _, _, _, k, rfl, hg, hg', zt.2, zu.2, hk, q⟩
def spMerged (K : PySem.W.Frag) : Sp := fun vs H Q _ => ∃ (p r : Addr) (ts us : List Th) (k : Nat), vs = [.ref p, .ref r] ∧ SqL K H p (ts.map Th.v) ∧ SqL K H r (us.map Th.v) ∧ (∀ t ∈ ts, ThV K H t ∧ ThZ k t) ∧ (∀ t ∈ us, ThV K H t ∧ ThZ k t) ∧ k ≤ 400000 ∧ ts.length ≤ 400 ∧ us.length ≤ 400 ∧
  ∀ D H', Same H H' → H D = none → H' D = some (.lst ((mergedF ts us).map Th.v)) → Q (.ref D) H'
theorem ok_p_merged (T : Txt K mg fa fd) : FnOk P w K mg base CX0 3 (fa 23) (fd 23) ["ones", "others"] (spMerged K) := by
  refine T.F_p_merged.ok sc_p_merged (fun vs H Q E h => ?_) (fun cdv A outer s H vs Q E hr h => ?_)
  · obtain ⟨p, r, ts, us, k, rfl, _⟩ := h
    rfl
  · obtain ⟨p, r, ts, us, k, rfl, hp, hr', ht, hu, hk, l1, l2, q⟩ := h
    refine ⟨_, (C8.pss_cut (ps_set (i := 2) sc_p_merged.nd rfl (.inl rfl) (pe_lst pa_nil))
      (C8.pss_cut (ps_set (i := 3) sc_p_merged.nd rfl (.inl rfl) pe_int)
      (C8.pss_cut (ps_for PassesOwn.never rfl (pi_list (pv 0)) (pg_name (i := 4) sc_p_merged.nd rfl (.inl rfl)) (C8.pss_cut (ps_while PassesOwn.never (PW.pt (pw_and (pt_cmpR op_lt (pv 3) (pe_callB call_len_seq (by rfl) T.m_len PySem.boot_len (pa_cons (pv 1) pa_nil)) (nomark _)) (pw_and1 (pt_val (pe_call (ok_p_precedes T) (hr.mono (by decide)) (by rfl) T.g_p_precedes T.F_p_precedes.kp T.b_p_precedes .nil pass0 (pa_cons (pe_ix ix_list (pv 1) (pv 3) (fun _ _ => rfl)) (pa_cons (pv 4) pa_nil))))))) (C8.pss_cut (ps_expr (pe_bm PySem.F.plainAttrs_list PySem.F.slot_list_append PySem.F.type_list_append mt_append (pv 2) (pa_cons (pe_ix ix_list (pv 1) (pv 3) (fun _ _ => rfl)) pa_nil)))
      (pss_one (ps_aug (i := 3) sc_p_merged.nd rfl (.inl rfl) pe_int ip_add))))
      (C8.pss_cut (ps_if (PW.pt (pw_and (pt_cmpR op_lt (pv 3) (pe_callB call_len_seq (by rfl) T.m_len PySem.boot_len (pa_cons (pv 1) pa_nil)) (nomark _)) (pw_and1 (pt_not (pt_val (pe_call (ok_p_precedes T) (hr.mono (by decide)) (by rfl) T.g_p_precedes T.F_p_precedes.kp T.b_p_precedes .nil pass0 (pa_cons (pv 4) (pa_cons (pe_ix ix_list (pv 1) (pv 3) (fun _ _ => rfl)) pa_nil)))))))) (pss_one (ps_aug (i := 3) sc_p_merged.nd rfl (.inl rfl) pe_int ip_add)) pss_nil)
      (pss_one (ps_expr (pe_bm PySem.F.plainAttrs_list PySem.F.slot_list_append PySem.F.type_list_append mt_append (pv 2) (pa_cons (pv 4) pa_nil)))))))
      (pss_one (ps_ret (pe_op op_cat (pv 2) (pe_slice sl_list (pv 1) (po_some (pv 3)) po_none))))))), ?_⟩
    refine ⟨fun σ G => ∃ D, Same H G ∧ H D = none ∧ G D = some (.lst []) ∧ σ = [some (.ref p), some (.ref r), some (.ref D), none, none], ⟨small_line (by show 0 ≤ 1000; decide), fun D nD => ⟨D, same_upd nD, nD, upd_same, rfl⟩⟩, fun σ G hM => ?_⟩
    obtain ⟨D, s1, nD, hD, rfl⟩ := hM
    refine ⟨fun σ G2 => G2 = G ∧ σ = [some (.ref p), some (.ref r), some (.ref D), some (.int 0), none], ⟨rfl, rfl⟩, fun σ G2 hM => ?_⟩
    obtain ⟨rfl, rfl⟩ := hM
    have keep : ∀ {G G' : Hp} {o : HO}, Same H G → G' = upd G D o → Same H G' := fun s e b o' h => by
      rw [e, upd_ne (ne_of_none h nD)]
      exact s _ _ h
    have hz : ∀ {G : Hp}, Same H G → SqL K G p (ts.map Th.v) ∧ SqL K G r (us.map Th.v) := fun s => ⟨SqL_sm s hp, SqL_sm s hr'⟩
    refine ⟨fun σ G => ∃ (acc : List Th) (n : Nat) (y : Option V), Same H G ∧ G D = some (.lst (acc.map Th.v)) ∧ acc.length ≤ 400 + n ∧ n ≤ us.length ∧ mergedF ts us = acc ++ us.drop n ∧ σ = [some (.ref p), some (.ref r), some (.ref D), some (.int (n : Int)), y], ?_, fun σ G hM => ?_⟩
    · refine ⟨_, rfl, p, rfl, ⟨_, (hz s1).1⟩, for_list (K := K) (a := p) (xs := ts.map Th.v) (fun i σ G => ∃ (acc : List Th) (n : Nat) (y : Option V), Same H G ∧ G D = some (.lst (acc.map Th.v)) ∧ acc.length ≤ i + n ∧ n ≤ us.length ∧ mergedF ts us = acc ++ mergedF (ts.drop i) (us.drop n) ∧ σ = [some (.ref p), some (.ref r), some (.ref D), some (.int (n : Int)), y]) ⟨[], 0, none, s1, hD, Nat.le_refl _, Nat.zero_le _, rfl, rfl⟩ (fun i σ G _ hq => ?_) (fun i x σ G hx hq => ?_) (fun σ G hq => ?_)⟩
      · obtain ⟨_, _, _, s, _⟩ := hq
        exact (hz s).1
      · obtain ⟨acc, n, y, s, hD, la, ln, hm, rfl⟩ := hq
        rw [List.getElem?_map] at hx
        obtain ⟨t, ht0, rfl⟩ := Option.map_eq_some_iff.mp hx
        have il := (List.getElem?_eq_some_iff.mp ht0).1
        have hd : ts.drop i = t :: ts.drop (i + 1) := by
          obtain ⟨h1, h2⟩ := List.getElem?_eq_some_iff.mp ht0
          rw [List.drop_eq_getElem_cons h1, h2]
        rw [hd] at hm
        obtain ⟨tv, tz⟩ := ht t (List.mem_of_getElem? ht0)
        -- the others that stand ahead
        refine ⟨fun σ G => ∃ (acc : List Th) (n : Nat), Same H G ∧ G D = some (.lst (acc.map Th.v)) ∧ acc.length ≤ i + n ∧ n ≤ us.length ∧ mergedF ts us = acc ++ mergedF (t :: ts.drop (i + 1)) (us.drop n) ∧ (∀ u, us[n]? = some u → precF u t = false) ∧ σ = [some (.ref p), some (.ref r), some (.ref D), some (.int (n : Int)), some t.v], ?_, fun σ G hM => ?_⟩
        · refine ⟨fun m σ G => ∃ (acc : List Th) (n : Nat), m = us.length - n ∧ Same H G ∧ G D = some (.lst (acc.map Th.v)) ∧ acc.length ≤ i + n ∧ n ≤ us.length ∧ mergedF ts us = acc ++ mergedF (t :: ts.drop (i + 1)) (us.drop n) ∧ σ = [some (.ref p), some (.ref r), some (.ref D), some (.int (n : Int)), some t.v], ⟨_, acc, n, rfl, s, hD, la, ln, hm, rfl⟩, fun m σ G hW => ?_⟩
          obtain ⟨acc, n, rfl, s, hD, la, ln, hm, rfl⟩ := hW
          refine ⟨_, rfl, _, rfl, r, _, rfl, .inl (hz s).2, _, _, rfl, rfl, _, rfl, ?_⟩
          rw [List.length_map]
          by_cases hn : n < us.length
          · have hu0 : us[n]? = some us[n] := List.getElem?_eq_getElem hn
            obtain ⟨uv, uz⟩ := hu us[n] (List.getElem_mem hn)
            refine iteTq (decide_eq_true (by omega)) ⟨_, rfl, _, rfl, r, _, _, us[n].v, rfl, rfl, (hz s).2, at_nat (by rw [List.getElem?_map, hu0]; rfl), _, rfl, us[n], t, k, rfl, uv.same s, tv.same s, uz, tz, hk, _, rfl, ?_⟩
            cases c : precF us[n] t with
            | true =>
              have hu1 : us.drop n = us[n] :: us.drop (n + 1) := List.drop_eq_getElem_cons hn
              refine iteT ⟨fun σ' G' => ∃ m', m' < us.length - n ∧ ∃ (acc : List Th) (n : Nat), m' = us.length - n ∧ Same H G' ∧ G' D = some (.lst (acc.map Th.v)) ∧ acc.length ≤ i + n ∧ n ≤ us.length ∧ mergedF ts us = acc ++ mergedF (t :: ts.drop (i + 1)) (us.drop n) ∧ σ' = [some (.ref p), some (.ref r), some (.ref D), some (.int (n : Int)), some t.v], fun _ _ h => h, ?_⟩
              refine ⟨fun σ G' => Same H G' ∧ G' D = some (.lst ((acc ++ [us[n]]).map Th.v)) ∧ σ = [some (.ref p), some (.ref r), some (.ref D), some (.int (n : Int)), some t.v], ?_, fun σ G' hM => ?_⟩
              · refine ⟨_, rfl, .inl ⟨rfl, _, SqL.of hD⟩, _, rfl, _, rfl, r, _, _, us[n].v, rfl, rfl, (hz s).2, at_nat (by rw [List.getElem?_map, hu0]; rfl), D, _, us[n].v, rfl, rfl, hD, small1000 (by rw [List.length_map]; omega), keep s rfl, ?_, rfl⟩
                rw [upd_same, List.map_append]
                rfl
              · obtain ⟨s', hD', rfl⟩ := hM
                refine ⟨_, rfl, _, _, rfl, rfl, us.length - (n + 1), by omega, acc ++ [us[n]], n + 1, rfl, s', hD', by rw [List.length_append]; show acc.length + 1 ≤ _; omega, hn, ?_, rfl⟩
                rw [hm, hu1, mergedF, if_pos c, List.append_assoc]
                rfl
            | false =>
              refine iteF ⟨acc, n, s, hD, la, ln, hm, fun u h => ?_, rfl⟩
              rw [hu0] at h
              cases h
              exact c
          · refine iteFq (decide_eq_false (by omega)) (iteF ⟨acc, n, s, hD, la, ln, hm, fun u h => ?_, rfl⟩)
            exact absurd (List.getElem?_eq_some_iff.mp h).1 hn
        clear hm la ln hD
        obtain ⟨acc, n, s, hD, la, ln, hm, hnp, rfl⟩ := hM
        -- a place that is the same
        refine ⟨fun σ G => ∃ n, Same H G ∧ G D = some (.lst (acc.map Th.v)) ∧ acc.length ≤ i + n ∧ n ≤ us.length ∧ mergedF ts us = acc ++ t :: mergedF (ts.drop (i + 1)) (us.drop n) ∧ σ = [some (.ref p), some (.ref r), some (.ref D), some (.int (n : Int)), some t.v], ?_, fun σ G hM => ?_⟩
        · refine ⟨_, rfl, _, rfl, r, _, rfl, .inl (hz s).2, _, _, rfl, rfl, _, rfl, ?_⟩
          rw [List.length_map]
          by_cases hn : n < us.length
          · have hu0 : us[n]? = some us[n] := List.getElem?_eq_getElem hn
            obtain ⟨uv, uz⟩ := hu us[n] (List.getElem_mem hn)
            have hu1 : us.drop n = us[n] :: us.drop (n + 1) := List.drop_eq_getElem_cons hn
            have c := hnp _ hu0
            refine iteTq (decide_eq_true (by omega)) ⟨_, rfl, _, rfl, _, rfl, r, _, _, us[n].v, rfl, rfl, (hz s).2, at_nat (by rw [List.getElem?_map, hu0]; rfl), t, us[n], k, rfl, tv.same s, uv.same s, tz, uz, hk, _, rfl, ?_⟩
            cases c2 : precF t us[n] with
            | true =>
              refine iteF ⟨n, s, hD, la, ln, ?_, rfl⟩
              rw [hm, hu1, mergedF, if_neg (by rw [c]; exact Bool.false_ne_true), if_pos c2]
            | false =>
              refine iteT ⟨_, rfl, _, _, rfl, rfl, n + 1, s, hD, by omega, hn, ?_, rfl⟩
              rw [hm, hu1, mergedF, if_neg (by rw [c]; exact Bool.false_ne_true), if_neg (by rw [c2]; exact Bool.false_ne_true)]
          · have e : us.drop n = [] := List.drop_eq_nil_of_le (by omega)
            refine iteFq (decide_eq_false (by omega)) (iteF ⟨n, s, hD, la, ln, ?_, rfl⟩)
            rw [hm, e, mergedF]
        clear hm la ln hD hnp
        obtain ⟨n, s, hD, la, ln, hm, rfl⟩ := hM
        refine ⟨_, rfl, .inl ⟨rfl, _, SqL.of hD⟩, _, rfl, D, _, t.v, rfl, rfl, hD, small1000 (by rw [List.length_map]; omega), acc ++ [t], n, some t.v, keep s rfl, ?_, by rw [List.length_append]; show acc.length + 1 ≤ _; omega, ln, by rw [hm, List.append_assoc]; rfl, rfl⟩
        rw [upd_same, List.map_append]
        rfl
      · obtain ⟨acc, n, y, s, hD, la, ln, hm, rfl⟩ := hq
        rw [List.length_map] at la hm
        rw [List.drop_length, mergedF] at hm
        exact ⟨acc, n, y, s, hD, by omega, ln, hm, rfl⟩
    obtain ⟨acc, n, y, s, hD, la, ln, hm, rfl⟩ := hM
    refine ⟨_, rfl, _, rfl, _, rfl, _, rfl, r, _, rfl, (hz s).2, fun x nx => ?_⟩
    rw [cut_drop _ _ (by rw [List.length_map]; exact ln), ← List.map_drop]
    have s2 := same_upd (o := .lst ((us.drop n).map Th.v)) nx
    refine ⟨D, x, _, _, rfl, rfl, s2 _ _ hD, upd_same, small_line ?_, fun z nz => ?_⟩
    · rw [List.length_map, List.length_map, List.length_drop]
      omega
    · have s3 := s2.trans (same_upd (o := .lst (acc.map Th.v ++ (us.drop n).map Th.v)) nz)
      refine q z _ (s.trans s3) (none_of_same s (none_of_same s2 nz)) ?_
      rw [upd_same, hm, List.map_append]
end
def inOrderF : Nat → List Th → List Th
  | 0, ts => ts
  | d + 1, ts => if ts.length < 2 then ts else mergedF (inOrderF d (ts.take (ts.length / 2))) (inOrderF d (ts.drop (ts.length / 2)))
theorem mergedF_mem : ∀ (ts us : List Th) (x : Th), x ∈ mergedF ts us → x ∈ ts ∨ x ∈ us
  | [], us, x, h => by rw [mergedF] at h; exact .inr h
  | t :: ts, [], x, h => by
    rw [mergedF] at h
    rcases List.mem_cons.mp h with rfl | h
    · exact .inl (.head _)
    · exact (mergedF_mem ts [] x h).imp (.tail _) id
  | t :: ts, u :: us, x, h => by
    rw [mergedF] at h
    split at h
    · rcases List.mem_cons.mp h with rfl | h
      · exact .inr (.head _)
      · exact (mergedF_mem (t :: ts) us x h).imp id (.tail _)
    · split at h
      · rcases List.mem_cons.mp h with rfl | h
        · exact .inl (.head _)
        · exact (mergedF_mem ts (u :: us) x h).imp (.tail _) id
      · rcases List.mem_cons.mp h with rfl | h
        · exact .inl (.head _)
        · exact (mergedF_mem ts us x h).imp (.tail _) (.tail _)
termination_by ts us => ts.length + us.length
theorem mergedF_len : ∀ (ts us : List Th), (mergedF ts us).length ≤ ts.length + us.length
  | [], us => by rw [mergedF]; simp
  | t :: ts, [] => by
    rw [mergedF]
    have := mergedF_len ts []
    simp only [List.length_cons, List.length_nil] at this ⊢
    omega
  | t :: ts, u :: us => by
    rw [mergedF]
    split
    · have := mergedF_len (t :: ts) us
      simp only [List.length_cons] at this ⊢
      omega
    · split
      · have := mergedF_len ts (u :: us)
        simp only [List.length_cons] at this ⊢
        omega
      · have := mergedF_len ts us
        simp only [List.length_cons] at this ⊢
        omega
termination_by ts us => ts.length + us.length
theorem inOrderF_mem : ∀ (d : Nat) (ts : List Th) (x : Th), x ∈ inOrderF d ts → x ∈ ts
  | 0, _, _, h => h
  | d + 1, ts, x, h => by
    rw [inOrderF] at h
    split at h
    · exact h
    · rcases mergedF_mem _ _ x h with h | h
      · exact List.mem_of_mem_take (inOrderF_mem d _ x h)
      · exact List.mem_of_mem_drop (inOrderF_mem d _ x h)
theorem inOrderF_len : ∀ (d : Nat) (ts : List Th), (inOrderF d ts).length ≤ ts.length
  | 0, _ => Nat.le_refl _
  | d + 1, ts => by
    rw [inOrderF]
    split
    · exact Nat.le_refl _
    · have h1 := mergedF_len (inOrderF d (ts.take (ts.length / 2))) (inOrderF d (ts.drop (ts.length / 2)))
      have h2 := inOrderF_len d (ts.take (ts.length / 2))
      have h3 := inOrderF_len d (ts.drop (ts.length / 2))
      rw [List.length_take] at h2
      rw [List.length_drop] at h3
      omega
section
variable {P : Program} {w : World} {K : PySem.W.Frag} {mg : Str → Option Value} {base : Heap} {fa : Nat → Addr} {fd : Nat → FuncData}
def spOrd (K : PySem.W.Frag) (d : Nat) : Sp := fun vs H Q _ => ∃ (p : Addr) (ts : List Th) (k : Nat), vs = [.ref p] ∧ SqL K H p (ts.map Th.v) ∧ (∀ t ∈ ts, ThV K H t ∧ ThZ k t) ∧ k ≤ 400000 ∧ ts.length ≤ 2 ^ d ∧ ts.length ≤ 400 ∧ ∀ D H', Same H H' → H D = none → H' D = some (.lst ((inOrderF d ts).map Th.v)) → Q (.ref D) H'
theorem ok_p_in_order (T : Txt K mg fa fd) : ∀ d : Nat, FnOk P w K mg base CX0 (d + 4) (fa 24) (fd 24) ["things"] (spOrd K d)
  | 0 => by
    refine T.F_p_in_order.ok sc_p_in_order (fun vs H Q E h => ?_) (fun cdv A outer s H vs Q E hr h => ?_)
    · obtain ⟨p, ts, k, rfl, _⟩ := h
      rfl
    · obtain ⟨p, ts, k, rfl, hp, ht, hk, l1, l2, q⟩ := h
      refine ⟨_, (C8.pss_cut (ps_if (pt_cmpR op_lt (pe_callB call_len_seq (by rfl) T.m_len PySem.boot_len (pa_cons (pv 0) pa_nil)) pe_int (nomark _)) (pss_one (ps_ret (pe_callTy call_list_of (by rfl) T.m_list (by decide +kernel) (pa_cons (pv 0) pa_nil)))) pss_nil)
      (C8.pss_cut (ps_set (i := 1) sc_p_in_order.nd rfl (.inl rfl) (pe_op op_fdivG (pe_callB call_len_seq (by rfl) T.m_len PySem.boot_len (pa_cons (pv 0) pa_nil)) pe_int))
      (pss_one ps_never))), ?_⟩
      refine ⟨fun σ G => False, ⟨_, rfl, p, _, rfl, .inl hp, _, _, rfl, rfl, _, rfl, iteTq (decide_eq_true (by rw [List.length_map]; omega)) ?_⟩, fun σ G hM => hM.elim⟩
      exact ⟨_, rfl, p, _, rfl, .inl hp, fun D nD => q D _ (same_upd nD) nD upd_same⟩
  | d + 1 => by
    have ih := ok_p_in_order T d
    refine T.F_p_in_order.ok sc_p_in_order (fun vs H Q E h => ?_) (fun cdv A outer s H vs Q E hr h => ?_)
    · obtain ⟨p, ts, k, rfl, _⟩ := h
      rfl
    · obtain ⟨p, ts, k, rfl, hp, ht, hk, l1, l2, q⟩ := h
      refine ⟨_, (C8.pss_cut (ps_if (pt_cmpR op_lt (pe_callB call_len_seq (by rfl) T.m_len PySem.boot_len (pa_cons (pv 0) pa_nil)) pe_int (nomark _)) (pss_one (ps_ret (pe_callTy call_list_of (by rfl) T.m_list (by decide +kernel) (pa_cons (pv 0) pa_nil)))) pss_nil)
      (C8.pss_cut (ps_set (i := 1) sc_p_in_order.nd rfl (.inl rfl) (pe_op op_fdiv (pe_callB call_len_seq (by rfl) T.m_len PySem.boot_len (pa_cons (pv 0) pa_nil)) pe_int))
      (pss_one (ps_ret (pe_call (ok_p_merged T) (hr.mono (by omega)) (by rfl) T.g_p_merged T.F_p_merged.kp T.b_p_merged .nil pass0 (pa_cons (pe_call ih (hr.mono (by omega)) (by rfl) T.g_p_in_order T.F_p_in_order.kp T.b_p_in_order .nil pass0 (pa_cons (pe_slice sl_list (pv 0) po_none (po_some (pv 1))) pa_nil)) (pa_cons (pe_call ih (hr.mono (by omega)) (by rfl) T.g_p_in_order T.F_p_in_order.kp T.b_p_in_order .nil pass0 (pa_cons (pe_slice sl_list (pv 0) (po_some (pv 1)) po_none) pa_nil)) pa_nil))))))), ?_⟩
      rw [inOrderF] at q
      refine ⟨fun σ G => G = H ∧ ¬ ts.length < 2 ∧ σ = [some (.ref p), none], ?_, fun σ G hM => ?_⟩
      · refine ⟨_, rfl, p, _, rfl, .inl hp, _, _, rfl, rfl, _, rfl, ?_⟩
        rw [List.length_map]
        by_cases c : ts.length < 2
        · rw [if_pos c] at q
          exact iteTq (decide_eq_true (by omega)) ⟨_, rfl, p, _, rfl, .inl hp, fun D nD => q D _ (same_upd nD) nD upd_same⟩
        · exact iteFq (decide_eq_false (by omega)) ⟨rfl, c, rfl⟩
      obtain ⟨rfl, c, rfl⟩ := hM
      rw [if_neg c] at q
      refine ⟨fun σ G2 => G2 = G ∧ σ = [some (.ref p), some (.int ((ts.length / 2 : Nat) : Int))], ?_, fun σ G2 hM => ?_⟩
      · refine ⟨_, rfl, p, _, rfl, .inl hp, _, _, rfl, rfl, ⟨by decide, by decide⟩, rfl, ?_⟩
        rw [List.length_map]
        rfl
      obtain ⟨rfl, rfl⟩ := hM
      have h2 : 2 ^ (d + 1) = 2 * 2 ^ d := by rw [Nat.pow_succ]; omega
      refine ⟨_, rfl, _, rfl, _, rfl, p, _, rfl, hp, fun x nx => ?_⟩
      rw [cut_take _ _ (by rw [List.length_map]; omega), ← List.map_take]
      have s1 := same_upd (o := .lst ((ts.take (ts.length / 2)).map Th.v)) nx
      refine ⟨x, ts.take (ts.length / 2), k, rfl, SqL.of upd_same, fun t m => ⟨(ht t (List.mem_of_mem_take m)).1.same s1, (ht t (List.mem_of_mem_take m)).2⟩, hk, by rw [List.length_take]; omega, by rw [List.length_take]; omega, fun D1 H1 s2 n1 h1 => ?_⟩
      have s12 := s1.trans s2
      refine ⟨_, rfl, _, rfl, _, rfl, p, _, rfl, SqL_sm s12 hp, fun y ny => ?_⟩
      rw [cut_drop _ _ (by rw [List.length_map]; omega), ← List.map_drop]
      have s3 := same_upd (o := .lst ((ts.drop (ts.length / 2)).map Th.v)) ny
      have s13 := s12.trans s3
      refine ⟨y, ts.drop (ts.length / 2), k, rfl, SqL.of upd_same, fun t m => ⟨(ht t (List.mem_of_mem_drop m)).1.same s13, (ht t (List.mem_of_mem_drop m)).2⟩, hk, by rw [List.length_drop]; omega, by rw [List.length_drop]; omega, fun D2 H2 s4 n2 h2' => ?_⟩
      have s14 := s13.trans s4
      have i1 := inOrderF_len d (ts.take (ts.length / 2))
      have i2 := inOrderF_len d (ts.drop (ts.length / 2))
      rw [List.length_take] at i1
      rw [List.length_drop] at i2
      exact ⟨D1, D2, _, _, k, rfl, SqL.of ((s3.trans s4) _ _ h1), SqL.of h2', fun t m => ⟨(ht t (List.mem_of_mem_take (inOrderF_mem d _ t m))).1.same s14, (ht t (List.mem_of_mem_take (inOrderF_mem d _ t m))).2⟩, fun t m => ⟨(ht t (List.mem_of_mem_drop (inOrderF_mem d _ t m))).1.same s14, (ht t (List.mem_of_mem_drop (inOrderF_mem d _ t m))).2⟩, hk, by omega, by omega, fun D H' s5 nD hD => q D H' (s14.trans s5) (none_of_same s14 nD) hD⟩
end
def SqX (K : PySem.W.Frag) (H : Hp) (a : Addr) (xs : List V) : Prop := SqL K H a xs ∨ SqT K H a xs
theorem SqX.sm {K : PySem.W.Frag} {H H' : Hp} {p : Addr} {xs : List V} (s : Same H H') (h : SqX K H p xs) : SqX K H' p xs := h.imp (SqL_sm s) (SqT_sm s)
def iSeq (K : PySem.W.Frag) (tl : TE) : TI := fun σ H R => tl σ H fun x H1 => ∃ a, x = .ref a ∧ (((∃ xs, SqL K H1 a xs) ∧ R (Itl K a) H1) ∨ ((∃ xs, SqT K H1 a xs) ∧ R (Itt K a) H1))
theorem pi_seqX {X : Cx} {tg l : Expr} {tl : TE} (hl : PE X l tl) : PI X tg l (iSeq X.K tl) := by
  refine ⟨fun pins s σ H R I h => ?_⟩
  refine thn (hl.run pins s σ H _ I h) fun v s1 ⟨x, H1, I1, r1, q1⟩ => ?_
  obtain ⟨a, e, q⟩ := q1
  subst e
  cases r1
  rcases q with ⟨⟨xs, hq⟩, q⟩ | ⟨⟨xs, hq⟩, q⟩
  · obtain ⟨its, rv, p, hz⟩ := I1.list hq
    refine wpAny_pyIter_list p.isList ?_
    refine ⟨s1.heap.objs.size, [s1.heap.objs.size], _, _, H1, rfl, I1.kept (t' := s1.toks) fun b o e => Heap.get?_push_of_some _ e, turn_list a _, ⟨_, Heap.get?_push_size _ rfl, rfl, rfl⟩, fun b hb => ?_, q⟩
    have e : b = s1.heap.objs.size := by simpa using hb
    subst e
    exact I1.fpOk (Nat.le_refl _) (I1.hok.fresh (Nat.le_refl _))
  · obtain ⟨its, rv, p, hz⟩ := I1.tuple hq
    refine wpAny_pyIter_tuple (show s1.heap.IsTuple a its.toArray from p) ?_
    refine ⟨s1.heap.objs.size, [s1.heap.objs.size], _, _, H1, rfl, I1.kept (t' := s1.toks) fun b o e => Heap.get?_push_of_some _ e, turn_tuple a _, ⟨_, Heap.get?_push_size _ rfl, rfl, rfl⟩, fun b hb => ?_, q⟩
    have e : b = s1.heap.objs.size := by simpa using hb
    subst e
    exact I1.fpOk (Nat.le_refl _) (I1.hok.fresh (Nat.le_refl _))
theorem for_seqX {K : PySem.W.Frag} {a : Addr} {xs : List V} {g : TG} {tb : TS} {D : Ends} {σ : L2.St} {H0 H : Hp} (hx : SqX K H0 a xs) (Pv : Nat → L2.St → Hp → Prop) (h0 : Pv 0 σ H) (hl : ∀ i σ H', Pv i σ H' → Same H0 H')
    (hs : ∀ i x σ H, xs[i]? = some x → Pv i σ H → g x σ H fun σ2 H2 => tb { D with nx := Pv (i + 1), ct := Pv (i + 1), bk := D.nx } σ2 H2) (hd : ∀ σ H, Pv xs.length σ H → D.nx σ H) :
    ((∃ ys, SqL K H a ys) ∧ ∃ W : Nat → Nat → L2.St → Hp → Prop, (∃ m, W 0 m σ H) ∧ ∀ i m σ H, W i m σ H →
      ((Itl K a).stop i H ∧ D.nx σ H) ∨ ((Itl K a).go i H ∧ ∃ N : L2.St → Hp → Prop, (∀ σ' H', N σ' H' → ∃ m', m' < m ∧ W (i + 1) m' σ' H') ∧ ∀ x H', (Itl K a).yld i H x H' → g x σ H' fun σ2 H2 => tb { D with nx := N, ct := N, bk := D.nx } σ2 H2)) ∨
    ((∃ ys, SqT K H a ys) ∧ ∃ W : Nat → Nat → L2.St → Hp → Prop, (∃ m, W 0 m σ H) ∧ ∀ i m σ H, W i m σ H →
      ((Itt K a).stop i H ∧ D.nx σ H) ∨ ((Itt K a).go i H ∧ ∃ N : L2.St → Hp → Prop, (∀ σ' H', N σ' H' → ∃ m', m' < m ∧ W (i + 1) m' σ' H') ∧ ∀ x H', (Itt K a).yld i H x H' → g x σ H' fun σ2 H2 => tb { D with nx := N, ct := N, bk := D.nx } σ2 H2)) := by
  rcases hx with l | t
  · exact .inl ⟨⟨_, SqL_sm (hl 0 σ H h0) l⟩, for_list Pv h0 (fun i σ H' _ p => SqL_sm (hl i σ H' p) l) hs hd⟩
  · exact .inr ⟨⟨_, SqT_sm (hl 0 σ H h0) t⟩, for_tup Pv h0 (fun i σ H' _ p => SqT_sm (hl i σ H' p) t) hs hd⟩
theorem lc_keysT {d : Addr} {od : Obj} {kvs : List (List Key × V)} {g : TG} {tt : L2.TT} {te : TE} {vs : List Nat} {σ : L2.St} {H1 : Hp} {D : Addr} {Qd : Hp → Prop} (Pv : Nat → Hp → Prop) (h0 : Pv 0 (upd H1 D (.lst []))) (hf : ∀ i H, Pv i H → H d = some (.frz od (.dT kvs)))
    (hs : ∀ i k v q H, kvs[i]? = some (k, v) → H q = some (.tup (k.map kV)) → Pv i H → g (V.ref q) (wipe σ vs) H fun σ2 H2 => wipe σ2 vs = wipe σ vs ∧ tt σ2 H2 fun b H3 =>
      if b = true then te σ2 H3 fun y H4 => ∃ acc, H4 D = some (.lst acc) ∧ acc.length < sizeLine ∧ Pv (i + 1) (upd H4 D (.lst (acc ++ [y]))) else Pv (i + 1) H3) (hd : ∀ H, Pv kvs.length H → Qd H) :
    ∃ W : Nat → Nat → Hp → Prop, (∃ m, W 0 m (upd H1 D (.lst []))) ∧ ∀ i m H, W i m H →
      ((Itkt d od kvs).stop i H ∧ Qd H) ∨ ((Itkt d od kvs).go i H ∧ ∃ Nx : Hp → Prop, (∀ H', Nx H' → ∃ m', m' < m ∧ W (i + 1) m' H') ∧ ∀ y H', (Itkt d od kvs).yld i H y H' → g y (wipe σ vs) H' fun σ2 H2 => wipe σ2 vs = wipe σ vs ∧ tt σ2 H2 fun b H3 =>
        if b = true then te σ2 H3 fun y H4 => ∃ acc, H4 D = some (.lst acc) ∧ acc.length < sizeLine ∧ Nx (upd H4 D (.lst (acc ++ [y]))) else Nx H3) := by
  refine ⟨fun i m H => m = kvs.length - i ∧ i ≤ kvs.length ∧ Pv i H, ⟨_, rfl, Nat.zero_le _, h0⟩, ?_⟩
  rintro i m H ⟨rfl, hi, p⟩
  by_cases hlt : i < kvs.length
  · refine .inr ⟨⟨hf _ _ p, hlt⟩, Pv (i + 1), fun H' p' => ⟨kvs.length - (i + 1), by omega, rfl, hlt, p'⟩, fun y H' q => ?_⟩
    obtain ⟨e, k, v, q, hc, ev, hq⟩ := q
    subst e ev
    exact hs i k v q _ hc hq p
  · have e : i = kvs.length := by omega
    subst e
    exact .inl ⟨⟨hf _ _ p, Nat.le_refl _⟩, hd _ p⟩
/-! ### rows with the values that stand for them -/
abbrev VR : Type := V × Rw
def Rs (K : PySem.W.Frag) (H : Hp) (T : List VR) : Prop := ∀ t ∈ T, RwV K H t.1 t.2
def Cs (K : PySem.W.Frag) (H : Hp) (T : List VR) : Prop := ∀ t ∈ T, FqV K H t.1 t.2.c
theorem Rs.same {K : PySem.W.Frag} {H H' : Hp} {T : List VR} (h : Rs K H T) (s : Same H H') : Rs K H' T := fun t m => (h t m).same s
theorem Cs.same {K : PySem.W.Frag} {H H' : Hp} {T : List VR} (h : Cs K H T) (s : Same H H') : Cs K H' T := fun t m => (h t m).same s
def at_ (a b : Int) (r : Rw) : Bool := decide (r.a = a ∧ r.b = b)
def getB (B : List Rw) (a b : Int) : Option Fq := (B.find? (at_ a b)).map Rw.c
def putB (B : List Rw) (a b : Int) (c : Fq) : List Rw := if B.any (at_ a b) = true then B.map (fun r => if at_ a b r = true then ⟨r.a, r.b, c⟩ else r) else B ++ [⟨a, b, c⟩]
def kvT (T : List VR) : List (List Key × V) := T.map fun t => ([.inl t.2.a, .inl t.2.b], t.1)
def putT (T : List VR) (a b : Int) (c : Fq) (v : V) : List VR := if T.any (fun t => at_ a b t.2) = true then T.map (fun t => if at_ a b t.2 = true then (v, ⟨t.2.a, t.2.b, c⟩) else t) else T ++ [(v, ⟨a, b, c⟩)]
theorem key_at (a b : Int) (t : VR) : decide ([Sum.inl t.2.a, Sum.inl t.2.b] = ([.inl a, .inl b] : List Key)) = at_ a b t.2 := by
  unfold at_
  by_cases h : t.2.a = a ∧ t.2.b = b
  · rw [decide_eq_true h, decide_eq_true]
    rw [h.1, h.2]
  · rw [decide_eq_false h, decide_eq_false]
    intro e
    injection e with e1 e2
    injection e2 with e2 e3
    exact h ⟨Sum.inl.inj e1, Sum.inl.inj e2⟩
theorem kvT_len (T : List VR) : (kvT T).length = T.length := List.length_map ..
theorem valT {K : PySem.W.Frag} {H : Hp} (a b : Int) : ∀ {T : List VR}, Cs K H T → (valV (kvT T) [.inl a, .inl b] = none ∧ getB (T.map Prod.snd) a b = none) ∨ ∃ v f, valV (kvT T) [.inl a, .inl b] = some v ∧ getB (T.map Prod.snd) a b = some f ∧ FqV K H v f ∧ ∃ t ∈ T, t.2.c = f
  | [], _ => .inl ⟨rfl, rfl⟩
  | t :: T, h => by
    have e1 : valV (kvT (t :: T)) [.inl a, .inl b] = if at_ a b t.2 = true then some t.1 else valV (kvT T) [.inl a, .inl b] := by
      unfold valV kvT
      rw [List.map_cons, List.find?_cons]
      dsimp only
      rw [key_at]
      cases at_ a b t.2 <;> rfl
    have e2 : getB ((t :: T).map Prod.snd) a b = if at_ a b t.2 = true then some t.2.c else getB (T.map Prod.snd) a b := by
      unfold getB
      rw [List.map_cons, List.find?_cons]
      cases at_ a b t.2 <;> rfl
    rw [e1, e2]
    by_cases c : at_ a b t.2 = true
    · rw [if_pos c, if_pos c]
      exact .inr ⟨_, _, rfl, rfl, h t (.head _), t, .head _, rfl⟩
    · rw [if_neg c, if_neg c]
      rcases valT (T := T) a b (fun u m => h u (.tail _ m)) with q | ⟨v, f, q1, q2, q3, u, m, q4⟩
      · exact .inl q
      · exact .inr ⟨v, f, q1, q2, q3, u, .tail _ m, q4⟩
theorem putK_T (T : List VR) (a b : Int) (c : Fq) (v : V) : putK (kvT T) [.inl a, .inl b] v = kvT (putT T a b c v) := by
  unfold putK putT kvT
  rw [List.any_map]
  have e : ((fun kv => decide (kv.fst = [Sum.inl a, Sum.inl b])) ∘ fun (t : VR) => (([.inl t.2.a, .inl t.2.b], t.1) : List Key × V)) = fun t => at_ a b t.2 := funext fun t => key_at a b t
  rw [e]
  by_cases h : T.any (fun t => at_ a b t.2) = true
  · rw [if_pos h, if_pos h, List.map_map, List.map_map]
    refine List.map_congr_left fun t _ => ?_
    have k := key_at a b t
    show (if _ then _ else _) = _
    by_cases c1 : at_ a b t.2 = true
    · rw [c1] at k
      rw [if_pos (of_decide_eq_true k)]
      show _ = _
      dsimp only [Function.comp]
      rw [if_pos c1]
    · rw [Bool.not_eq_true] at c1
      rw [c1] at k
      rw [if_neg (of_decide_eq_false k)]
      dsimp only [Function.comp]
      rw [if_neg (by rw [c1]; exact Bool.false_ne_true)]
  · rw [if_neg h, if_neg h, List.map_append]
    rfl
theorem putT_snd (T : List VR) (a b : Int) (c : Fq) (v : V) : (putT T a b c v).map Prod.snd = putB (T.map Prod.snd) a b c := by
  unfold putT putB
  rw [List.any_map]
  have e : (at_ a b ∘ Prod.snd : VR → Bool) = fun t => at_ a b t.2 := rfl
  rw [e]
  by_cases h : T.any (fun t => at_ a b t.2) = true
  · rw [if_pos h, if_pos h, List.map_map, List.map_map]
    refine List.map_congr_left fun t _ => ?_
    dsimp only [Function.comp]
    by_cases c1 : at_ a b t.2 = true
    · rw [if_pos c1, if_pos c1]
    · rw [if_neg c1, if_neg c1]
  · rw [if_neg h, if_neg h, List.map_append]
    rfl
theorem putT_mem {T : List VR} {a b : Int} {c : Fq} {v : V} {t : VR} (m : t ∈ putT T a b c v) : t ∈ T ∨ (t.1 = v ∧ t.2.c = c ∧ (t.2.a = a ∧ t.2.b = b)) := by
  unfold putT at m
  by_cases h : T.any (fun t => at_ a b t.2) = true
  · rw [if_pos h] at m
    obtain ⟨u, mu, e⟩ := List.mem_map.mp m
    by_cases c1 : at_ a b u.2 = true
    · rw [if_pos c1] at e
      rw [← e]
      exact .inr ⟨rfl, rfl, of_decide_eq_true c1⟩
    · rw [if_neg c1] at e
      rw [← e]
      exact .inl mu
  · rw [if_neg h] at m
    rcases List.mem_append.mp m with m | m
    · exact .inl m
    · rw [List.mem_singleton.mp m]
      exact .inr ⟨rfl, rfl, rfl, rfl⟩
theorem putT_len (T : List VR) (a b : Int) (c : Fq) (v : V) : (putT T a b c v).length ≤ T.length + 1 := by
  unfold putT
  split
  · rw [List.length_map]; omega
  · rw [List.length_append]; exact Nat.le_refl _
/-- no two of them have one way -/
def DisjB (B : List Rw) : Prop := B.Pairwise fun r s => ¬ (r.a = s.a ∧ r.b = s.b)
theorem putB_disj {B : List Rw} (h : DisjB B) (a b : Int) (c : Fq) : DisjB (putB B a b c) := by
  unfold putB
  by_cases e : B.any (at_ a b) = true
  · rw [if_pos e]
    refine List.pairwise_map.mpr (h.imp fun {r s} n => ?_)
    have k : ∀ r : Rw, (if at_ a b r = true then (⟨r.a, r.b, c⟩ : Rw) else r).a = r.a ∧ (if at_ a b r = true then (⟨r.a, r.b, c⟩ : Rw) else r).b = r.b := fun r => by split <;> exact ⟨rfl, rfl⟩
    rw [(k r).1, (k r).2, (k s).1, (k s).2]
    exact n
  · rw [if_neg e]
    refine List.pairwise_append.mpr ⟨h, List.pairwise_singleton _ _, fun r m s ms => ?_⟩
    rw [List.mem_singleton.mp ms]
    intro q
    exact e (List.any_eq_true.mpr ⟨r, m, decide_eq_true q⟩)
theorem find_disj : ∀ {B : List Rw}, DisjB B → ∀ {r : Rw}, r ∈ B → getB B r.a r.b = some r.c
  | s :: B, h, r, m => by
    unfold getB
    rw [List.find?_cons]
    rcases List.mem_cons.mp m with rfl | m
    · rw [show at_ r.a r.b r = true from decide_eq_true ⟨rfl, rfl⟩]
      rfl
    · have n := (List.pairwise_cons.mp h).1 r m
      rw [show at_ r.a r.b s = false from decide_eq_false n]
      exact find_disj (List.pairwise_cons.mp h).2 m
/-! ### the tightest rows of each way -/
def wayA (r : Rw) : Int := r.a / (Int.gcd r.a r.b : Int)
def wayB (r : Rw) : Int := r.b / (Int.gcd r.a r.b : Int)
def tightC (r : Rw) : Fq := lowR (r.c.1, r.c.2 * (Int.gcd r.a r.b : Int))
def tight1 (B : List Rw) (r : Rw) : List Rw := putB B (wayA r) (wayB r) ((pickO false (getB B (wayA r) (wayB r)) (some (tightC r))).getD (0, 1))
def tightF (rs : List Rw) : List Rw := rs.foldl tight1 []
/-- what is given: rows with small numbers, a direction and a denominator above 0 -/
structure RwOk (k : Nat) (r : Rw) : Prop extends RwZ k r where
  w : ¬ (r.a = 0 ∧ r.b = 0)
  d : 0 < r.c.2
theorem rgcd_pos {k : Nat} {r : Rw} (h : RwOk k r) : 0 < Int.gcd r.a r.b := by
  rcases Nat.eq_zero_or_pos (Int.gcd r.a r.b) with e | e
  · exact absurd (Int.gcd_eq_zero_iff.mp e) h.w
  · exact e
theorem gcdZ {k : Nat} {r : Rw} (h : RwOk k r) : Lz k (Int.gcd r.a r.b : Int) := by
  unfold Lz
  rw [Int.natAbs_natCast]
  by_cases h0 : r.a = 0
  · have : r.b ≠ 0 := fun e => h.w ⟨h0, e⟩
    exact Nat.lt_of_le_of_lt (Nat.le_of_dvd (Int.natAbs_pos.mpr this) (Nat.gcd_dvd_right _ _)) h.b
  · exact Nat.lt_of_le_of_lt (Nat.le_of_dvd (Int.natAbs_pos.mpr h0) (Nat.gcd_dvd_left _ _)) h.a
theorem divZ {k : Nat} {x : Int} {n : Nat} (h : Lz k x) (d : (n : Int) ∣ x) (hn : 0 < n) : Lz k (x / (n : Int)) := by
  unfold Lz at *
  rw [Int.natAbs_ediv_of_dvd d, Int.natAbs_natCast]
  exact Nat.lt_of_le_of_lt (Nat.div_le_self _ _) h
theorem tightZ {k : Nat} {r : Rw} (h : RwOk k r) : FqZ (2 * k) (tightC r) := by
  have g := rgcd_pos h
  have p : 0 < r.c.2 * (Int.gcd r.a r.b : Int) := Int.mul_pos h.d (by omega)
  refine lowRZ ⟨h.c.1.mono (by omega), ?_⟩ (by show r.c.2 * _ ≠ 0; omega)
  have := h.c.2.mul (gcdZ h)
  rwa [← Nat.two_mul] at this
theorem lowR_pos {f : Fq} (h : 0 < f.2) : 0 < (lowR f).2 := lowD_pos (by omega)
section
variable {P : Program} {w : World} {K : PySem.W.Frag} {mg : Str → Option Value} {base : Heap} {fa : Nat → Addr} {fd : Nat → FuncData}
/-! ### calls of defs with a star -/
section
variable {X : Cx} {CX : CXT} {k : Nat} {f : Addr} {sp : Sp} {E : XK} {x : Str} {p pos : Pos} {e : Expr} {es : List Expr} {t : TA}
theorem pe_callR (F : FnR X.prog X.w X.K X.mg X.base CX k f sp) (hr : Room k X.A) (hg : Gl X x) (hm : X.mg x = some (.ref f)) (hk : PySem.W.keepIn X.K (.ref f) = true) (hx : Passes CX X E) (ha : PA X (e :: es) t)
    (hd : (x == ("__debug__" : Str)) = false := by decide) (he : starEach (e :: es) X.env = (false, eval e X.env) :: starEach es X.env := by rfl) (hpl : (backTo pos (starEach es X.env)).any (·.1) = false := by rfl) :
    PE X (.Call (.Name x p) (e :: es) [] pos) (fun σ H Q => t σ H fun vs H1 => sp vs H1 Q E) :=
  ⟨fun pins s σ H Q I h => wpAny_Call_Name_kw (ld_glob I hg hm
    (PySem.W.callWith_K (h₀ := X.base) I.ok.mod.kin hk (thn (ha.run pos pins s σ H _ I h) fun us s1 ⟨vs, H1, I1, r, q⟩ => ⟨I1.kIn, wpAny_call (run_fnR F hr hx I1 r q)⟩) he hpl) hd)⟩
theorem pe_callR0 (F : FnR X.prog X.w X.K X.mg X.base CX k f sp) (hr : Room k X.A) (hg : Gl X x) (hm : X.mg x = some (.ref f)) (hk : PySem.W.keepIn X.K (.ref f) = true) (hx : Passes CX X E) (hd : (x == ("__debug__" : Str)) = false := by decide) :
    PE X (.Call (.Name x p) [] [] pos) (fun σ H Q => sp [] H Q E) :=
  ⟨fun pins s σ H Q I h => wpAny_Call_Name_kw (ld_glob I hg hm (PySem.W.callWith_K0 I.kIn hk (wpAny_call (run_fnR F hr hx I .nil h))) hd)⟩
end
end
theorem pick_some (top : Bool) (o : Option Fq) (x : Fq) : ∃ f, pickO top o (some x) = some f := by
  cases o with
  | none => exact ⟨_, rfl⟩
  | some g =>
    unfold pickO
    dsimp only
    repeat' split
    all_goals exact ⟨_, rfl⟩
/-- no tuple stands at D -/
def NoT (H : Hp) (D : Addr) : Prop := ∀ xs, H D ≠ some (.tup xs) ∧ ∀ q, H D ≠ some (.frz q (.tup xs))
theorem NoT.d {H : Hp} {D : Addr} {kvs : List (List Key × V)} (h : H D = some (.dT kvs)) : NoT H D := fun xs => ⟨(fun e => by rw [h] at e; cases e), (fun q e => by rw [h] at e; cases e)⟩
theorem NoT.fd {H : Hp} {D : Addr} {od : Obj} {kvs : List (List Key × V)} (h : H D = some (.frz od (.dT kvs))) : NoT H D := fun xs => ⟨(fun e => by rw [h] at e; cases e), (fun q e => by rw [h] at e; cases e)⟩
theorem NoT.l {H : Hp} {D : Addr} {us : List V} (h : H D = some (.lst us)) : NoT H D := fun xs => ⟨(fun e => by rw [h] at e; cases e), (fun q e => by rw [h] at e; cases e)⟩
/-- all but what stands at D stays -/
def ExF (D : Addr) (H G : Hp) : Prop := ∀ c o, H c = some o → c ≠ D → G c = some o
theorem ExF.same {D : Addr} {H G G' : Hp} (h : ExF D H G) (s : Same G G') : ExF D H G' := fun c o e n => s _ _ (h c o e n)
theorem ExF.of {D : Addr} {H G : Hp} (s : Same H G) : ExF D H G := fun c o e _ => s c o e
theorem ExF.upd {D L : Addr} {o : HO} {H G : Hp} (h : ExF D H G) (n : H L = none) : ExF D H (upd G L o) := fun c o e nd => by
  rw [upd_ne (ne_of_none e n)]
  exact h c o e nd
theorem ExF.at (D : Addr) (o : HO) (H : Hp) : ExF D H (L2.upd H D o) := fun c u e n => by rw [upd_ne n]; exact e
theorem tightF_disj (rs : List Rw) : DisjB (tightF rs) := by
  have k : ∀ (rs B : List Rw), DisjB B → DisjB (rs.foldl tight1 B) := fun rs => by
    induction rs with
    | nil => exact fun B h => h
    | cons r rs ih => exact fun B h => ih _ (putB_disj h _ _ _)
  exact k rs [] List.Pairwise.nil
theorem SqT_ex {K : PySem.W.Frag} {H G : Hp} {D p : Addr} {xs : List V} (x : ExF D H G) (n : NoT H D) (h : SqT K H p xs) : SqT K G p xs := by
  rcases h with (e | ⟨q, e⟩) | e
  · exact .inl (.inl (x _ _ e fun z => (n xs).1 (z ▸ e)))
  · exact .inl (.inr ⟨q, x _ _ e fun z => (n xs).2 q (z ▸ e)⟩)
  · exact .inr e
theorem FqV.ex {K : PySem.W.Frag} {H G : Hp} {D : Addr} {v : V} {f : Fq} (x : ExF D H G) (n : NoT H D) (h : FqV K H v f) : FqV K G v f := by
  obtain ⟨p, e, q⟩ := h
  exact ⟨p, e, SqT_ex x n q⟩
theorem RwV.ex {K : PySem.W.Frag} {H G : Hp} {D : Addr} {v : V} {r : Rw} (x : ExF D H G) (n : NoT H D) (h : RwV K H v r) : RwV K G v r := by
  obtain ⟨p, c, e, q, f⟩ := h
  exact ⟨p, c, e, SqT_ex x n q, f.ex x n⟩
theorem FqV.upd {K : PySem.W.Frag} {H : Hp} {D : Addr} {v : V} {f : Fq} {kvs : List (List Key × V)} {o : HO} (hD : H D = some (.dT kvs)) (h : FqV K H v f) : FqV K (L2.upd H D o) v f := h.ex (ExF.at D o H) (NoT.d hD)
section
variable {P : Program} {w : World} {K : PySem.W.Frag} {mg : Str → Option Value} {base : Heap} {fa : Nat → Addr} {fd : Nat → FuncData}
def spTight (K : PySem.W.Frag) : Sp := fun vs H Q _ => ∃ (p : Addr) (T : List VR) (k : Nat), vs = [.ref p] ∧ SqX K H p (T.map Prod.fst) ∧ Rs K H T ∧ (∀ t ∈ T, RwOk k t.2) ∧ 1 ≤ k ∧ k ≤ 2000 ∧ T.length ≤ 400 ∧
  ∀ D H' T', Same H H' → H D = none → H' D = some (.lst (T'.map Prod.fst)) → Rs K H' T' → T'.map Prod.snd = tightF (T.map Prod.snd) → Q (.ref D) H'
theorem ok_p_tightest (T : Txt K mg fa fd) : FnOk P w K mg base CX0 5 (fa 31) (fd 31) ["rows"] (spTight K) := by
  refine T.F_p_tightest.ok sc_p_tightest (fun vs H Q E h => ?_) (fun cdv A outer s H vs Q E hr h => ?_)
  · obtain ⟨p, ts, k, rfl, _⟩ := h
    rfl
  · obtain ⟨p, ts, k, rfl, hp, hts, hok, hk1, hk, hl, q⟩ := h
    refine ⟨_, (C8.pss_cut (ps_set (i := 1) sc_p_tightest.nd rfl (.inr rfl) pe_dnewT)
      (C8.pss_cut (ps_for PassesOwn.never rfl (pi_seqX (pv 0)) (pg_tup (by rfl) (pgs_cons (pg_name (i := 2) sc_p_tightest.nd rfl (.inl rfl)) (pgs_cons (pg_name (i := 3) sc_p_tightest.nd rfl (.inl rfl)) (pgs_cons (pg_name (i := 4) sc_p_tightest.nd rfl (.inl rfl)) pgs_nil)))) (C8.pss_cut (ps_set (i := 5) sc_p_tightest.nd rfl (.inl rfl) (pe_call (ok_p_common_divisor T) (hr.mono (by decide)) (by rfl) T.g_p_common_divisor T.F_p_common_divisor.kp T.b_p_common_divisor .nil pass0 (pa_cons (pv 2) (pa_cons (pv 3) pa_nil))))
      (C8.pss_cut (ps_set (i := 6) sc_p_tightest.nd rfl (.inl rfl) (pe_tup (pa_cons (pe_op op_fdivG (pv 2) (pv 5)) (pa_cons (pe_op op_fdivG (pv 3) (pv 5)) pa_nil))))
      (pss_one (ps_dput (Nat.lt_of_le_of_lt (Nat.add_le_add_left (by decide) _) hr.units) (pv 1) (pv 6) (pe_callR (ok_p_least T) (hr.mono (by decide)) (by rfl) T.g_p_least T.F_p_least.kp pass0 (pa_cons (pe_dget1 (Nat.lt_of_le_of_lt (Nat.add_le_add_left (by decide) _) hr.units) (pv 1) (pv 6) ⟨by rfl, by rfl, by rfl, by rfl⟩) (pa_cons (pe_call (ok_p_ratio0 T) (hr.mono (by decide)) (by rfl) T.g_p_ratio T.F_p_ratio.kp T.b_p_ratio .nil pass0 (pa_cons (pe_ix ix_tup (pv 4) pe_int (fun _ _ => rfl)) (pa_cons (pe_op op_mulW (pe_ix ix_tup (pv 4) pe_int (fun _ _ => rfl)) (pv 5)) pa_nil))) pa_nil))) (by rfl))))))
      (pss_one (ps_ret (pe_lock (pe_lc (own := [("a", 2), ("b", 3)]) (g := gTup K 2 (gCons (gName 2) (gCons (gName 3) gNil))) (tt := tYes) rfl sc_p_tightest.nd (pi_keys (pv 1)) (blkOk_by (own := [("a", 2), ("b", 3)]) (N := ["rows", "bounds", "a", "b", "c", "shared", "way"]) (sc := defScope s_p_tightest) (by decide +kernel)) (fun _ _ _ _ _ => pg_tup rfl (pgs_cons (pg_name (i := 2) sc_p_tightest.nd rfl (Or.inl rfl)) (pgs_cons (pg_name (i := 3) sc_p_tightest.nd rfl (Or.inl rfl)) pgs_nil))) (fun _ _ _ _ _ => pts_nil) (fun _ _ _ _ _ => (pe_tup (pa_cons (pv 2) (pa_cons (pv 3) (pa_cons (pe_dget (Nat.lt_of_le_of_lt (Nat.add_le_add_left (by decide) _) hr.units) (pv 1) (pe_tup (pa_cons (pv 2) (pa_cons (pv 3) pa_nil))) (fun _ _ => rfl)) pa_nil))))))))))), ?_⟩
    refine ⟨fun σ G => ∃ D, Same H G ∧ H D = none ∧ G D = some (.dT []) ∧ σ = [some (.ref p), some (.ref D), none, none, none, none, none], fun D nD => ⟨D, same_upd nD, nD, upd_same, rfl⟩, fun σ G hM => ?_⟩
    obtain ⟨D, s1, nD, hD, rfl⟩ := hM
    have keep : ∀ {G G' : Hp} {o : HO}, Same H G → G' = upd G D o → Same H G' := fun s e b o' h => by
      rw [e, upd_ne (ne_of_none h nD)]
      exact s _ _ h
    refine ⟨fun σ G => ∃ (B : List VR) (x1 x2 x3 x4 x5 : Option V), Same H G ∧ G D = some (.dT (kvT B)) ∧ Cs K G B ∧ B.map Prod.snd = tightF (ts.map Prod.snd) ∧ B.length ≤ 400 ∧ σ = [some (.ref p), some (.ref D), x1, x2, x3, x4, x5], ?_, fun σ G hM => ?_⟩
    · refine ⟨_, rfl, p, rfl, for_seqX (K := K) (a := p) (H0 := H) (xs := ts.map Prod.fst) hp (fun i σ G => ∃ (B : List VR) (x1 x2 x3 x4 x5 : Option V), Same H G ∧ G D = some (.dT (kvT B)) ∧ Cs K G B ∧ B.map Prod.snd = tightF ((ts.take i).map Prod.snd) ∧ B.length ≤ i ∧ (∀ t ∈ B, FqZ (2 * k) t.2.c) ∧ σ = [some (.ref p), some (.ref D), x1, x2, x3, x4, x5]) ?_ ?_ ?_ ?_⟩
      · exact ⟨[], none, none, none, none, none, s1, hD, (fun _ m => by cases m), rfl, Nat.le_refl _, (fun _ m => by cases m), rfl⟩
      · rintro i σ G ⟨_, _, _, _, _, _, s, _⟩
        exact s
      · rintro i x σ G hx ⟨B, x1, x2, x3, x4, x5, s, hD, hB, eB, lB, zB, rfl⟩
        rw [List.getElem?_map] at hx
        obtain ⟨t, ht0, rfl⟩ := Option.map_eq_some_iff.mp hx
        obtain ⟨pt, ct, et, hpt, pc, ect, hct⟩ := (hts t (List.mem_of_getElem? ht0)).same s
        have ok := hok t (List.mem_of_getElem? ht0)
        have il := (List.getElem?_eq_some_iff.mp ht0).1
        have eT : tightF ((ts.take (i + 1)).map Prod.snd) = tight1 (B.map Prod.snd) t.2 := by
          rw [List.take_add_one, ht0, List.map_append, eB]
          unfold tightF
          rw [List.foldl_append]
          rfl
        rw [et]
        refine ⟨pt, _, rfl, hpt, rfl, _, _, rfl, _, _, rfl, _, _, rfl, rfl, ?_⟩
        have gp := rgcd_pos ok
        refine ⟨fun σ G' => G' = G ∧ σ = [some (.ref p), some (.ref D), some (.int t.2.a), some (.int t.2.b), some (.ref pc), some (.int (Int.gcd t.2.a t.2.b : Int)), x5], ?_, fun σ G' hM => ?_⟩
        · exact ⟨_, rfl, _, rfl, _, _, rfl, .inl ((ok.a.mono (m := 4096) (by omega)).log (by decide)), rfl, by rw [ect]; rfl⟩
        obtain ⟨rfl, rfl⟩ := hM
        refine ⟨fun σ G2 => ∃ wy, Same G' G2 ∧ G2 wy = some (.tup [.int (wayA t.2), .int (wayB t.2)]) ∧ σ = [some (.ref p), some (.ref D), some (.int t.2.a), some (.int t.2.b), some (.ref pc), some (.int (Int.gcd t.2.a t.2.b : Int)), some (.ref wy)], ?_, fun σ G2 hM => ?_⟩
        · refine ⟨_, rfl, _, rfl, _, _, rfl, rfl, ?_, _, rfl, _, rfl, _, _, rfl, rfl, ?_, two_line, fun wy nwy => ⟨wy, same_upd nwy, ?_, rfl⟩⟩
          · exact ⟨by omega, Nat.lt_of_lt_of_le (((gcdZ ok).mono (m := 4096) (by omega)).log (by decide)) (by decide)⟩
          · exact ⟨by omega, Nat.lt_of_lt_of_le (((gcdZ ok).mono (m := 4096) (by omega)).log (by decide)) (by decide)⟩
          · rw [upd_same]
            unfold wayA wayB
            show some (HO.tup [.int (Int.fdiv _ _), .int (Int.fdiv _ _)]) = _
            rw [Int.fdiv_eq_ediv_of_nonneg _ (by omega), Int.fdiv_eq_ediv_of_nonneg _ (by omega)]
        obtain ⟨wy, s2, hwy, rfl⟩ := hM
        have hD2 := s2 _ _ hD
        have p2 : 0 < t.2.c.2 * (Int.gcd t.2.a t.2.b : Int) := Int.mul_pos ok.d (by omega)
        have z2 : Lz (2 * k) (t.2.c.2 * (Int.gcd t.2.a t.2.b : Int)) := by
          have := ok.c.2.mul (gcdZ ok)
          rwa [← Nat.two_mul] at this
        have hc2 := SqT_sm s2 hct
        obtain ⟨o, eo, ho, zo⟩ : ∃ o : Option Fq, getB (B.map Prod.snd) (wayA t.2) (wayB t.2) = o ∧ OqV K G2 ((valV (kvT B) [.inl (wayA t.2), .inl (wayB t.2)]).getD .non) o ∧ OqZ (2 * k) o := by
          rcases valT (wayA t.2) (wayB t.2) (hB.same s2) with ⟨e1, e2⟩ | ⟨v, f, e1, e2, hf, u, mu, eu⟩
          · rw [e1, e2]
            exact ⟨_, rfl, rfl, trivial⟩
          · rw [e1, e2]
            exact ⟨_, rfl, hf, eu ▸ zB u mu⟩
        refine ⟨_, rfl, D, rfl, .inr ⟨_, .inl hD2⟩, _, rfl, _, .inr ⟨_, [.inl (wayA t.2), .inl (wayB t.2)], wy, .inl hD2, rfl, hwy, rfl⟩, _, rfl, pc, _, _, _, rfl, rfl, hc2, t0, _, rfl, pc, _, _, _, rfl, rfl, hc2, t1, _, rfl, _, _, rfl, rfl, mulW ok.c.2 (gcdZ ok) (by omega), _, _, rfl, by omega, (z2.mono (m := 4096) (by omega)).log (by decide), fun np nnp => ?_⟩
        have s3 := same_upd (o := .tup [V.int (lowT t.2.c.1 (t.2.c.2 * (Int.gcd t.2.a t.2.b : Int))), .int (lowD t.2.c.1 (t.2.c.2 * (Int.gcd t.2.a t.2.b : Int)))]) nnp
        refine ⟨_, _, o, some (tightC t.2), 2 * k, rfl, ho.same s3, ⟨np, rfl, SqT.of upd_same⟩, zo, tightZ ok, by omega, fun x H4 s4 hx => ?_⟩
        have s24 := s3.trans s4
        have hD4 := s24 _ _ hD2
        have hwy4 := s24 _ _ hwy
        obtain ⟨fn, efn⟩ := pick_some false o (tightC t.2)
        have zfn : FqZ (2 * k) fn := by
          have := pickO_z (top := false) zo (show OqZ (2 * k) (some (tightC t.2)) from tightZ ok)
          rwa [efn] at this
        rw [efn] at hx
        refine ⟨_, rfl, _, rfl, D, _, rfl, .inr ⟨_, [.inl (wayA t.2), .inl (wayB t.2)], wy, hD4, rfl, hwy4, small1000 (by rw [kvT_len]; omega), rfl⟩, ?_⟩
        have s04 : Same H H4 := s.trans (s2.trans s24)
        refine ⟨putT B (wayA t.2) (wayB t.2) fn x, _, _, _, _, _, keep s04 rfl, by rw [upd_same, putK_T], fun u mu => ?_, ?_, Nat.le_trans (putT_len _ _ _ _ _) (by omega), fun u mu => ?_, rfl⟩
        · refine FqV.upd hD4 ?_
          rcases putT_mem mu with m | ⟨e1, e2, _⟩
          · exact (hB.same (s2.trans s24)) u m
          · rw [e1, e2]; exact hx
        · rw [putT_snd, eT]
          unfold tight1
          rw [eo, efn]
          rfl
        · rcases putT_mem mu with m | ⟨_, e, _⟩
          · exact zB u m
          · rw [e]; exact zfn
      · rintro σ G ⟨B, x1, x2, x3, x4, x5, s, hD, hB, eB, lB, _, rfl⟩
        rw [List.length_map] at eB lB
        rw [List.take_length] at eB
        exact ⟨B, x1, x2, x3, x4, x5, s, hD, hB, eB, by omega, rfl⟩
    · obtain ⟨B, x1, x2, x3, x4, x5, s, hD, hB, eB, lB, rfl⟩ := hM
      refine ⟨D, _, hD, trivial, fun od => ?_⟩
      refine ⟨_, rfl, D, od, rfl, .inr ⟨_, upd_same, fun L nL => ?_⟩⟩
      have nLD : L ≠ D := fun e => by rw [e, upd_same] at nL; cases nL
      have nLG : G L = none := by rw [upd_ne nLD] at nL; exact nL
      have nt := NoT.d hD
      refine lc_keysT (fun i Gi => Gi D = some (.frz od (.dT (kvT B))) ∧ ExF D G Gi ∧ ∃ R : List VR, Gi L = some (.lst (R.map Prod.fst)) ∧ Rs K Gi R ∧ R.map Prod.snd = (B.take i).map Prod.snd) ⟨?_, ?_, [], upd_same, (fun _ m => by cases m), rfl⟩ (fun i Gi h => h.1) (fun i k v z Gi hkv hz hp => ?_) (fun Gi hp => ?_)
      · rw [upd_ne (Ne.symm nLD)]
        exact upd_same
      · exact (ExF.at D _ G).upd nLG
      · obtain ⟨hF, ex, R, hL, hR, eR⟩ := hp
        unfold kvT at hkv
        rw [List.getElem?_map] at hkv
        obtain ⟨t, ht0, et⟩ := Option.map_eq_some_iff.mp hkv
        cases et
        have mt := List.mem_of_getElem? ht0
        have hC := fun u m => (hB u m).ex ex nt
        obtain ⟨v, f, ev, ef, hf, _⟩ : ∃ v f, valV (kvT B) [.inl t.2.a, .inl t.2.b] = some v ∧ f = t.2.c ∧ FqV K Gi v f ∧ True := by
          have g := find_disj (B := B.map Prod.snd) (eB ▸ tightF_disj _) (List.mem_map_of_mem (f := Prod.snd) mt)
          rcases valT t.2.a t.2.b hC with ⟨_, e2⟩ | ⟨v, f, e1, e2, h3, _⟩
          · rw [e2] at g; cases g
          · rw [e2] at g
            exact ⟨v, f, e1, Option.some.inj g, h3, trivial⟩
        refine ⟨z, _, rfl, .inl (.inl hz), rfl, _, _, rfl, _, _, rfl, rfl, rfl, ?_⟩
        refine ⟨_, rfl, _, rfl, _, rfl, _, rfl, _, rfl, two_line, fun y ny => ?_⟩
        have sy := same_upd (o := .tup [V.int t.2.a, .int t.2.b]) ny
        refine ⟨D, v, rfl, .inr ⟨_, [.inl t.2.a, .inl t.2.b], y, .inr ⟨od, sy _ _ hF⟩, rfl, upd_same, ev.symm⟩, small_line (by show 3 ≤ 1000; decide), fun y2 ny2 => ?_⟩
        have sy2 := same_upd (o := .tup [V.int t.2.a, .int t.2.b, v]) ny2
        have s2 := sy.trans sy2
        refine ⟨_, s2 _ _ hL, small1000 (by rw [List.length_map, ← List.length_map (f := Prod.snd), eR, List.length_map, List.length_take]; omega), ?_, ((ex.same s2).upd nLG), R ++ [(.ref y2, t.2)], ?_, ?_, ?_⟩
        · rw [upd_ne (Ne.symm nLD)]
          exact s2 _ _ hF
        · rw [upd_same, List.map_append]
          rfl
        · intro u m
          refine RwV.ex (ExF.at L _ _) (NoT.l (s2 _ _ hL)) ?_
          rcases List.mem_append.mp m with m | m
          · exact (hR u m).same s2
          · rw [List.mem_singleton.mp m]
            exact ⟨y2, v, rfl, SqT.of upd_same, ef ▸ hf.same s2⟩
        · rw [List.map_append, eR, List.take_add_one, ht0, List.map_append]
          rfl
      · obtain ⟨hF, ex, R, hL, hR, eR⟩ := hp
        rw [kvT_len, List.take_length] at eR
        refine ⟨hF, q L _ R (fun b o e => ?_) (none_of_same s nLG) ?_ ?_ (by rw [eR, eB])⟩
        · rw [upd_ne (ne_of_none e nD)]
          exact ex _ _ (s _ _ e) (ne_of_none e nD)
        · rw [upd_ne nLD]
          exact hL
        · exact fun t m => (hR t m).ex (ExF.at D _ Gi) (NoT.fd hF)
end
/-- a list built from another one, item by item -/
theorem lc_map {K : PySem.W.Frag} {a : Addr} {xs : List V} {g : TG} {tt : L2.TT} {te : TE} {vs : List Nat} {σ : L2.St} {H D} {Qd : Hp → Prop} (R : Nat → V → Hp → Prop) (nD : H D = none) (ha : SqL K H a xs) (hl : xs.length ≤ 900)
    (hR : ∀ i y G G' us, G D = some (.lst us) → ExF D G G' → R i y G → R i y G')
    (hs : ∀ i x G (C : V → Hp → Prop) (C' : Hp → Prop), xs[i]? = some x → Same H G → (∀ y H4, Same G H4 → R i y H4 → C y H4) → g x (wipe σ vs) G fun σ2 H2 => wipe σ2 vs = wipe σ vs ∧ tt σ2 H2 fun b H3 => if b = true then te σ2 H3 C else C' H3)
    (hd : ∀ G (ys : List V), Same H G → G D = some (.lst ys) → ys.length = xs.length → (∀ i y, ys[i]? = some y → R i y G) → Qd G) :
    ∃ W : Nat → Nat → Hp → Prop, (∃ m, W 0 m (upd H D (.lst []))) ∧ ∀ i m H, W i m H →
      ((Itl K a).stop i H ∧ Qd H) ∨ ((Itl K a).go i H ∧ ∃ Nx : Hp → Prop, (∀ H', Nx H' → ∃ m', m' < m ∧ W (i + 1) m' H') ∧ ∀ y H', (Itl K a).yld i H y H' → g y (wipe σ vs) H' fun σ2 H2 => wipe σ2 vs = wipe σ vs ∧ tt σ2 H2 fun b H3 =>
        if b = true then te σ2 H3 fun y H4 => ∃ acc, H4 D = some (.lst acc) ∧ acc.length < sizeLine ∧ Nx (upd H4 D (.lst (acc ++ [y]))) else Nx H3) := by
  refine lc_list (K := K) (a := a) (xs := xs) (fun i G => Same H G ∧ ∃ ys, G D = some (.lst ys) ∧ ys.length = i ∧ ∀ j y, ys[j]? = some y → R j y G) ⟨same_upd nD, [], upd_same, rfl, fun j y e => by cases e⟩ (fun i G _ hp => SqL_sm hp.1 ha) (fun i x G hx hp => ?_) (fun G hp => ?_)
  · obtain ⟨s, ys, hD, ly, hy⟩ := hp
    have il := (List.getElem?_eq_some_iff.mp hx).1
    refine hs i x G _ _ hx s fun y H4 s4 r4 => ⟨ys, s4 _ _ hD, small1000 (by omega), ?_, ys ++ [y], upd_same, by rw [List.length_append, ly]; rfl, fun j z ez => ?_⟩
    · intro b o e
      rw [upd_ne (ne_of_none e nD)]
      exact s4 _ _ (s _ _ e)
    · have x4 := ExF.at D (.lst (ys ++ [y])) H4
      refine hR j z H4 _ ys (s4 _ _ hD) x4 ?_
      by_cases c : j < ys.length
      · rw [List.getElem?_append_left c] at ez
        exact hR j z G _ ys hD (ExF.of s4) (hy j z ez)
      · rw [List.getElem?_append_right (by omega)] at ez
        have e0 : j - ys.length = 0 := by
          have := (List.getElem?_eq_some_iff.mp ez).1
          have e1 : [y].length = 1 := rfl
          omega
        rw [e0] at ez
        cases ez
        have : j = i := by omega
        rw [this]
        exact r4
  · obtain ⟨s, ys, hD, ly, hy⟩ := hp
    exact hd G ys s hD ly hy
/-! ### in order: by two keys -/
section
variable {α β : Type}
def precG (k : α → Fq × Fq) (t u : α) : Bool := if ltF (k t).1 (k u).1 = true then true else !ltF (k u).1 (k t).1 && ltF (k t).2 (k u).2
def mergedG (k : α → Fq × Fq) : List α → List α → List α
  | [], us => us
  | t :: ts, [] => t :: mergedG k ts []
  | t :: ts, u :: us => if precG k u t = true then u :: mergedG k (t :: ts) us else if precG k t u = true then t :: mergedG k ts (u :: us) else t :: mergedG k ts us
termination_by ts us => ts.length + us.length
def inOrderG (k : α → Fq × Fq) : Nat → List α → List α
  | 0, ts => ts
  | d + 1, ts => if ts.length < 2 then ts else mergedG k (inOrderG k d (ts.take (ts.length / 2))) (inOrderG k d (ts.drop (ts.length / 2)))
theorem mergedG_map (k : α → Fq × Fq) (k' : β → Fq × Fq) (φ : α → β) (h : ∀ a, k' (φ a) = k a) : ∀ ts us : List α, mergedG k' (ts.map φ) (us.map φ) = (mergedG k ts us).map φ
  | [], us => by rw [List.map_nil, mergedG, mergedG]
  | t :: ts, [] => by
    have ih := mergedG_map k k' φ h ts []
    rw [List.map_nil] at ih
    rw [List.map_cons, List.map_nil, mergedG, mergedG, ih, List.map_cons]
  | t :: ts, u :: us => by
    have p : ∀ a b, precG k' (φ a) (φ b) = precG k a b := fun a b => by unfold precG; rw [h, h]
    have i1 := mergedG_map k k' φ h (t :: ts) us
    have i2 := mergedG_map k k' φ h ts (u :: us)
    have i3 := mergedG_map k k' φ h ts us
    rw [List.map_cons] at i1 i2
    rw [List.map_cons, List.map_cons, mergedG, mergedG, p, p, i1, i2, i3]
    by_cases c1 : precG k u t = true
    · rw [if_pos c1, if_pos c1]; rfl
    · rw [if_neg c1, if_neg c1]
      by_cases c2 : precG k t u = true
      · rw [if_pos c2, if_pos c2]; rfl
      · rw [if_neg c2, if_neg c2]; rfl
termination_by ts us => ts.length + us.length
theorem inOrderG_map (k : α → Fq × Fq) (k' : β → Fq × Fq) (φ : α → β) (h : ∀ a, k' (φ a) = k a) : ∀ (d : Nat) (ts : List α), inOrderG k' d (ts.map φ) = (inOrderG k d ts).map φ
  | 0, ts => rfl
  | d + 1, ts => by
    rw [inOrderG, inOrderG, List.length_map, ← List.map_take, ← List.map_drop, inOrderG_map k k' φ h d, inOrderG_map k k' φ h d, mergedG_map k k' φ h]
    split <;> rfl
theorem mergedG_mem (k : α → Fq × Fq) : ∀ (ts us : List α) (x : α), x ∈ mergedG k ts us → x ∈ ts ∨ x ∈ us
  | [], us, x, h => by rw [mergedG] at h; exact .inr h
  | t :: ts, [], x, h => by
    rw [mergedG] at h
    rcases List.mem_cons.mp h with rfl | h
    · exact .inl (.head _)
    · exact (mergedG_mem k ts [] x h).imp (.tail _) id
  | t :: ts, u :: us, x, h => by
    rw [mergedG] at h
    split at h
    · rcases List.mem_cons.mp h with rfl | h
      · exact .inr (.head _)
      · exact (mergedG_mem k (t :: ts) us x h).imp id (.tail _)
    · split at h
      · rcases List.mem_cons.mp h with rfl | h
        · exact .inl (.head _)
        · exact (mergedG_mem k ts (u :: us) x h).imp (.tail _) id
      · rcases List.mem_cons.mp h with rfl | h
        · exact .inl (.head _)
        · exact (mergedG_mem k ts us x h).imp (.tail _) (.tail _)
termination_by ts us => ts.length + us.length
theorem inOrderG_mem (k : α → Fq × Fq) : ∀ (d : Nat) (ts : List α) (x : α), x ∈ inOrderG k d ts → x ∈ ts
  | 0, _, _, h => h
  | d + 1, ts, x, h => by
    rw [inOrderG] at h
    split at h
    · exact h
    · rcases mergedG_mem k _ _ x h with h | h
      · exact List.mem_of_mem_take (inOrderG_mem k d _ x h)
      · exact List.mem_of_mem_drop (inOrderG_mem k d _ x h)
theorem mergedG_len (k : α → Fq × Fq) : ∀ ts us : List α, (mergedG k ts us).length ≤ ts.length + us.length
  | [], us => by rw [mergedG]; exact Nat.le_add_left _ _
  | t :: ts, [] => by
    have := mergedG_len k ts []
    rw [mergedG, List.length_cons, List.length_cons]
    rw [List.length_nil] at this ⊢
    omega
  | t :: ts, u :: us => by
    have i1 := mergedG_len k (t :: ts) us
    have i2 := mergedG_len k ts (u :: us)
    have i3 := mergedG_len k ts us
    rw [mergedG]
    simp only [List.length_cons] at *
    split
    · rw [List.length_cons]; omega
    · split <;> (rw [List.length_cons]; omega)
termination_by ts us => ts.length + us.length
theorem inOrderG_len (k : α → Fq × Fq) : ∀ (d : Nat) (ts : List α), (inOrderG k d ts).length ≤ ts.length
  | 0, _ => Nat.le_refl _
  | d + 1, ts => by
    rw [inOrderG]
    split
    · exact Nat.le_refl _
    · have := mergedG_len k (inOrderG k d (ts.take (ts.length / 2))) (inOrderG k d (ts.drop (ts.length / 2)))
      have i1 := inOrderG_len k d (ts.take (ts.length / 2))
      have i2 := inOrderG_len k d (ts.drop (ts.length / 2))
      rw [List.length_take] at i1
      rw [List.length_drop] at i2
      omega
end
theorem mergedF_G : ∀ ts us : List Th, mergedF ts us = mergedG (fun t => (t.f, t.g)) ts us
  | [], us => by rw [mergedF, mergedG]
  | t :: ts, [] => by rw [mergedF, mergedG, mergedF_G ts []]
  | t :: ts, u :: us => by
    rw [mergedF, mergedG, mergedF_G (t :: ts) us, mergedF_G ts (u :: us), mergedF_G ts us]
    rfl
termination_by ts us => ts.length + us.length
theorem inOrderF_G : ∀ (d : Nat) (ts : List Th), inOrderF d ts = inOrderG (fun t => (t.f, t.g)) d ts
  | 0, _ => rfl
  | d + 1, ts => by rw [inOrderF, inOrderG, inOrderF_G d, inOrderF_G d, mergedF_G]
theorem ix_tupK {X : Cx} {K : PySem.W.Frag} (h : X.K = K) : IxR X (rIxT K) := h ▸ ix_tup
theorem ix_listK {X : Cx} {K : PySem.W.Frag} (h : X.K = K) : IxR X (rIxL K) := h ▸ ix_list
theorem eq_of_at {α : Type} {xs ys : List α} (l : xs.length = ys.length) (h : ∀ (i : Nat) (y : α), xs[i]? = some y → ys[i]? = some y) : xs = ys := by
  refine List.ext_getElem? fun i => ?_
  cases e : xs[i]? with
  | some y => exact (h i y e).symm
  | none =>
    have := List.getElem?_eq_none_iff.mp e
    exact (List.getElem?_eq_none (by omega)).symm
theorem build {α β : Type} {xs : List α} {ys : List β} {P : α → β → Prop} (l : ys.length = xs.length) (h : ∀ (i : Nat) (y : β), ys[i]? = some y → ∃ x, xs[i]? = some x ∧ P x y) :
    ∃ A : List (β × α), A.map Prod.fst = ys ∧ A.map Prod.snd = xs ∧ ∀ a ∈ A, P a.2 a.1 := by
  refine ⟨ys.zip xs, List.map_fst_zip (by omega), List.map_snd_zip (by omega), fun a m => ?_⟩
  obtain ⟨i, hi⟩ := List.mem_iff_getElem?.mp m
  rw [List.getElem?_zip_eq_some] at hi
  obtain ⟨x, hx, p⟩ := h i _ hi.1
  rw [hi.2] at hx
  cases hx
  exact p
def slopeK (r : Rw) : Fq × Fq := (looseF (-r.a) r.b, (0, 1))
def slopeF (rs : List Rw) : List Rw := inOrderG slopeK 7 rs
section
variable {P : Program} {w : World} {K : PySem.W.Frag} {mg : Str → Option Value} {base : Heap} {fa : Nat → Addr} {fd : Nat → FuncData}
def spSlope (K : PySem.W.Frag) : Sp := fun vs H Q _ => ∃ (p : Addr) (T : List VR) (k : Nat), vs = [.ref p] ∧ SqL K H p (T.map Prod.fst) ∧ Rs K H T ∧ (∀ t ∈ T, RwZ k t.2) ∧ 1 ≤ k ∧ k ≤ 100000 ∧ T.length ≤ 120 ∧
  ∀ D H' (T' : List VR), Same H H' → H D = none → H' D = some (.lst (T'.map Prod.fst)) → T'.map Prod.snd = slopeF (T.map Prod.snd) → (∀ t ∈ T', t ∈ T) → Q (.ref D) H'
theorem ok_p_by_slope (T : Txt K mg fa fd) : FnOk P w K mg base CX0 12 (fa 32) (fd 32) ["rows"] (spSlope K) := by
  refine T.F_p_by_slope.ok sc_p_by_slope (fun vs H Q E h => ?_) (fun cdv A outer s H vs Q E hr h => ?_)
  · obtain ⟨p, ts, k, rfl, _⟩ := h
    rfl
  · obtain ⟨p, ts, k, rfl, hp, hts, hz, hk1, hk, hl, q⟩ := h
    refine ⟨_, (C8.pss_cut (ps_setLc (i := 1) (own := [("row", 2)]) (g := gName 2) (tt := tYes) rfl sc_p_by_slope.nd rfl rfl (sw_true rfl rfl rfl (by decide +kernel)) (pi_list (pv 0)) (blkOk_by (own := [("row", 2)]) (N := ["rows", "placed", "row", "thing"]) (sc := defScope s_p_by_slope) (by decide +kernel)) (fun _ _ _ _ _ => pg_name (i := 2) sc_p_by_slope.nd rfl (Or.inl rfl)) (fun _ _ _ _ _ => pts_nil) (fun _ _ _ _ _ => (pe_tup (pa_cons (pe_call (ok_p_loose T) (hr.mono (by decide)) (by rfl) T.g_p_loose T.F_p_loose.kp T.b_p_loose .nil pass0 (pa_cons (pe_un un_neg (pe_ix (ix_tupK (K := K) rfl) (pv 2) pe_int (fun _ _ => rfl))) (pa_cons (pe_ix (ix_tupK (K := K) rfl) (pv 2) pe_int (fun _ _ => rfl)) pa_nil))) (pa_cons (C8.pe_gc (by rfl) T.c_ZERO) (pa_cons (pv 2) pa_nil))))))
      (pss_one (ps_ret (pe_lc (own := [("thing", 3)]) (g := gName 3) (tt := tYes) rfl sc_p_by_slope.nd (pi_list (pe_call (ok_p_in_order T 7) (hr.mono (by decide)) (by rfl) T.g_p_in_order T.F_p_in_order.kp T.b_p_in_order .nil pass0 (pa_cons (pv 1) pa_nil))) (blkOk_by (own := [("thing", 3)]) (N := ["rows", "placed", "row", "thing"]) (sc := defScope s_p_by_slope) (by decide +kernel)) (fun _ _ _ _ _ => pg_name (i := 3) sc_p_by_slope.nd rfl (Or.inl rfl)) (fun _ _ _ _ _ => pts_nil) (fun _ _ _ _ _ => (pe_ix (ix_tupK (K := K) rfl) (pv 3) pe_int (fun _ _ => rfl))))))), ?_⟩
    refine ⟨fun σ G => ∃ (L : Addr) (ys : List V), Same H G ∧ H L = none ∧ G L = some (.lst ys) ∧ ys.length = ts.length ∧ (∀ (i : Nat) (y : V), ys[i]? = some y → ∃ (t : VR) (a : Addr) (x z : V), ts[i]? = some t ∧ y = V.ref a ∧ SqT K G a [x, z, t.1] ∧ FqV K G x (slopeK t.2).1 ∧ FqV K G z (slopeK t.2).2) ∧ σ = [some (.ref p), some (.ref L), none, none], ?_, fun σ G hM => ?_⟩
    · refine ⟨_, rfl, p, rfl, ⟨_, hp⟩, fun L nL => ?_⟩
      refine lc_map (K := K) (a := p) (xs := ts.map Prod.fst) (fun i y G => ∃ (t : VR) (a : Addr) (x z : V), ts[i]? = some t ∧ y = V.ref a ∧ SqT K G a [x, z, t.1] ∧ FqV K G x (slopeK t.2).1 ∧ FqV K G z (slopeK t.2).2) nL hp (by rw [List.length_map]; omega) (fun i y G G' us hL ex ⟨t, a, x, z, h1, h2, h3, h4, h5⟩ => ⟨t, a, x, z, h1, h2, SqT_ex ex (NoT.l hL) h3, h4.ex ex (NoT.l hL), h5.ex ex (NoT.l hL)⟩) (fun i x G C C' hx sG hC => ?_) (fun G ys sG hL ly hy => ?_)
      · rw [List.getElem?_map] at hx
        obtain ⟨t, ht0, rfl⟩ := Option.map_eq_some_iff.mp hx
        obtain ⟨pt, ct, et, hpt, pc, ect, hct⟩ := (hts t (List.mem_of_getElem? ht0)).same sG
        refine ⟨rfl, ?_⟩
        rw [et]
        refine ⟨_, rfl, pt, _, _, _, rfl, rfl, hpt, u0, _, rfl, _, rfl, pt, _, _, _, rfl, rfl, hpt, u1, _, _, rfl, fun x nx => ⟨_, rfl, small_line (by show 3 ≤ 1000; decide), fun y ny => ?_⟩⟩
        have s1 := same_upd (o := .tup [V.int (looseF (-t.2.a) t.2.b).1, .int (looseF (-t.2.a) t.2.b).2]) nx
        have s2 := same_upd (o := .tup [V.ref x, V.ref (fa 2000), .ref pt]) ny
        exact hC _ _ (s1.trans s2) ⟨t, y, .ref x, .ref (fa 2000), ht0, rfl, by rw [et]; exact SqT.of upd_same, FqV.same ⟨x, rfl, SqT.of upd_same⟩ s2, ⟨fa 2000, rfl, T.z_ZERO _⟩⟩
      · exact ⟨L, ys, sG, nL, hL, by rw [ly, List.length_map], hy, rfl⟩
    · obtain ⟨L, ys, sG, nL, hL, ly, hy, rfl⟩ := hM
      obtain ⟨A, eA1, eA2, hA⟩ := build (P := fun (t : VR) y => ∃ (a : Addr) (x z : V), y = V.ref a ∧ SqT K G a [x, z, t.1] ∧ FqV K G x (slopeK t.2).1 ∧ FqV K G z (slopeK t.2).2) ly (fun i y e => by
        obtain ⟨t, a, x, z, h1, h⟩ := hy i y e
        exact ⟨t, h1, a, x, z, h⟩)
      let φ : V × VR → Th := fun a => ⟨a.1, (slopeK a.2.2).1, (slopeK a.2.2).2⟩
      have e1 : (A.map φ).map Th.v = ys := by rw [List.map_map, ← eA1]; rfl
      have mA : ∀ a ∈ A, a.2 ∈ ts := fun a m => eA2 ▸ List.mem_map_of_mem (f := Prod.snd) m
      have lA : A.length = ts.length := by rw [← eA2, List.length_map]
      refine ⟨_, rfl, L, A.map φ, k, rfl, by rw [e1]; exact SqL.of hL, fun t m => ?_, by omega, by rw [List.length_map]; omega, by rw [List.length_map]; omega, fun D H2 s2 nD hD => ?_⟩
      · obtain ⟨a, m2, rfl⟩ := List.mem_map.mp m
        obtain ⟨b, x, z, e, h1, h2, h3⟩ := hA a m2
        have za := hz _ (mA a m2)
        exact ⟨⟨b, _, x, z, e, h1, rfl, rfl, h2, h3⟩, looseZ za.a.neg za.b, Lz.zero k, Lz.one k hk1⟩
      have e2 : inOrderF 7 (A.map φ) = (inOrderG (fun a : V × VR => slopeK a.2.2) 7 A).map φ := by
        rw [inOrderF_G]
        exact inOrderG_map _ _ φ (fun _ => rfl) 7 A
      have mA' := inOrderG_mem (fun a : V × VR => slopeK a.2.2) 7 A
      have lA' := inOrderG_len (fun a : V × VR => slopeK a.2.2) 7 A
      have e3 : ((inOrderG (fun a : V × VR => slopeK a.2.2) 7 A).map Prod.snd).map Prod.snd = slopeF (ts.map Prod.snd) := by
        rw [← eA2, List.map_map, List.map_map]
        exact (inOrderG_map _ slopeK (Prod.snd ∘ Prod.snd : V × VR → Rw) (fun _ => rfl) 7 A).symm
      rw [e2, List.map_map] at hD
      generalize inOrderG (fun a : V × VR => slopeK a.2.2) 7 A = A' at hD mA' lA' e3
      refine ⟨D, rfl, ⟨_, SqL.of hD⟩, fun R nR => ?_⟩
      refine lc_map (K := K) (a := D) (xs := A'.map Prod.fst) (fun i y _ => (A'.map fun a => a.2.1)[i]? = some y) nR (SqL.of hD) (by rw [List.length_map]; omega) (fun _ _ _ _ _ _ _ h => h) (fun i x G3 C C' hx sG3 hC => ?_) (fun G3 zs sG3 hR lz hzs => ?_)
      · rw [List.getElem?_map] at hx
        obtain ⟨a, ha0, rfl⟩ := Option.map_eq_some_iff.mp hx
        obtain ⟨b, x, z, e, h1, _⟩ := hA a (mA' a (List.mem_of_getElem? ha0))
        rw [e]
        exact ⟨rfl, _, rfl, b, _, _, _, rfl, rfl, SqT_sm (s2.trans sG3) h1, u2, hC _ _ (fun _ _ h => h) (by rw [List.getElem?_map, ha0]; rfl)⟩
      · have ez : zs = (A'.map Prod.snd).map Prod.fst := by
          rw [List.map_map]
          exact eq_of_at (by rw [lz, List.length_map, List.length_map]) hzs
        refine q R G3 (A'.map Prod.snd) ((sG.trans s2).trans sG3) (none_of_same (sG.trans s2) nR) (by rw [hR, ez]) e3 fun t m => ?_
        obtain ⟨a, m2, rfl⟩ := List.mem_map.mp m
        exact mA a (mA' a m2)
end
/-- the upper ones of a stack that a row makes idle are taken off -/
def popF : List Rw → Rw → List Rw
  | x :: y :: s, r => if followsF x y r = true then popF (y :: s) r else x :: y :: s
  | [x], _ => [x]
  | [], _ => []
def pushF (s : List Rw) (r : Rw) : List Rw := r :: popF s r
def chainF (rs : List Rw) : List Rw := ((slopeF rs).foldl pushF []).reverse
theorem at_last {xs : List V} {v : V} : atI (xs ++ [v]) (-1) = some v := by
  have e : ixN (xs ++ [v]).length (-1) = some xs.length := by
    unfold ixN
    rw [List.length_append, List.length_singleton]
    repeat' split
    all_goals first | omega | (congr 1; omega) | rfl
  unfold atI
  rw [e]
  exact List.getElem?_concat_length
theorem at_last2 {xs : List V} {v u : V} : atI (xs ++ [u] ++ [v]) (-2) = some u := by
  have e : ixN (xs ++ [u] ++ [v]).length (-2) = some xs.length := by
    unfold ixN
    rw [List.length_append, List.length_append, List.length_singleton, List.length_singleton]
    repeat' split
    all_goals first | omega | (congr 1; omega) | rfl
  unfold atI
  rw [e]
  show (xs ++ [u] ++ [v])[xs.length]? = some u
  rw [List.getElem?_append_left (by rw [List.length_append, List.length_singleton]; omega)]
  exact List.getElem?_concat_length
/-- the same of rows and what stands for them -/
def popT : List VR → VR → List VR
  | x :: y :: s, r => if followsF x.2 y.2 r.2 = true then popT (y :: s) r else x :: y :: s
  | [x], _ => [x]
  | [], _ => []
theorem popT_snd (r : VR) : ∀ s : List VR, (popT s r).map Prod.snd = popF (s.map Prod.snd) r.2
  | [] => rfl
  | [x] => rfl
  | x :: y :: s => by
    show (if _ then _ else _ : List VR).map _ = if _ then _ else _
    by_cases c : followsF x.2 y.2 r.2 = true
    · rw [if_pos c, if_pos c]
      exact popT_snd r (y :: s)
    · rw [if_neg c, if_neg c]
      rfl
theorem popT_suf (r : VR) : ∀ s : List VR, popT s r <:+ s
  | [] => List.suffix_refl _
  | [x] => List.suffix_refl _
  | x :: y :: s => by
    show (if _ then _ else _ : List VR) <:+ _
    by_cases c : followsF x.2 y.2 r.2 = true
    · rw [if_pos c]
      exact (popT_suf r (y :: s)).trans (List.suffix_cons x _)
    · rw [if_neg c]
      exact List.suffix_refl _
section
variable {P : Program} {w : World} {K : PySem.W.Frag} {mg : Str → Option Value} {base : Heap} {fa : Nat → Addr} {fd : Nat → FuncData}
def spChain (K : PySem.W.Frag) : Sp := fun vs H Q _ => ∃ (p : Addr) (T : List VR) (k : Nat), vs = [.ref p] ∧ SqL K H p (T.map Prod.fst) ∧ Rs K H T ∧ (∀ t ∈ T, RwZ k t.2) ∧ 1 ≤ k ∧ k ≤ 100000 ∧ T.length ≤ 120 ∧
  ∀ D H' (T' : List VR), Same H H' → H D = none → H' D = some (.lst (T'.map Prod.fst)) → T'.map Prod.snd = chainF (T.map Prod.snd) → (∀ t ∈ T', t ∈ T) → Q (.ref D) H'
theorem ok_p_chain (T : Txt K mg fa fd) : FnOk P w K mg base CX0 13 (fa 34) (fd 34) ["rows"] (spChain K) := by
  refine T.F_p_chain.ok sc_p_chain (fun vs H Q E h => ?_) (fun cdv A outer s H vs Q E hr h => ?_)
  · obtain ⟨p, ts, k, rfl, _⟩ := h
    rfl
  · obtain ⟨p, ts, k, rfl, hp, hts, hz, hk1, hk, hl, q⟩ := h
    refine ⟨_, (C8.pss_cut (ps_set (i := 1) sc_p_chain.nd rfl (.inl rfl) (pe_lst pa_nil))
      (C8.pss_cut (ps_for PassesOwn.never rfl (pi_list (pe_call (ok_p_by_slope T) (hr.mono (by decide)) (by rfl) T.g_p_by_slope T.F_p_by_slope.kp T.b_p_by_slope .nil pass0 (pa_cons (pv 0) pa_nil))) (pg_name (i := 2) sc_p_chain.nd rfl (.inl rfl)) (C8.pss_cut (ps_while PassesOwn.never (PW.pt (pw_and (pt_cmpR op_gt (pe_callB call_len_seq (by rfl) T.m_len PySem.boot_len (pa_cons (pv 1) pa_nil)) pe_int (nomark _)) (pw_and1 (pt_val (pe_call (ok_p_follows T) (hr.mono (by decide)) (by rfl) T.g_p_follows T.F_p_follows.kp T.b_p_follows .nil pass0 (pa_cons (pe_ix ix_list (pv 1) (pe_un un_neg pe_int) (fun _ _ => rfl)) (pa_cons (pe_ix ix_list (pv 1) (pe_un un_neg pe_int) (fun _ _ => rfl)) (pa_cons (pv 2) pa_nil)))))))) (pss_one (ps_expr (pe_bm0 PySem.F.plainAttrs_list PySem.F.slot_list_pop PySem.F.type_list_pop mt_pop (pv 1)))))
      (pss_one (ps_expr (pe_bm PySem.F.plainAttrs_list PySem.F.slot_list_append PySem.F.type_list_append mt_append (pv 1) (pa_cons (pv 2) pa_nil))))))
      (pss_one (ps_ret (pv 1))))), ?_⟩
    refine ⟨fun σ G => ∃ D, Same H G ∧ H D = none ∧ G D = some (.lst []) ∧ σ = [some (.ref p), some (.ref D), none], ⟨small_line (by show 0 ≤ 1000; decide), fun D nD => ⟨D, same_upd nD, nD, upd_same, rfl⟩⟩, fun σ G hM => ?_⟩
    obtain ⟨D, s1, nD, hD, rfl⟩ := hM
    refine ⟨fun σ G => ∃ (st : List VR) (y : Option V), Same H G ∧ G D = some (.lst (st.reverse.map Prod.fst)) ∧ st.reverse.map Prod.snd = chainF (ts.map Prod.snd) ∧ (∀ t ∈ st, t ∈ ts) ∧ σ = [some (.ref p), some (.ref D), y], ?_, fun σ G hM => ?_⟩
    · refine ⟨_, rfl, p, ts, k, rfl, SqL_sm s1 hp, hts.same s1, hz, hk1, hk, hl, fun L G2 us s2 nL hL eU mU => ?_⟩
      have s12 := s1.trans s2
      have s1' : Same G G := fun _ _ e => e
      have lU : us.length ≤ ts.length := by
        have := congrArg List.length eU
        rw [List.length_map] at this
        have l2 := inOrderG_len slopeK 7 (ts.map Prod.snd)
        rw [List.length_map] at l2
        rw [this]
        exact l2
      refine ⟨L, rfl, ⟨_, SqL.of hL⟩, for_list (K := K) (a := L) (xs := us.map Prod.fst) (fun i σ G => ∃ (st : List VR) (y : Option V), Same H G ∧ G L = some (.lst (us.map Prod.fst)) ∧ G D = some (.lst (st.reverse.map Prod.fst)) ∧ st.length ≤ i ∧ st.map Prod.snd = ((us.take i).map Prod.snd).foldl pushF [] ∧ (∀ t ∈ st, t ∈ ts) ∧ σ = [some (.ref p), some (.ref D), y]) ⟨[], none, s12, hL, s2 _ _ hD, Nat.le_refl _, rfl, (fun _ m => by cases m), rfl⟩ (fun i σ G _ hq => ?_) (fun i x σ G hx hq => ?_) (fun σ G hq => ?_)⟩
      · obtain ⟨_, _, _, h, _⟩ := hq
        exact SqL.of h
      · obtain ⟨st, y, s, hLG, hDG, lS, eS, mS, rfl⟩ := hq
        rw [List.getElem?_map] at hx
        obtain ⟨t, ht0, rfl⟩ := Option.map_eq_some_iff.mp hx
        have il := (List.getElem?_eq_some_iff.mp ht0).1
        have mt := mU t (List.mem_of_getElem? ht0)
        have rv : ∀ (x y : VR) (r : List VR), (x :: y :: r).reverse.map Prod.fst = r.reverse.map Prod.fst ++ [y.1] ++ [x.1] := fun x y r => by
          rw [List.reverse_cons, List.reverse_cons, List.map_append, List.map_append]
          rfl
        refine ⟨fun σ G => Same H G ∧ G L = some (.lst (us.map Prod.fst)) ∧ G D = some (.lst ((popT st t).reverse.map Prod.fst)) ∧ σ = [some (.ref p), some (.ref D), some t.1], ?_, fun σ G hM => ?_⟩
        · refine ⟨fun m σ G => ∃ st' : List VR, m = st'.length ∧ Same H G ∧ G L = some (.lst (us.map Prod.fst)) ∧ G D = some (.lst (st'.reverse.map Prod.fst)) ∧ popT st' t = popT st t ∧ st' <:+ st ∧ σ = [some (.ref p), some (.ref D), some t.1], ⟨_, st, rfl, s, hLG, hDG, rfl, List.suffix_refl _, rfl⟩, fun m σ G hW => ?_⟩
          obtain ⟨st', rfl, s, hLG, hDG, eP, suf, rfl⟩ := hW
          refine ⟨_, rfl, D, _, rfl, .inl (SqL.of hDG), _, _, rfl, rfl, _, rfl, ?_⟩
          rw [List.length_map, List.length_reverse]
          match st', eP, suf, hDG with
          | [], eP, suf, hDG => exact iteFq (decide_eq_false (by show ¬ (1 : Int) < 0; decide)) ⟨s, hLG, by rw [← eP]; exact hDG, rfl⟩
          | [x], eP, suf, hDG => exact iteFq (decide_eq_false (by show ¬ (1 : Int) < 1; decide)) ⟨s, hLG, by rw [← eP]; exact hDG, rfl⟩
          | x :: y :: r, eP, suf, hDG =>
            have mx := mS x (suf.mem (.head _))
            have my := mS y (suf.mem (.tail _ (.head _)))
            have hX : ∀ u ∈ ts, RwV K G u.1 u.2 := fun u m => (hts u m).same s
            have hDG' := hDG
            rw [rv] at hDG'
            refine iteTq (decide_eq_true (by show (1 : Int) < ((r.length + 1 + 1 : Nat) : Int); omega)) ⟨_, rfl, _, rfl, D, _, _, _, rfl, rfl, SqL.of hDG', at_last, _, rfl, _, rfl, D, _, _, _, rfl, rfl, SqL.of hDG', at_last2, _, rfl, x.1, y.1, t.1, x.2, y.2, t.2, k, rfl, hX x mx, hX y my, hX t mt, hz x mx, hz y my, hz t mt, hk, _, rfl, ?_⟩
            have eP' : (if followsF x.2 y.2 t.2 = true then popT (y :: r) t else x :: y :: r) = popT st t := eP
            cases c : followsF x.2 y.2 t.2 with
            | true =>
              rw [c, if_pos rfl] at eP'
              refine iteT ⟨fun σ' G' => ∃ m', m' < (x :: y :: r).length ∧ ∃ st' : List VR, m' = st'.length ∧ Same H G' ∧ G' L = some (.lst (us.map Prod.fst)) ∧ G' D = some (.lst (st'.reverse.map Prod.fst)) ∧ popT st' t = popT st t ∧ st' <:+ st ∧ σ' = [some (.ref p), some (.ref D), some t.1], fun _ _ h => h, ?_⟩
              have nLD : L ≠ D := fun e => by
                rw [e, s1' _ _ hD] at nL
                cases nL
              refine ⟨_, rfl, .inl ⟨rfl, _, SqL.of hDG'⟩, D, _, x.1, rfl, rfl, hDG', ?_, _, Nat.lt_succ_self _, y :: r, rfl, ?_, ?_, ?_, eP', (List.suffix_cons x _).trans suf, rfl⟩
              · simp
              · intro b o e
                rw [upd_ne (ne_of_none e nD)]
                exact s _ _ e
              · rw [upd_ne nLD]; exact hLG
              · rw [upd_same, List.dropLast_concat, List.reverse_cons, List.map_append]
                rfl
            | false =>
              rw [c, if_neg Bool.false_ne_true] at eP'
              exact iteF ⟨s, hLG, by rw [← eP']; exact hDG, rfl⟩
        · obtain ⟨s, hLG, hDG, rfl⟩ := hM
          have suf := popT_suf t st
          have nLD : L ≠ D := fun e => by
            rw [e, s1' _ _ hD] at nL
            cases nL
          refine ⟨_, rfl, .inl ⟨rfl, _, SqL.of hDG⟩, _, rfl, D, _, t.1, rfl, rfl, hDG, small1000 (by rw [List.length_map, List.length_reverse]; have := suf.length_le; omega), t :: popT st t, _, ?_, ?_, ?_, ?_, ?_, ?_, rfl⟩
          · intro b o e
            rw [upd_ne (ne_of_none e nD)]
            exact s _ _ e
          · rw [upd_ne nLD]; exact hLG
          · rw [upd_same, List.reverse_cons, List.map_append]
            rfl
          · have := suf.length_le
            rw [List.length_cons]
            omega
          · rw [List.take_add_one, ht0, List.map_append, List.foldl_append, ← eS, List.map_cons, popT_snd]
            rfl
          · intro u m
            rcases List.mem_cons.mp m with rfl | m
            · exact mt
            · exact mS u (suf.mem m)
      · obtain ⟨st, y, s, hLG, hDG, lS, eS, mS, rfl⟩ := hq
        rw [List.length_map, List.take_length, eU] at eS
        exact ⟨st, y, s, hDG, by rw [List.map_reverse, eS]; rfl, mS, rfl⟩
    · obtain ⟨st, y, s, hDG, eS, mS, rfl⟩ := hM
      exact ⟨_, rfl, q D G _ s nD hDG eS fun t m => mS t (List.mem_reverse.mp m)⟩
end
/-! ### a = b = v -/
theorem ps_asg2 {X : Cx} {pos : Pos} {t1 t2 e : Expr} {te : TE} {g1 g2 : TG} (he : PE X e te) (h1 : PG X t1 g1) (h2 : PG X t2 g2) (ha : (assignEach [t1, t2] X.env).map (·.2) = [assign t1 X.env, assign t2 X.env] := by rfl) (hs : swappedStores [t1, t2] e X.env = pure none := by rfl) :
    PS X (.Assign [t1, t2] e pos) (fun D σ H => te σ H fun v H1 => g1 v σ H1 fun σ1 H2 => g2 v σ1 H2 D.nx) :=
  ⟨fun pins s σ H D I h => wpAny_Assign_two (thn (he.run pins s σ H _ I h) fun u s1 ⟨v, H1, I1, r, q⟩ => thn (h1.run pins s1 σ H1 v u _ I1 r q) fun _ s2 ⟨σ2, H2, I2, q2⟩ => thn (h2.run pins s2 σ2 H2 v u _ I2 r q2) fun _ s3 ⟨σ3, H3, I3, q3⟩ => ⟨σ3, H3, I3, q3⟩) ha hs⟩
theorem int0 {x : Int} (h : x = 0) : decide (V.int x = V.int 0) = true := by rw [h]; rfl
theorem int0n {x : Int} (h : x ≠ 0) : decide (V.int x = V.int 0) = false := decide_eq_false fun e => h (V.int.inj e)
abbrev O2 : Type := Option Fq × Option Fq
def OqD (o : Option Fq) : Prop := ∀ f, o = some f → 0 < f.2
structure O2Ok (k : Nat) (o : O2) : Prop where
  z1 : OqZ k o.1
  z2 : OqZ k o.2
  d1 : OqD o.1
  d2 : OqD o.2
theorem OqD.none : OqD none := fun _ e => by cases e
theorem OqD.some {f : Fq} (h : 0 < f.2) : OqD (some f) := fun _ e => by cases e; exact h
theorem pickO_d {top : Bool} {o p : Option Fq} (h1 : OqD o) (h2 : OqD p) : OqD (pickO top o p) := by
  cases p with
  | none => exact h1
  | some x => cases o with
    | none => exact h2
    | some y =>
      show OqD (if _ then some x else some y)
      by_cases c : (if top then ltF y x else ltF x y) = true
      · rw [if_pos c]; exact h2
      · rw [if_neg c]; exact h1
theorem O2Ok.mono {k m : Nat} {o : O2} (h : O2Ok k o) (l : k ≤ m) : O2Ok m o := ⟨h.z1.mono l, h.z2.mono l, h.d1, h.d2⟩
theorem RwOk.mono {k m : Nat} {r : Rw} (h : RwOk k r) (l : k ≤ m) : RwOk m r := ⟨h.toRwZ.mono l, h.w, h.d⟩
def ws1 (o : O2) (r : Rw) : O2 := if r.b = 0 then if r.a > 0 then (o.1, some r.c) else (some (-r.c.1, r.c.2), o.2) else o
def wsF (rs : List Rw) : O2 := rs.foldl ws1 (none, none)
theorem ws1_ok {k : Nat} {o : O2} {r : Rw} (h : O2Ok k o) (hr : RwOk k r) : O2Ok k (ws1 o r) := by
  unfold ws1
  split
  · split
    · exact ⟨h.z1, hr.c, h.d1, .some hr.d⟩
    · exact ⟨⟨hr.c.1.neg, hr.c.2⟩, h.z2, .some hr.d, h.d2⟩
  · exact h
theorem foldl_ok {α β : Type} {P : β → Prop} {f : β → α → β} : ∀ {xs : List α} {b : β}, P b → (∀ b x, x ∈ xs → P b → P (f b x)) → P (xs.foldl f b)
  | [], _, h, _ => h
  | x :: xs, b, h, hf => foldl_ok (xs := xs) (hf b x (.head _) h) fun b y m => hf b y (.tail _ m)
theorem wsF_ok {k : Nat} {rs : List Rw} (h : ∀ r ∈ rs, RwOk k r) : O2Ok k (wsF rs) :=
  foldl_ok ⟨trivial, trivial, .none, .none⟩ fun _ r m ho => ws1_ok ho (h r m)
theorem foldl_take {α β : Type} {f : β → α → β} {b : β} {xs : List α} {i : Nat} {x : α} (h : xs[i]? = some x) : (xs.take (i + 1)).foldl f b = f ((xs.take i).foldl f b) x := by
  rw [List.take_add_one, h, List.foldl_append]
  rfl
/-- what is given as the rows of a def -/
structure TsOk (K : PySem.W.Frag) (H : Hp) (k : Nat) (T : List VR) : Prop where
  r : Rs K H T
  o : ∀ t ∈ T, RwOk k t.2
theorem TsOk.same {K : PySem.W.Frag} {H H' : Hp} {k : Nat} {T : List VR} (h : TsOk K H k T) (s : Same H H') : TsOk K H' k T := ⟨h.r.same s, h.o⟩
theorem TsOk.rows {K : PySem.W.Frag} {H : Hp} {k : Nat} {T : List VR} (h : TsOk K H k T) : ∀ r ∈ T.map Prod.snd, RwOk k r := fun r m => by
  obtain ⟨t, m2, rfl⟩ := List.mem_map.mp m
  exact h.o t m2
section
variable {P : Program} {w : World} {K : PySem.W.Frag} {mg : Str → Option Value} {base : Heap} {fa : Nat → Addr} {fd : Nat → FuncData}
def spWalls (K : PySem.W.Frag) : Sp := fun vs H Q _ => ∃ (p : Addr) (T : List VR) (k : Nat), vs = [.ref p] ∧ SqL K H p (T.map Prod.fst) ∧ TsOk K H k T ∧
  ∀ q H' v u, Same H H' → H' q = some (.tup [v, u]) → OqV K H' v (wsF (T.map Prod.snd)).1 → OqV K H' u (wsF (T.map Prod.snd)).2 → Q (.ref q) H'
theorem ok_p_wall_stretch (T : Txt K mg fa fd) : FnOk P w K mg base CX0 1 (fa 36) (fd 36) ["rows"] (spWalls K) := by
  refine T.F_p_wall_stretch.ok sc_p_wall_stretch (fun vs H Q E h => ?_) (fun cdv A outer s H vs Q E hr h => ?_)
  · obtain ⟨p, ts, k, rfl, _⟩ := h
    rfl
  · obtain ⟨p, ts, k, rfl, hp, hts, q⟩ := h
    refine ⟨_, (C8.pss_cut (ps_asg2 pe_non (pg_name (i := 1) sc_p_wall_stretch.nd rfl (.inl rfl)) (pg_name (i := 2) sc_p_wall_stretch.nd rfl (.inl rfl)))
      (C8.pss_cut (ps_for PassesOwn.never rfl (pi_list (pv 0)) (pg_tup (by rfl) (pgs_cons (pg_name (i := 3) sc_p_wall_stretch.nd rfl (.inl rfl)) (pgs_cons (pg_name (i := 4) sc_p_wall_stretch.nd rfl (.inl rfl)) (pgs_cons (pg_name (i := 5) sc_p_wall_stretch.nd rfl (.inl rfl)) pgs_nil)))) (pss_one (ps_if (PW.pt (pw_and (pt_cmpR op_eq (pv 4) pe_int (nomark _)) (pw_and1 (pt_cmpR op_gt (pv 3) pe_int (nomark _))))) (pss_one (ps_set (i := 2) sc_p_wall_stretch.nd rfl (.inl rfl) (pv 5))) (pss_one (ps_if (pt_cmpR op_eq (pv 4) pe_int (nomark _)) (pss_one (ps_set (i := 1) sc_p_wall_stretch.nd rfl (.inl rfl) (pe_tup (pa_cons (pe_un un_neg (pe_ix ix_tup (pv 5) pe_int (fun _ _ => rfl))) (pa_cons (pe_ix ix_tup (pv 5) pe_int (fun _ _ => rfl)) pa_nil))))) pss_nil)))))
      (pss_one (ps_ret (pe_tup (pa_cons (pv 1) (pa_cons (pv 2) pa_nil))))))), ?_⟩
    refine ⟨fun σ G => G = H ∧ σ = [some (.ref p), some .non, some .non, none, none, none], ?_, fun σ G hM => ?_⟩
    · exact ⟨rfl, rfl⟩
    obtain ⟨rfl, rfl⟩ := hM
    refine ⟨fun σ G' => ∃ v u x1 x2 x3, Same G G' ∧ OqV K G' v (wsF (ts.map Prod.snd)).1 ∧ OqV K G' u (wsF (ts.map Prod.snd)).2 ∧ σ = [some (.ref p), some v, some u, x1, x2, x3], ?_, fun σ G' hM => ?_⟩
    · refine ⟨_, rfl, p, rfl, ⟨_, hp⟩, for_list (K := K) (a := p) (xs := ts.map Prod.fst) (fun i σ G' => ∃ v u x1 x2 x3, Same G G' ∧ OqV K G' v (wsF ((ts.map Prod.snd).take i)).1 ∧ OqV K G' u (wsF ((ts.map Prod.snd).take i)).2 ∧ σ = [some (.ref p), some v, some u, x1, x2, x3]) ⟨_, _, none, none, none, fun _ _ e => e, rfl, rfl, rfl⟩ (fun i σ G' _ hq => ?_) (fun i x σ G' hx hq => ?_) (fun σ G' hq => ?_)⟩
      · obtain ⟨_, _, _, _, _, s, _⟩ := hq
        exact SqL_sm s hp
      · obtain ⟨v, u, x1, x2, x3, s, hv, hu, rfl⟩ := hq
        rw [List.getElem?_map] at hx
        obtain ⟨t, ht0, rfl⟩ := Option.map_eq_some_iff.mp hx
        obtain ⟨pt, ct, et, hpt, pc, ect, hct⟩ := (hts.r t (List.mem_of_getElem? ht0)).same s
        have eT : wsF ((ts.map Prod.snd).take (i + 1)) = ws1 (wsF ((ts.map Prod.snd).take i)) t.2 := foldl_take (by rw [List.getElem?_map, ht0]; rfl)
        rw [eT, et]
        refine ⟨pt, _, rfl, hpt, rfl, _, _, rfl, _, _, rfl, _, _, rfl, rfl, ?_⟩
        rw [ect]
        unfold ws1
        refine ⟨_, rfl, rfl, _, rfl, ?_⟩
        by_cases cb : t.2.b = 0
        · rw [if_pos cb]
          refine iteTq (int0 cb) ⟨_, rfl, _, _, rfl, rfl, _, rfl, ?_⟩
          by_cases ca : t.2.a > 0
          · rw [if_pos ca]
            exact iteTq (decide_eq_true ca) ⟨_, rfl, _, _, _, _, _, s, hv, ⟨pc, rfl, hct⟩, rfl⟩
          · rw [if_neg ca]
            refine iteFq (decide_eq_false ca) ⟨_, rfl, rfl, _, rfl, iteTq (int0 cb) ⟨_, rfl, pc, _, _, _, rfl, rfl, hct, t0, _, rfl, _, rfl, pc, _, _, _, rfl, rfl, hct, t1, two_line, fun y ny => ?_⟩⟩
            have sy := same_upd (o := .tup [V.int (-t.2.c.1), .int t.2.c.2]) ny
            exact ⟨_, _, _, _, _, s.trans sy, ⟨y, rfl, SqT.of upd_same⟩, hu.same sy, rfl⟩
        · rw [if_neg cb]
          exact iteFq (int0n cb) ⟨_, rfl, rfl, _, rfl, iteFq (int0n cb) ⟨_, _, _, _, _, s, hv, hu, rfl⟩⟩
      · obtain ⟨v, u, x1, x2, x3, s, hv, hu, rfl⟩ := hq
        rw [List.length_map, ← List.length_map (f := Prod.snd), List.take_length] at hv hu
        exact ⟨v, u, x1, x2, x3, s, hv, hu, rfl⟩
    · obtain ⟨v, u, x1, x2, x3, s, hv, hu, rfl⟩ := hM
      exact ⟨_, rfl, _, rfl, two_line, fun y ny => q y _ v u (s.trans (same_upd ny)) upd_same (hv.same (same_upd ny)) (hu.same (same_upd ny))⟩
end
theorem int1 {x : Int} (h : x ≠ 0) : (!decide (V.int x = V.int 0)) = true := by rw [int0n h]; rfl
theorem int1n {x : Int} (h : x = 0) : (!decide (V.int x = V.int 0)) = false := by rw [int0 h]; rfl
def sbF (x : Fq) (r : Rw) : Fq := looseF (r.c.1 * x.2 - r.a * x.1 * r.c.2) (r.c.2 * x.2 * r.b)
def sbO (x : Fq) (r : Rw) : Option Fq := if r.b ≠ 0 then some (sbF x r) else none
def sn1 (x : Fq) (o : O2) (r : Rw) : O2 := if r.b > 0 then (o.1, pickO false o.2 (sbO x r)) else (pickO true o.1 (sbO x r), o.2)
def snF (rs : List Rw) (x : Fq) : O2 := rs.foldl (sn1 x) (none, none)
def lowO (o : O2) : O2 := (o.1.map lowR, o.2.map lowR)
theorem looseD {t u : Int} (h : u ≠ 0) : 0 < (looseF t u).2 := by
  unfold looseF
  split
  · show 0 < -u
    omega
  · show 0 < u
    omega
theorem OqD.low {o : Option Fq} (h : OqD o) : OqD (o.map lowR) := by
  cases o with
  | none => exact .none
  | some f => exact .some (lowR_pos (h f rfl))
theorem OqZ.low {k : Nat} {o : Option Fq} (h : OqZ k o) (d : OqD o) : OqZ k (o.map lowR) := by
  cases o with
  | none => trivial
  | some f => exact lowRZ (show FqZ k f from h) (by have := d f rfl; omega)
theorem O2Ok.low {k : Nat} {o : O2} (h : O2Ok k o) : O2Ok k (lowO o) := ⟨h.z1.low h.d1, h.z2.low h.d2, h.d1.low, h.d2.low⟩
theorem sbZ {m X : Nat} {x : Fq} {r : Rw} (hr : RwOk m r) (hx : FqZ X x) : FqZ (2 * m + X + 1) (sbF x r) := by
  refine looseZ ?_ ?_
  · exact (((hr.c.1.mul hx.2).mono (m := 2 * m + X) (by omega)).sub (((hr.a.mul hx.1).mul hr.c.2).mono (m := 2 * m + X) (by omega)))
  · exact ((hr.c.2.mul hx.2).mul hr.b).mono (by omega)
theorem sbOZ {m X : Nat} {x : Fq} {r : Rw} (hr : RwOk m r) (hx : FqZ X x) (hd : 0 < x.2) : OqZ (2 * m + X + 1) (sbO x r) ∧ OqD (sbO x r) := by
  unfold sbO
  by_cases c : r.b ≠ 0
  · rw [if_pos c]
    exact ⟨sbZ hr hx, .some (looseD (Int.mul_ne_zero (Int.mul_ne_zero (by have := hr.d; omega) (by omega)) c))⟩
  · rw [if_neg c]
    exact ⟨trivial, .none⟩
theorem sn1_ok {m X : Nat} {x : Fq} {o : O2} {r : Rw} (h : O2Ok (2 * m + X + 1) o) (hr : RwOk m r) (hx : FqZ X x) (hd : 0 < x.2) : O2Ok (2 * m + X + 1) (sn1 x o r) := by
  obtain ⟨z, d⟩ := sbOZ hr hx hd
  unfold sn1
  split
  · exact ⟨h.z1, pickO_z h.z2 z, h.d1, pickO_d h.d2 d⟩
  · exact ⟨pickO_z h.z1 z, h.z2, pickO_d h.d1 d, h.d2⟩
theorem snF_ok {m X : Nat} {x : Fq} {rs : List Rw} (h : ∀ r ∈ rs, RwOk m r) (hx : FqZ X x) (hd : 0 < x.2) : O2Ok (2 * m + X + 1) (snF rs x) :=
  foldl_ok ⟨trivial, trivial, .none, .none⟩ fun _ r i ho => sn1_ok ho (h r i) hx hd
section
variable {P : Program} {w : World} {K : PySem.W.Frag} {mg : Str → Option Value} {base : Heap} {fa : Nat → Addr} {fd : Nat → FuncData}
def spSecond (K : PySem.W.Frag) : Sp := fun vs H Q _ => ∃ (p : Addr) (xv : V) (T : List VR) (x : Fq) (m X : Nat), vs = [.ref p, xv] ∧ SqL K H p (T.map Prod.fst) ∧ TsOk K H m T ∧ FqV K H xv x ∧ FqZ X x ∧ 0 < x.2 ∧ 2 * m + X + 1 ≤ 4096 ∧
  ∀ q H' v u, Same H H' → H' q = some (.tup [v, u]) → OqV K H' v (lowO (snF (T.map Prod.snd) x)).1 → OqV K H' u (lowO (snF (T.map Prod.snd) x)).2 → Q (.ref q) H'
theorem ok_p_second_numbers (T : Txt K mg fa fd) : FnOk P w K mg base CX0 5 (fa 38) (fd 38) ["rows", "x"] (spSecond K) := by
  refine T.F_p_second_numbers.ok sc_p_second_numbers (fun vs H Q E h => ?_) (fun cdv A outer s H vs Q E hr h => ?_)
  · obtain ⟨p, xv, ts, x, m, X, rfl, _⟩ := h
    rfl
  · obtain ⟨p, xv, ts, x, m, X, rfl, hp, hts, ⟨px, rfl, hx⟩, zx, dx, hs, q⟩ := h
    refine ⟨_, (C8.pss_cut (ps_asg2 pe_non (pg_name (i := 2) sc_p_second_numbers.nd rfl (.inl rfl)) (pg_name (i := 3) sc_p_second_numbers.nd rfl (.inl rfl)))
      (C8.pss_cut (ps_for PassesOwn.never rfl (pi_list (pv 0)) (pg_tup (by rfl) (pgs_cons (pg_name (i := 4) sc_p_second_numbers.nd rfl (.inl rfl)) (pgs_cons (pg_name (i := 5) sc_p_second_numbers.nd rfl (.inl rfl)) (pgs_cons (pg_name (i := 6) sc_p_second_numbers.nd rfl (.inl rfl)) pgs_nil)))) (C8.pss_cut (ps_set (i := 7) sc_p_second_numbers.nd rfl (.inl rfl) (pe_ifExp (pt_cmpR op_ne (pv 5) pe_int (nomark _)) (pe_call (ok_p_loose T) (hr.mono (by decide)) (by rfl) T.g_p_loose T.F_p_loose.kp T.b_p_loose .nil pass0 (pa_cons (pe_op op_sub (pe_op op_mulW (pe_ix ix_tup (pv 6) pe_int (fun _ _ => rfl)) (pe_ix ix_tup (pv 1) pe_int (fun _ _ => rfl))) (pe_op op_mulW (pe_op op_mulW (pv 4) (pe_ix ix_tup (pv 1) pe_int (fun _ _ => rfl))) (pe_ix ix_tup (pv 6) pe_int (fun _ _ => rfl)))) (pa_cons (pe_op op_mulW (pe_op op_mulW (pe_ix ix_tup (pv 6) pe_int (fun _ _ => rfl)) (pe_ix ix_tup (pv 1) pe_int (fun _ _ => rfl))) (pv 5)) pa_nil))) pe_non))
      (pss_one (ps_if (pt_cmpR op_gt (pv 5) pe_int (nomark _)) (pss_one (ps_set (i := 3) sc_p_second_numbers.nd rfl (.inl rfl) (pe_callR (ok_p_least T) (hr.mono (by decide)) (by rfl) T.g_p_least T.F_p_least.kp pass0 (pa_cons (pv 3) (pa_cons (pv 7) pa_nil))))) (pss_one (ps_set (i := 2) sc_p_second_numbers.nd rfl (.inl rfl) (pe_callR (ok_p_greatest T) (hr.mono (by decide)) (by rfl) T.g_p_greatest T.F_p_greatest.kp pass0 (pa_cons (pv 2) (pa_cons (pv 7) pa_nil)))))))))
      (pss_one (ps_ret (pe_tup (pa_cons (pe_call (ok_p_lowest T) (hr.mono (by decide)) (by rfl) T.g_p_lowest T.F_p_lowest.kp T.b_p_lowest .nil pass0 (pa_cons (pv 2) pa_nil)) (pa_cons (pe_call (ok_p_lowest T) (hr.mono (by decide)) (by rfl) T.g_p_lowest T.F_p_lowest.kp T.b_p_lowest .nil pass0 (pa_cons (pv 3) pa_nil)) pa_nil))))))), ?_⟩
    refine ⟨fun σ G => G = H ∧ σ = [some (.ref p), some (.ref px), some .non, some .non, none, none, none, none], ⟨rfl, rfl⟩, fun σ G hM => ?_⟩
    obtain ⟨rfl, rfl⟩ := hM
    refine ⟨fun σ G' => ∃ v u x1 x2 x3 x4, Same G G' ∧ OqV K G' v (snF (ts.map Prod.snd) x).1 ∧ OqV K G' u (snF (ts.map Prod.snd) x).2 ∧ σ = [some (.ref p), some (.ref px), some v, some u, x1, x2, x3, x4], ?_, fun σ G' hM => ?_⟩
    · refine ⟨_, rfl, p, rfl, ⟨_, hp⟩, for_list (K := K) (a := p) (xs := ts.map Prod.fst) (fun i σ G' => ∃ v u x1 x2 x3 x4, Same G G' ∧ OqV K G' v (snF ((ts.map Prod.snd).take i) x).1 ∧ OqV K G' u (snF ((ts.map Prod.snd).take i) x).2 ∧ σ = [some (.ref p), some (.ref px), some v, some u, x1, x2, x3, x4]) ⟨_, _, none, none, none, none, fun _ _ e => e, rfl, rfl, rfl⟩ (fun i σ G' _ hq => ?_) (fun i y σ G' hy hq => ?_) (fun σ G' hq => ?_)⟩
      · obtain ⟨_, _, _, _, _, _, s, _⟩ := hq
        exact SqL_sm s hp
      · obtain ⟨v, u, x1, x2, x3, x4, s, hv, hu, rfl⟩ := hq
        rw [List.getElem?_map] at hy
        obtain ⟨t, ht0, rfl⟩ := Option.map_eq_some_iff.mp hy
        have ok := hts.o t (List.mem_of_getElem? ht0)
        obtain ⟨pt, ct, et, hpt, pc, ect, hct⟩ := (hts.r t (List.mem_of_getElem? ht0)).same s
        have eT : snF ((ts.map Prod.snd).take (i + 1)) x = sn1 x (snF ((ts.map Prod.snd).take i) x) t.2 := foldl_take (by rw [List.getElem?_map, ht0]; rfl)
        have hO : O2Ok (2 * m + X + 1) (snF ((ts.map Prod.snd).take i) x) := snF_ok (fun r hr => hts.rows r (List.mem_of_mem_take hr)) zx dx
        rw [eT, et]
        generalize snF ((ts.map Prod.snd).take i) x = o at hv hu hO
        have hx' := SqT_sm s hx
        refine ⟨pt, _, rfl, hpt, rfl, _, _, rfl, _, _, rfl, _, _, rfl, rfl, ?_⟩
        rw [ect]
        refine ⟨fun σ G2 => ∃ bv, Same G' G2 ∧ OqV K G2 bv (sbO x t.2) ∧ σ = [some (.ref p), some (.ref px), some v, some u, some (.int t.2.a), some (.int t.2.b), some (.ref pc), some bv], ?_, fun σ G2 hM => ?_⟩
        · refine ⟨_, rfl, rfl, _, rfl, ?_⟩
          unfold sbO
          by_cases cb : t.2.b ≠ 0
          · rw [if_pos cb]
            refine iteTq (int1 cb) ⟨_, rfl, pc, _, _, _, rfl, rfl, hct, t0, _, rfl, px, _, _, _, rfl, rfl, hx', t1, _, _, rfl, rfl, mulW ok.c.1 zx.2 (by omega),
              _, rfl, _, rfl, px, _, _, _, rfl, rfl, hx', t0, _, _, rfl, rfl, mulW ok.a zx.1 (by omega), _, rfl, pc, _, _, _, rfl, rfl, hct, t1, _, _, rfl, rfl, mulW (ok.a.mul zx.1) ok.c.2 (by omega), _, _, rfl, rfl,
              _, rfl, pc, _, _, _, rfl, rfl, hct, t1, _, rfl, px, _, _, _, rfl, rfl, hx', t1, _, _, rfl, rfl, mulW ok.c.2 zx.2 (by omega), _, rfl, _, _, rfl, rfl, mulW (ok.c.2.mul zx.2) ok.b (by omega), _, _, rfl, fun y ny => ⟨_, same_upd ny, ⟨y, rfl, SqT.of upd_same⟩, rfl⟩⟩
          · rw [if_neg cb]
            exact iteFq (int1n (Decidable.not_not.mp cb)) ⟨_, fun _ _ e => e, rfl, rfl⟩
        · obtain ⟨bv, s2, hb, rfl⟩ := hM
          obtain ⟨zb, db⟩ := sbOZ ok zx dx
          unfold sn1
          refine ⟨_, rfl, _, _, rfl, rfl, _, rfl, ?_⟩
          by_cases cb : t.2.b > 0
          · rw [if_pos cb]
            exact iteTq (decide_eq_true cb) ⟨_, rfl, _, rfl, _, _, _, _, 2 * m + X + 1, rfl, hu.same s2, hb, hO.z2, zb, by omega, fun y H3 s3 hy => ⟨_, _, _, _, _, _, (s.trans s2).trans s3, hv.same (s2.trans s3), hy, rfl⟩⟩
          · rw [if_neg cb]
            exact iteFq (decide_eq_false cb) ⟨_, rfl, _, rfl, _, _, _, _, 2 * m + X + 1, rfl, hv.same s2, hb, hO.z1, zb, by omega, fun y H3 s3 hy => ⟨_, _, _, _, _, _, (s.trans s2).trans s3, hy, hu.same (s2.trans s3), rfl⟩⟩
      · obtain ⟨v, u, x1, x2, x3, x4, s, hv, hu, rfl⟩ := hq
        rw [List.length_map, ← List.length_map (f := Prod.snd), List.take_length] at hv hu
        exact ⟨v, u, x1, x2, x3, x4, s, hv, hu, rfl⟩
    · obtain ⟨v, u, x1, x2, x3, x4, s, hv, hu, rfl⟩ := hM
      have hO : O2Ok (2 * m + X + 1) (snF (ts.map Prod.snd) x) := snF_ok hts.rows zx dx
      refine ⟨_, rfl, v, _, rfl, hv, fun f e => ⟨by have := hO.d1 f e; omega, by have := hO.z1; rw [e] at this; exact FqZ.mono this hs⟩, fun v' H3 s3 hv' => ?_⟩
      refine ⟨_, rfl, u, _, rfl, hu.same s3, fun f e => ⟨by have := hO.d2 f e; omega, by have := hO.z2; rw [e] at this; exact FqZ.mono this hs⟩, fun u' H4 s4 hu' => ?_⟩
      exact ⟨two_line, fun y ny => q y _ v' u' (((s.trans s3).trans s4).trans (same_upd ny)) upd_same (hv'.same (s4.trans (same_upd ny))) (hu'.same (same_upd ny))⟩
end
def fbF (r s : Rw) : Int := s.c.1 * r.c.2 * r.b - r.c.1 * s.c.2 * s.b
def fn1 (r : Rw) (o : O2) (s : Rw) : Option O2 :=
  if crossR s r > 0 then some (o.1, pickO false o.2 (some (fbF r s, crossR s r * r.c.2 * s.c.2)))
  else if crossR s r < 0 then some (pickO true o.1 (some (-fbF r s, -crossR s r * r.c.2 * s.c.2)), o.2)
  else if fbF r s < 0 then none else some o
def fn2 (r : Rw) (o : Option O2) (s : Rw) : Option O2 := o.bind fun o => fn1 r o s
def fn3 (floors : List Rw) (o : Option O2) (r : Rw) : Option O2 := floors.foldl (fn2 r) o
def apart : O2 → Bool
  | (some l, some t) => ltF t l
  | _ => false
def fnF (rows tops floors : List Rw) : Option O2 := (tops.foldl (fn3 floors) (some (wsF rows))).bind fun o => if apart o = true then none else some (lowO o)
theorem fold_none {α β : Type} {f : Option β → α → Option β} (h : ∀ x, f none x = none) : ∀ xs : List α, xs.foldl f none = none
  | [] => rfl
  | x :: xs => by rw [List.foldl_cons, h, fold_none h xs]
theorem fold_fail {α β : Type} {f : Option β → α → Option β} (h : ∀ x, f none x = none) {xs : List α} {b : Option β} {i : Nat} {x : α} (hx : xs[i]? = some x) (e : f ((xs.take i).foldl f b) x = none) : xs.foldl f b = none := by
  have e1 := foldl_take (f := f) (b := b) hx
  rw [e] at e1
  have : xs = xs.take (i + 1) ++ xs.drop (i + 1) := (List.take_append_drop _ _).symm
  rw [this, List.foldl_append, e1, fold_none h]
theorem fn3_none (floors : List Rw) (r : Rw) : fn3 floors none r = none := fold_none (fun _ => rfl) floors
theorem fbZ {m : Nat} {r s : Rw} (hr : RwOk m r) (hs : RwOk m s) : Lz (4 * m + 1) (fbF r s) := (((hs.c.1.mul hr.c.2).mul hr.b).sub ((hr.c.1.mul hs.c.2).mul hs.b)).mono (by omega)
theorem fdZ {m : Nat} {r s : Rw} (hr : RwOk m r) (hs : RwOk m s) : Lz (4 * m + 1) (crossR s r * r.c.2 * s.c.2) := (((crossZ hs.toRwZ hr.toRwZ).mul hr.c.2).mul hs.c.2).mono (by omega)
theorem fn1_ok {m : Nat} {r s : Rw} {o o' : O2} (h : O2Ok (4 * m + 1) o) (hr : RwOk m r) (hs : RwOk m s) (e : fn1 r o s = some o') : O2Ok (4 * m + 1) o' := by
  unfold fn1 at e
  have pp : 0 < r.c.2 * s.c.2 := Int.mul_pos hr.d hs.d
  split at e
  · rename_i c
    cases e
    exact ⟨h.z1, pickO_z h.z2 (show OqZ _ (some _) from ⟨fbZ hr hs, fdZ hr hs⟩), h.d1, pickO_d h.d2 (.some (Int.mul_pos (Int.mul_pos c hr.d) hs.d))⟩
  · split at e
    · rename_i c
      cases e
      refine ⟨pickO_z h.z1 (show OqZ _ (some _) from ⟨(fbZ hr hs).neg, ?_⟩), h.z2, pickO_d h.d1 (.some (Int.mul_pos (Int.mul_pos (by omega) hr.d) hs.d)), h.d2⟩
      have := (fdZ hr hs).neg
      rwa [← Int.neg_mul, ← Int.neg_mul] at this
    · split at e
      · cases e
      · cases e
        exact h
theorem fold_ok {α β : Type} {P : β → Prop} {f : Option β → α → Option β} (h0 : ∀ x, f none x = none) : ∀ {xs : List α} {b : Option β} {o : β}, (∀ o, b = some o → P o) → (∀ o o' x, x ∈ xs → P o → f (some o) x = some o' → P o') → xs.foldl f b = some o → P o
  | [], b, o, hb, _, e => hb o e
  | x :: xs, b, o, hb, hf, e => by
    rw [List.foldl_cons] at e
    refine fold_ok h0 (xs := xs) (b := f b x) (fun o1 e1 => ?_) (fun o o' y m => hf o o' y (.tail _ m)) e
    cases b with
    | none => rw [h0] at e1; cases e1
    | some o2 => exact hf o2 o1 x (.head _) (hb o2 rfl) e1
theorem fn3_ok {m : Nat} {fl : List Rw} {r : Rw} {o o' : O2} (h : O2Ok (4 * m + 1) o) (hr : RwOk m r) (hf : ∀ s ∈ fl, RwOk m s) (e : fn3 fl (some o) r = some o') : O2Ok (4 * m + 1) o' :=
  fold_ok (P := O2Ok (4 * m + 1)) (fun _ => rfl) (fun o1 e1 => by cases e1; exact h) (fun o o' x mx ho e => fn1_ok ho hr (hf x mx) e) e
theorem fns_ok {m : Nat} {rs tp fl : List Rw} {o : O2} (h : ∀ r ∈ rs, RwOk m r) (ht : ∀ s ∈ tp, RwOk m s) (hf : ∀ s ∈ fl, RwOk m s) (e : tp.foldl (fn3 fl) (some (wsF rs)) = some o) : O2Ok (4 * m + 1) o :=
  fold_ok (P := O2Ok (4 * m + 1)) (fn3_none fl) (fun o1 e1 => by cases e1; exact (wsF_ok h).mono (by omega)) (fun o o' x mx ho e => fn3_ok ho (ht x mx) hf e) e
theorem fnF_ok {m : Nat} {rs tp fl : List Rw} {o : O2} (h : ∀ r ∈ rs, RwOk m r) (ht : ∀ s ∈ tp, RwOk m s) (hf : ∀ s ∈ fl, RwOk m s) (e : fnF rs tp fl = some o) : O2Ok (4 * m + 1) o := by
  unfold fnF at e
  cases c : tp.foldl (fn3 fl) (some (wsF rs)) with
  | none => rw [c] at e; cases e
  | some o1 =>
    rw [c] at e
    have e : (if apart o1 = true then none else some (lowO o1)) = some o := e
    split at e
    · cases e
    · cases e
      exact (fns_ok h ht hf c).low
section
variable {P : Program} {w : World} {K : PySem.W.Frag} {mg : Str → Option Value} {base : Heap} {fa : Nat → Addr} {fd : Nat → FuncData}
def spFirst (K : PySem.W.Frag) : Sp := fun vs H Q _ => ∃ (p pt pf : Addr) (T T1 T2 : List VR) (m : Nat), vs = [.ref p, .ref pt, .ref pf] ∧ SqL K H p (T.map Prod.fst) ∧ TsOk K H m T ∧ SqL K H pt (T1.map Prod.fst) ∧ TsOk K H m T1 ∧ SqL K H pf (T2.map Prod.fst) ∧ TsOk K H m T2 ∧ 4 * m + 1 ≤ 4096 ∧
  (fnF (T.map Prod.snd) (T1.map Prod.snd) (T2.map Prod.snd) = none → ∀ H', Same H H' → Q .non H') ∧
  ∀ o, fnF (T.map Prod.snd) (T1.map Prod.snd) (T2.map Prod.snd) = some o → ∀ q H' v u, Same H H' → H' q = some (.tup [v, u]) → OqV K H' v o.1 → OqV K H' u o.2 → Q (.ref q) H'
theorem ok_p_first_numbers (T : Txt K mg fa fd) : FnOk P w K mg base CX0 5 (fa 37) (fd 37) ["rows", "tops", "floors"] (spFirst K) := by
  refine T.F_p_first_numbers.ok sc_p_first_numbers (fun vs H Q E h => ?_) (fun cdv A outer s H vs Q E hr h => ?_)
  · obtain ⟨p, pt, pf, T, T1, T2, m, rfl, _⟩ := h
    rfl
  · obtain ⟨p, pt, pf, ts, tp, fl, m, rfl, hp, hts, hpt, htp, hpf, hfl, hm, qn, q⟩ := h
    refine ⟨_, (C8.pss_cut (ps_asg (pe_call (ok_p_wall_stretch T) (hr.mono (by decide)) (by rfl) T.g_p_wall_stretch T.F_p_wall_stretch.kp T.b_p_wall_stretch .nil pass0 (pa_cons (pv 0) pa_nil)) (pg_tup (by rfl) (pgs_cons (pg_name (i := 3) sc_p_first_numbers.nd rfl (.inl rfl)) (pgs_cons (pg_name (i := 4) sc_p_first_numbers.nd rfl (.inl rfl)) pgs_nil))))
      (C8.pss_cut (ps_for PassesOwn.never rfl (pi_list (pv 1)) (pg_name (i := 5) sc_p_first_numbers.nd rfl (.inl rfl)) (pss_one (ps_for PassesOwn.never rfl (pi_list (pv 2)) (pg_name (i := 6) sc_p_first_numbers.nd rfl (.inl rfl)) (C8.pss_cut (ps_par (i := 7) (j := 8) (by rfl) sc_p_first_numbers.nd rfl rfl (by decide) rfl rfl (pa_cons (pe_ix ix_tup (pv 5) pe_int (fun _ _ => rfl)) (pa_cons (pe_ix ix_tup (pv 6) pe_int (fun _ _ => rfl)) pa_nil)) (by rfl))
      (C8.pss_cut (ps_set (i := 9) sc_p_first_numbers.nd rfl (.inl rfl) (pe_call (ok_p_cross T) (hr.mono (by decide)) (by rfl) T.g_p_cross T.F_p_cross.kp T.b_p_cross .nil pass0 (pa_cons (pv 6) (pa_cons (pv 5) pa_nil))))
      (C8.pss_cut (ps_set (i := 10) sc_p_first_numbers.nd rfl (.inl rfl) (pe_op op_sub (pe_op op_mulW (pe_op op_mulW (pe_ix ix_tup (pv 8) pe_int (fun _ _ => rfl)) (pe_ix ix_tup (pv 7) pe_int (fun _ _ => rfl))) (pe_ix ix_tup (pv 5) pe_int (fun _ _ => rfl))) (pe_op op_mulW (pe_op op_mulW (pe_ix ix_tup (pv 7) pe_int (fun _ _ => rfl)) (pe_ix ix_tup (pv 8) pe_int (fun _ _ => rfl))) (pe_ix ix_tup (pv 6) pe_int (fun _ _ => rfl)))))
      (pss_one (ps_if (pt_cmpR op_gt (pv 9) pe_int (nomark _)) (pss_one (ps_set (i := 4) sc_p_first_numbers.nd rfl (.inl rfl) (pe_callR (ok_p_least T) (hr.mono (by decide)) (by rfl) T.g_p_least T.F_p_least.kp pass0 (pa_cons (pv 4) (pa_cons (pe_tup (pa_cons (pv 10) (pa_cons (pe_op op_mulW (pe_op op_mulW (pv 9) (pe_ix ix_tup (pv 7) pe_int (fun _ _ => rfl))) (pe_ix ix_tup (pv 8) pe_int (fun _ _ => rfl))) pa_nil))) pa_nil))))) (pss_one (ps_if (pt_cmpR op_lt (pv 9) pe_int (nomark _)) (pss_one (ps_set (i := 3) sc_p_first_numbers.nd rfl (.inl rfl) (pe_callR (ok_p_greatest T) (hr.mono (by decide)) (by rfl) T.g_p_greatest T.F_p_greatest.kp pass0 (pa_cons (pv 3) (pa_cons (pe_tup (pa_cons (pe_un un_neg (pv 10)) (pa_cons (pe_op op_mulW (pe_op op_mulW (pe_un un_neg (pv 9)) (pe_ix ix_tup (pv 7) pe_int (fun _ _ => rfl))) (pe_ix ix_tup (pv 8) pe_int (fun _ _ => rfl))) pa_nil))) pa_nil))))) (pss_one (ps_if (pt_cmpR op_lt (pv 10) pe_int (nomark _)) (pss_one (ps_ret pe_non)) pss_nil))))))))))))
      (C8.pss_cut (ps_if (PW.pt (pw_and (pt_cmpR op_notN (pv 3) pe_non (nomark _)) (pw_and (pt_cmpR op_notN (pv 4) pe_non (nomark _)) (pw_and1 (pt_val (pe_call (ok_p_is_less T) (hr.mono (by decide)) (by rfl) T.g_p_is_less T.F_p_is_less.kp T.b_p_is_less .nil pass0 (pa_cons (pv 4) (pa_cons (pv 3) pa_nil)))))))) (pss_one (ps_ret pe_non)) pss_nil)
      (pss_one (ps_ret (pe_tup (pa_cons (pe_call (ok_p_lowest T) (hr.mono (by decide)) (by rfl) T.g_p_lowest T.F_p_lowest.kp T.b_p_lowest .nil pass0 (pa_cons (pv 3) pa_nil)) (pa_cons (pe_call (ok_p_lowest T) (hr.mono (by decide)) (by rfl) T.g_p_lowest T.F_p_lowest.kp T.b_p_lowest .nil pass0 (pa_cons (pv 4) pa_nil)) pa_nil)))))))), ?_⟩
    refine ⟨fun σ G => ∃ v u, Same H G ∧ OqV K G v (wsF (ts.map Prod.snd)).1 ∧ OqV K G u (wsF (ts.map Prod.snd)).2 ∧ σ = [some (.ref p), some (.ref pt), some (.ref pf), some v, some u, none, none, none, none, none, none], ?_, fun σ G hM => ?_⟩
    · exact ⟨_, rfl, p, ts, m, rfl, hp, hts, fun y G v u s hy hv hu => ⟨y, _, rfl, SqT.of hy, rfl, _, _, rfl, _, _, rfl, rfl, v, u, s, hv, hu, rfl⟩⟩
    obtain ⟨v0, u0, s0, hv0, hu0, rfl⟩ := hM
    refine ⟨fun σ G => ∃ o v u x1 x2 x3 x4 x5 x6, Same H G ∧ (tp.map Prod.snd).foldl (fn3 (fl.map Prod.snd)) (some (wsF (ts.map Prod.snd))) = some o ∧ OqV K G v o.1 ∧ OqV K G u o.2 ∧ σ = [some (.ref p), some (.ref pt), some (.ref pf), some v, some u, x1, x2, x3, x4, x5, x6], ?_, fun σ G hM => ?_⟩
    · refine ⟨_, rfl, pt, rfl, ⟨_, SqL_sm s0 hpt⟩, for_list (K := K) (a := pt) (xs := tp.map Prod.fst) (fun i σ G => ∃ o v u x1 x2 x3 x4 x5 x6, Same H G ∧ ((tp.map Prod.snd).take i).foldl (fn3 (fl.map Prod.snd)) (some (wsF (ts.map Prod.snd))) = some o ∧ OqV K G v o.1 ∧ OqV K G u o.2 ∧ σ = [some (.ref p), some (.ref pt), some (.ref pf), some v, some u, x1, x2, x3, x4, x5, x6]) ⟨_, v0, u0, none, none, none, none, none, none, s0, rfl, hv0, hu0, rfl⟩ (fun i σ G _ hq => ?_) (fun i y σ G hy hq => ?_) (fun σ G hq => ?_)⟩
      · obtain ⟨_, _, _, _, _, _, _, _, _, s, _⟩ := hq
        exact SqL_sm s hpt
      · obtain ⟨o, v, u, x1, x2, x3, x4, x5, x6, s, eo, hv, hu, rfl⟩ := hq
        rw [List.getElem?_map] at hy
        obtain ⟨t, ht0, rfl⟩ := Option.map_eq_some_iff.mp hy
        have mt := List.mem_of_getElem? ht0
        have ok := htp.o t mt
        have hO : O2Ok (4 * m + 1) o := fns_ok hts.rows (fun r hr => htp.rows r (List.mem_of_mem_take hr)) hfl.rows eo
        have eT : ((tp.map Prod.snd).take (i + 1)).foldl (fn3 (fl.map Prod.snd)) (some (wsF (ts.map Prod.snd))) = fn3 (fl.map Prod.snd) (some o) t.2 := by rw [← eo]; exact foldl_take (by rw [List.getElem?_map, ht0]; rfl)
        refine ⟨_, rfl, pf, rfl, ⟨_, SqL_sm s hpf⟩, for_list (K := K) (a := pf) (xs := fl.map Prod.fst) (fun j σ G => ∃ o' v u x2 x3 x4 x5 x6, Same H G ∧ ((fl.map Prod.snd).take j).foldl (fn2 t.2) (some o) = some o' ∧ OqV K G v o'.1 ∧ OqV K G u o'.2 ∧ σ = [some (.ref p), some (.ref pt), some (.ref pf), some v, some u, some t.1, x2, x3, x4, x5, x6]) ⟨o, v, u, _, _, _, _, _, s, rfl, hv, hu, rfl⟩ (fun j σ G _ hq => ?_) (fun j z σ G hz hq => ?_) (fun σ G hq => ?_)⟩
        · obtain ⟨_, _, _, _, _, _, _, _, s, _⟩ := hq
          exact SqL_sm s hpf
        · obtain ⟨o', v, u, x2, x3, x4, x5, x6, s, eo', hv, hu, rfl⟩ := hq
          rw [List.getElem?_map] at hz
          obtain ⟨f, hf0, rfl⟩ := Option.map_eq_some_iff.mp hz
          have mf := List.mem_of_getElem? hf0
          have okf := hfl.o f mf
          have hf0' : (fl.map Prod.snd)[j]? = some f.2 := by rw [List.getElem?_map, hf0]; rfl
          have hO' : O2Ok (4 * m + 1) o' := fn3_ok hO ok (fun r hr => hfl.rows r (List.mem_of_mem_take hr)) eo'
          have eF : ((fl.map Prod.snd).take (j + 1)).foldl (fn2 t.2) (some o) = fn1 t.2 o' f.2 := by
            rw [foldl_take hf0', eo']
            rfl
          have hT := (htp.r t mt).same s
          have hF := (hfl.r f mf).same s
          obtain ⟨at_, ct, et, hat, pc, ect, hct⟩ := id hT
          obtain ⟨af, cf, ef, haf, pcf, ecf, hcf⟩ := id hF
          rw [et] at hT ⊢
          rw [ef] at hF ⊢
          rw [ect] at hat
          rw [ecf] at haf
          refine ⟨fun σ G' => G' = G ∧ σ = [some (.ref p), some (.ref pt), some (.ref pf), some v, some u, some (.ref at_), some (.ref af), some (.ref pc), some (.ref pcf), x5, x6], ?_, fun σ G' hM => ?_⟩
          · exact ⟨_, rfl, at_, _, _, _, rfl, rfl, hat, u2, _, rfl, af, _, _, _, rfl, rfl, haf, u2, _, _, rfl, rfl, rfl⟩
          obtain ⟨rfl, rfl⟩ := hM
          refine ⟨fun σ G2 => G2 = G' ∧ σ = [some (.ref p), some (.ref pt), some (.ref pf), some v, some u, some (.ref at_), some (.ref af), some (.ref pc), some (.ref pcf), some (.int (crossR f.2 t.2)), x6], ?_, fun σ G2 hM => ?_⟩
          · exact ⟨_, rfl, _, rfl, _, _, _, _, _, _, m, rfl, hF.wy, hT.wy, okf.a, okf.b, ok.a, ok.b, by omega, rfl, rfl⟩
          obtain ⟨rfl, rfl⟩ := hM
          refine ⟨fun σ G3 => G3 = G2 ∧ σ = [some (.ref p), some (.ref pt), some (.ref pf), some v, some u, some (.ref at_), some (.ref af), some (.ref pc), some (.ref pcf), some (.int (crossR f.2 t.2)), some (.int (fbF t.2 f.2))], ?_, fun σ G3 hM => ?_⟩
          · exact ⟨_, rfl, pcf, _, _, _, rfl, rfl, hcf, t0, _, rfl, pc, _, _, _, rfl, rfl, hct, t1, _, _, rfl, rfl, mulW okf.c.1 ok.c.2 (by omega), _, rfl, at_, _, _, _, rfl, rfl, hat, u1, _, _, rfl, rfl, mulW (okf.c.1.mul ok.c.2) ok.b (by omega),
              _, rfl, pc, _, _, _, rfl, rfl, hct, t0, _, rfl, pcf, _, _, _, rfl, rfl, hcf, t1, _, _, rfl, rfl, mulW ok.c.1 okf.c.2 (by omega), _, rfl, af, _, _, _, rfl, rfl, haf, u1, _, _, rfl, rfl, mulW (ok.c.1.mul okf.c.2) okf.b (by omega), _, _, rfl, rfl, rfl, rfl⟩
          obtain ⟨rfl, rfl⟩ := hM
          have zc := crossZ okf.toRwZ ok.toRwZ
          have zb := fbZ ok okf
          have zd := fdZ ok okf
          refine ⟨_, rfl, _, _, rfl, rfl, _, rfl, ?_⟩
          unfold fn1 at eF
          by_cases c1 : crossR f.2 t.2 > 0
          · rw [if_pos c1] at eF
            refine iteTq (decide_eq_true c1) ⟨_, rfl, _, rfl, _, rfl, _, rfl, pc, _, _, _, rfl, rfl, hct, t1, _, _, rfl, rfl, mulW zc ok.c.2 (by omega), _, rfl, pcf, _, _, _, rfl, rfl, hcf, t1, _, _, rfl, rfl, mulW (zc.mul ok.c.2) okf.c.2 (by omega), two_line, fun y ny => ?_⟩
            exact ⟨_, _, o'.2, some (fbF t.2 f.2, crossR f.2 t.2 * t.2.c.2 * f.2.c.2), 4 * m + 1, rfl, hu.same (same_upd ny), ⟨y, rfl, SqT.of upd_same⟩, hO'.z2, ⟨zb, zd⟩, by omega, fun z G4 s4 hz => ⟨_, _, _, _, _, _, _, _, (s.trans (same_upd ny)).trans s4, eF, hv.same ((same_upd ny).trans s4), hz, rfl⟩⟩
          · rw [if_neg c1] at eF
            refine iteFq (decide_eq_false c1) ⟨_, rfl, _, _, rfl, rfl, _, rfl, ?_⟩
            by_cases c2 : crossR f.2 t.2 < 0
            · rw [if_pos c2] at eF
              have zn := zd.neg
              rw [← Int.neg_mul, ← Int.neg_mul] at zn
              refine iteTq (decide_eq_true c2) ⟨_, rfl, _, rfl, _, rfl, _, rfl, _, rfl, _, rfl, pc, _, _, _, rfl, rfl, hct, t1, _, _, rfl, rfl, mulW zc.neg ok.c.2 (by omega), _, rfl, pcf, _, _, _, rfl, rfl, hcf, t1, _, _, rfl, rfl, mulW (zc.neg.mul ok.c.2) okf.c.2 (by omega), two_line, fun y ny => ?_⟩
              exact ⟨_, _, o'.1, some (-fbF t.2 f.2, -crossR f.2 t.2 * t.2.c.2 * f.2.c.2), 4 * m + 1, rfl, hv.same (same_upd ny), ⟨y, rfl, SqT.of upd_same⟩, hO'.z1, ⟨zb.neg, zn⟩, by omega, fun z G4 s4 hz => ⟨_, _, _, _, _, _, _, _, (s.trans (same_upd ny)).trans s4, eF, hz, hu.same ((same_upd ny).trans s4), rfl⟩⟩
            · rw [if_neg c2] at eF
              refine iteFq (decide_eq_false c2) ⟨_, rfl, _, _, rfl, rfl, _, rfl, ?_⟩
              by_cases c3 : fbF t.2 f.2 < 0
              · rw [if_pos c3] at eF
                refine iteTq (decide_eq_true c3) (qn ?_ _ s)
                unfold fnF
                have e1 : fn3 (fl.map Prod.snd) (some o) t.2 = none := fold_fail (f := fn2 t.2) (fun _ => rfl) hf0' ((foldl_take (f := fn2 t.2) hf0').symm.trans eF)
                rw [fold_fail (fn3_none _) (i := i) (x := t.2) (by rw [List.getElem?_map, ht0]; rfl) (by rw [eo]; exact e1)]
                rfl
              · rw [if_neg c3] at eF
                exact iteFq (decide_eq_false c3) ⟨_, _, _, _, _, _, _, _, s, eF, hv, hu, rfl⟩
        · obtain ⟨o', v, u, x2, x3, x4, x5, x6, s, eo', hv, hu, rfl⟩ := hq
          rw [List.length_map, ← List.length_map (f := Prod.snd), List.take_length] at eo'
          exact ⟨o', v, u, _, _, _, _, _, _, s, by rw [eT]; exact eo', hv, hu, rfl⟩
      · obtain ⟨o, v, u, x1, x2, x3, x4, x5, x6, s, eo, hv, hu, rfl⟩ := hq
        rw [List.length_map, ← List.length_map (f := Prod.snd), List.take_length] at eo
        exact ⟨o, v, u, x1, x2, x3, x4, x5, x6, s, eo, hv, hu, rfl⟩
    · obtain ⟨o, v, u, x1, x2, x3, x4, x5, x6, s, eo, hv, hu, rfl⟩ := hM
      have hO : O2Ok (4 * m + 1) o := fns_ok hts.rows htp.rows hfl.rows eo
      have eF : fnF (ts.map Prod.snd) (tp.map Prod.snd) (fl.map Prod.snd) = if apart o = true then none else some (lowO o) := by
        unfold fnF
        rw [eo]
        rfl
      have fin : ∀ {G1 : Hp}, Same G G1 → apart o = false → tRet (tTup (tCons (tCall (spLowest K) [] E0 (tCons (tVar 3) tNil)) (tCons (tCall (spLowest K) [] E0 (tCons (tVar 4) tNil)) tNil))) { nx := fun x H' => Q V.non H', rt := Q } [some (.ref p), some (.ref pt), some (.ref pf), some v, some u, x1, x2, x3, x4, x5, x6] G1 := fun {G1} s1 c => by
        rw [c, if_neg Bool.false_ne_true] at eF
        refine ⟨_, rfl, v, _, rfl, hv.same s1, fun f e => ⟨by have := hO.d1 f e; omega, by have := hO.z1; rw [e] at this; exact FqZ.mono this hm⟩, fun v' H3 s3 hv' => ?_⟩
        refine ⟨_, rfl, u, _, rfl, hu.same (s1.trans s3), fun f e => ⟨by have := hO.d2 f e; omega, by have := hO.z2; rw [e] at this; exact FqZ.mono this hm⟩, fun u' H4 s4 hu' => ?_⟩
        exact ⟨two_line, fun y ny => q _ eF y _ v' u' ((((s.trans s1).trans s3).trans s4).trans (same_upd ny)) upd_same (hv'.same (s4.trans (same_upd ny))) (hu'.same (same_upd ny))⟩
      refine ⟨fun σ G' => G' = G ∧ apart o = false ∧ σ = [some (.ref p), some (.ref pt), some (.ref pf), some v, some u, x1, x2, x3, x4, x5, x6], ?_, fun σ G' hM => ?_⟩
      · obtain ⟨l, t⟩ := o
        refine ⟨_, rfl, rfl, _, rfl, ?_⟩
        rw [oq_dec hv]
        cases l with
        | none => exact iteF (iteF ⟨rfl, rfl, rfl⟩)
        | some l =>
          refine iteT ⟨_, rfl, rfl, _, rfl, ?_⟩
          rw [oq_dec hu]
          cases t with
          | none => exact iteF (iteF ⟨rfl, rfl, rfl⟩)
          | some t =>
            refine iteT ⟨_, rfl, _, rfl, u, v, t, l, 4 * m + 1, rfl, hu, hv, hO.z2, hO.z1, by omega, _, rfl, ?_⟩
            cases c : ltF t l with
            | true =>
              refine iteT (qn ?_ _ s)
              rw [eF, if_pos (show apart (some l, some t) = true from c)]
            | false => exact iteF ⟨rfl, c, rfl⟩
      · obtain ⟨rfl, c, rfl⟩ := hM
        exact fin (fun _ _ e => e) c
end
def rightF : Option Fq → List Rw
  | none => []
  | some f => [⟨1, 0, f⟩]
def leftF : Option Fq → List Rw
  | none => []
  | some f => [⟨-1, 0, (-f.1, f.2)⟩]
def frF (low top : Option Fq) (tops floors : List Rw) : List Rw := rightF top ++ tops ++ leftF low ++ floors
def topF : Option Fq → List Rw
  | none => []
  | some f => [⟨0, 1, f⟩]
def floorF : Option Fq → List Rw
  | none => []
  | some f => [⟨0, -1, (-f.1, f.2)⟩]
def upF (rs : List Rw) (x : Fq) : List Rw := frF (some x) (some x) (topF (lowO (snF rs x)).2) (floorF (lowO (snF rs x)).1)
def flat1 (o : O2) : Bool := o.1.isSome && decide (o.1 = o.2)
def wallF (rs : List Rw) : Option Fq → Option Fq
  | none => none
  | some x => if flat1 (lowO (snF rs x)) = true then none else some x
/-! ### == of optional fractions, rows among rows -/
def dO : Option Fq → PyData
  | none => .none
  | some f => .tuple [.int f.1, .int f.2]
def dR (r : Rw) : PyData := .tuple [.int r.a, .int r.b, .tuple [.int r.c.1, .int r.c.2]]
theorem dp_o {K : PySem.W.Frag} {H : Hp} {v : V} : ∀ {o : Option Fq}, OqV K H v o → Dp K H v (dO o)
  | none, h => by rw [show v = V.non from h]; exact .non
  | some f, h => by
    obtain ⟨p, e, q⟩ := (show FqV K H v f from h)
    rw [e]
    exact .tup q (.cons (.int _) (.cons (.int _) .nil))
theorem dp_r {K : PySem.W.Frag} {H : Hp} {v : V} {r : Rw} (h : RwV K H v r) : Dp K H v (dR r) := by
  obtain ⟨p, c, e, q, f⟩ := h
  rw [e]
  exact .tup q (.cons (.int _) (.cons (.int _) (.cons (dp_o (o := some r.c) f) .nil)))
theorem shaped_o (o : Option Fq) : SeqAt.shaped (dO o) = true := by
  cases o with
  | none => rfl
  | some f => rfl
theorem shaped_r (r : Rw) : SeqAt.shaped (dR r) = true := rfl
theorem eqv_o (o p : Option Fq) : (dO o).eqv (dO p) = decide (o = p) := by
  cases o with
  | none => cases p <;> rfl
  | some f => cases p with
    | none => rfl
    | some g =>
      have e : (dO (some f)).eqv (dO (some g)) = (decide (f.1 = g.1) && (decide (f.2 = g.2) && true)) := rfl
      rw [e, Bool.and_true, Bool.eq_iff_iff, Bool.and_eq_true, decide_eq_true_eq, decide_eq_true_eq, decide_eq_true_eq]
      exact ⟨fun h => by rw [Prod.ext h.1 h.2], fun h => by cases h; exact ⟨rfl, rfl⟩⟩
theorem eqv_r (r s : Rw) : (dR r).eqv (dR s) = decide (r = s) := by
  have e : (dR r).eqv (dR s) = (decide (r.a = s.a) && (decide (r.b = s.b) && ((decide (r.c.1 = s.c.1) && (decide (r.c.2 = s.c.2) && true)) && true))) := rfl
  rw [e]
  obtain ⟨a, b, c, d⟩ := r
  obtain ⟨a', b', c', d'⟩ := s
  rw [Bool.eq_iff_iff]
  simp only [Bool.and_true, Bool.and_eq_true, decide_eq_true_eq, Rw.mk.injEq, Prod.mk.injEq]
theorem op_eqDu {X : Cx} (hu : X.A.units + 64 < cLine) : OpR X (compareOp .Eq) (fun x y H Q => ∃ o p : Option Fq, OqV X.K H x o ∧ OqV X.K H y p ∧ Q (.bl (decide (o = p))) H) := by
  intro pins s σ H x y v u Q I rx ry h
  obtain ⟨o, p, h1, h2, q⟩ := h
  exact op_eqD hu pins s σ H x y v u Q I rx ry ⟨_, _, dp_o h1, dp_o h2, shaped_o o, shaped_o p, by rw [eqv_o]; exact q⟩
/-- a list of rows that is made anew, out of given ones or not -/
def NewL (K : PySem.W.Frag) (H : Hp) (F : List Rw) (Q : VK) : Prop := ∀ (D : Addr) (H' : Hp) (T' : List VR), Same H H' → H D = none → H' D = some (.lst (T'.map Prod.fst)) → Rs K H' T' → T'.map Prod.snd = F → Q (.ref D) H'
section
variable {P : Program} {w : World} {K : PySem.W.Frag} {mg : Str → Option Value} {base : Heap} {fa : Nat → Addr} {fd : Nat → FuncData}
def spFramed (K : PySem.W.Frag) : Sp := fun vs H Q _ => ∃ (v u : V) (p1 p2 : Addr) (lo to : Option Fq) (T1 T2 : List VR), vs = [v, u, .ref p1, .ref p2] ∧ OqV K H v lo ∧ OqV K H u to ∧ H p1 = some (.lst (T1.map Prod.fst)) ∧ Rs K H T1 ∧ H p2 = some (.lst (T2.map Prod.fst)) ∧ Rs K H T2 ∧ T1.length ≤ 400 ∧ T2.length ≤ 400 ∧
  NewL K H (frF lo to (T1.map Prod.snd) (T2.map Prod.snd)) Q
theorem ok_p_framed (T : Txt K mg fa fd) : FnOk P w K mg base CX0 1 (fa 39) (fd 39) ["low", "top", "tops", "floors"] (spFramed K) := by
  refine T.F_p_framed.ok sc_p_framed (fun vs H Q E h => ?_) (fun cdv A outer s H vs Q E hr h => ?_)
  · obtain ⟨v, u, p1, p2, lo, to, T1, T2, rfl, _⟩ := h
    rfl
  · obtain ⟨v, u, p1, p2, lo, to, T1, T2, rfl, hv, hu, h1, hT1, h2, hT2, l1, l2, q⟩ := h
    refine ⟨_, (C8.pss_cut (ps_set (i := 4) sc_p_framed.nd rfl (.inl rfl) (pe_ifExp (pt_cmpR op_isN (pv 1) pe_non (nomark _)) (pe_lst pa_nil) (pe_lst (pa_cons (pe_tup (pa_cons pe_int (pa_cons pe_int (pa_cons (pv 1) pa_nil)))) pa_nil))))
      (C8.pss_cut (ps_set (i := 5) sc_p_framed.nd rfl (.inl rfl) (pe_ifExp (pt_cmpR op_isN (pv 0) pe_non (nomark _)) (pe_lst pa_nil) (pe_lst (pa_cons (pe_tup (pa_cons (pe_un un_neg pe_int) (pa_cons pe_int (pa_cons (pe_tup (pa_cons (pe_un un_neg (pe_ix ix_tup (pv 0) pe_int (fun _ _ => rfl))) (pa_cons (pe_ix ix_tup (pv 0) pe_int (fun _ _ => rfl)) pa_nil))) pa_nil)))) pa_nil))))
      (pss_one (ps_ret (pe_op op_cat (pe_op op_cat (pe_op op_cat (pv 4) (pv 2)) (pv 5)) (pv 3)))))), ?_⟩
    refine ⟨fun σ G => ∃ (R : Addr) (rs : List VR), Same H G ∧ G R = some (.lst (rs.map Prod.fst)) ∧ Rs K G rs ∧ rs.map Prod.snd = rightF to ∧ rs.length ≤ 1 ∧ σ = [some v, some u, some (.ref p1), some (.ref p2), some (.ref R), none], ?_, fun σ G hM => ?_⟩
    · refine ⟨_, rfl, rfl, _, rfl, ?_⟩
      rw [oq_dec hu]
      cases to with
      | none => exact iteT ⟨small_line (by show 0 ≤ 1000; decide), fun R nR => ⟨R, [], same_upd nR, upd_same, (fun _ m => by cases m), rfl, by decide, rfl⟩⟩
      | some f =>
        obtain ⟨pf, rfl, hf⟩ := (show FqV K H u f from hu)
        refine iteF ⟨_, rfl, small_line (by show 3 ≤ 1000; decide), fun y ny => ⟨small_line (by show 1 ≤ 1000; decide), fun R nR => ?_⟩⟩
        have sy := same_upd (o := .tup [V.int 1, .int 0, .ref pf]) ny
        have sR := same_upd (o := .lst [V.ref y]) nR
        refine ⟨R, [(.ref y, ⟨1, 0, f⟩)], sy.trans sR, upd_same, fun t m => ?_, rfl, Nat.le_refl 1, rfl⟩
        rw [List.mem_singleton.mp m]
        exact ⟨y, _, rfl, SqT.of (sR _ _ upd_same), pf, rfl, SqT_sm (sy.trans sR) hf⟩
    obtain ⟨R, rs, s1, hR, hrs, er, lr, rfl⟩ := hM
    refine ⟨fun σ G' => ∃ (L : Addr) (ls : List VR), Same G G' ∧ G' L = some (.lst (ls.map Prod.fst)) ∧ Rs K G' ls ∧ ls.map Prod.snd = leftF lo ∧ ls.length ≤ 1 ∧ σ = [some v, some u, some (.ref p1), some (.ref p2), some (.ref R), some (.ref L)], ?_, fun σ G' hM => ?_⟩
    · refine ⟨_, rfl, rfl, _, rfl, ?_⟩
      rw [oq_dec hv]
      cases lo with
      | none => exact iteT ⟨small_line (by show 0 ≤ 1000; decide), fun R nR => ⟨R, [], same_upd nR, upd_same, (fun _ m => by cases m), rfl, by decide, rfl⟩⟩
      | some f =>
        obtain ⟨pf, rfl, hf⟩ := (show FqV K H v f from hv)
        have hf1 := SqT_sm s1 hf
        refine iteF ⟨_, rfl, _, rfl, pf, _, _, _, rfl, rfl, hf1, t0, _, rfl, _, rfl, pf, _, _, _, rfl, rfl, hf1, t1, two_line, fun x nx => ⟨small_line (by show 3 ≤ 1000; decide), fun y ny => ⟨small_line (by show 1 ≤ 1000; decide), fun L nL => ?_⟩⟩⟩
        have sx := same_upd (o := .tup [V.int (-f.1), .int f.2]) nx
        have sy := same_upd (o := .tup [V.int (-1), .int 0, .ref x]) ny
        have sL := same_upd (o := .lst [V.ref y]) nL
        refine ⟨L, [(.ref y, ⟨-1, 0, (-f.1, f.2)⟩)], (sx.trans sy).trans sL, upd_same, fun t m => ?_, rfl, Nat.le_refl 1, rfl⟩
        rw [List.mem_singleton.mp m]
        exact ⟨y, _, rfl, SqT.of (sL _ _ upd_same), x, rfl, SqT.of ((sy.trans sL) _ _ upd_same)⟩
    obtain ⟨L, ls, s2, hL, hls, el, ll, rfl⟩ := hM
    have s12 := s1.trans s2
    have lm : ∀ T : List VR, (T.map Prod.fst).length = T.length := fun T => List.length_map ..
    refine ⟨_, rfl, _, rfl, R, p1, _, _, rfl, rfl, s2 _ _ hR, s12 _ _ h1, small_line (by rw [lm, lm]; omega), fun A nA => ?_⟩
    have sA := same_upd (o := .lst (rs.map Prod.fst ++ T1.map Prod.fst)) nA
    refine ⟨_, rfl, A, L, _, _, rfl, rfl, upd_same, sA _ _ hL, small_line (by rw [List.length_append, lm, lm, lm]; omega), fun B nB => ?_⟩
    have sB := same_upd (o := .lst (rs.map Prod.fst ++ T1.map Prod.fst ++ ls.map Prod.fst)) nB
    refine ⟨_, rfl, B, p2, _, _, rfl, rfl, upd_same, (s12.trans (sA.trans sB)) _ _ h2, small_line (by rw [List.length_append, List.length_append, lm, lm, lm, lm]; omega), fun C nC => ?_⟩
    have sC := same_upd (o := .lst (rs.map Prod.fst ++ T1.map Prod.fst ++ ls.map Prod.fst ++ T2.map Prod.fst)) nC
    have sAC := sA.trans (sB.trans sC)
    refine q C _ (rs ++ T1 ++ ls ++ T2) (s12.trans sAC) (none_of_same (s12.trans (sA.trans sB)) nC) ?_ (fun t m => ?_) ?_
    · rw [upd_same, List.map_append, List.map_append, List.map_append]
    · rcases List.mem_append.mp m with m | m
      · rcases List.mem_append.mp m with m | m
        · rcases List.mem_append.mp m with m | m
          · exact (hrs t m).same (s2.trans sAC)
          · exact (hT1 t m).same (s12.trans sAC)
        · exact (hls t m).same sAC
      · exact (hT2 t m).same (s12.trans sAC)
    · rw [List.map_append, List.map_append, List.map_append, er, el]
      rfl
end
section
variable {P : Program} {w : World} {K : PySem.W.Frag} {mg : Str → Option Value} {base : Heap} {fa : Nat → Addr} {fd : Nat → FuncData}
def spUpright (K : PySem.W.Frag) : Sp := fun vs H Q _ => ∃ (p : Addr) (xv : V) (T : List VR) (x : Fq) (m X : Nat), vs = [.ref p, xv] ∧ SqL K H p (T.map Prod.fst) ∧ TsOk K H m T ∧ FqV K H xv x ∧ FqZ X x ∧ 0 < x.2 ∧ 2 * m + X + 1 ≤ 4096 ∧ NewL K H (upF (T.map Prod.snd) x) Q
theorem ok_p_upright (T : Txt K mg fa fd) : FnOk P w K mg base CX0 6 (fa 40) (fd 40) ["rows", "x"] (spUpright K) := by
  refine T.F_p_upright.ok sc_p_upright (fun vs H Q E h => ?_) (fun cdv A outer s H vs Q E hr h => ?_)
  · obtain ⟨p, xv, ts, x, m, X, rfl, _⟩ := h
    rfl
  · obtain ⟨p, xv, ts, x, m, X, rfl, hp, hts, hx, zx, dx, hs, q⟩ := h
    refine ⟨_, (C8.pss_cut (ps_asg (pe_call (ok_p_second_numbers T) (hr.mono (by decide)) (by rfl) T.g_p_second_numbers T.F_p_second_numbers.kp T.b_p_second_numbers .nil pass0 (pa_cons (pv 0) (pa_cons (pv 1) pa_nil))) (pg_tup (by rfl) (pgs_cons (pg_name (i := 2) sc_p_upright.nd rfl (.inl rfl)) (pgs_cons (pg_name (i := 3) sc_p_upright.nd rfl (.inl rfl)) pgs_nil))))
      (C8.pss_cut (ps_set (i := 4) sc_p_upright.nd rfl (.inl rfl) (pe_ifExp (pt_cmpR op_isN (pv 3) pe_non (nomark _)) (pe_lst pa_nil) (pe_lst (pa_cons (pe_tup (pa_cons pe_int (pa_cons pe_int (pa_cons (pv 3) pa_nil)))) pa_nil))))
      (C8.pss_cut (ps_set (i := 5) sc_p_upright.nd rfl (.inl rfl) (pe_ifExp (pt_cmpR op_isN (pv 2) pe_non (nomark _)) (pe_lst pa_nil) (pe_lst (pa_cons (pe_tup (pa_cons pe_int (pa_cons (pe_un un_neg pe_int) (pa_cons (pe_tup (pa_cons (pe_un un_neg (pe_ix ix_tup (pv 2) pe_int (fun _ _ => rfl))) (pa_cons (pe_ix ix_tup (pv 2) pe_int (fun _ _ => rfl)) pa_nil))) pa_nil)))) pa_nil))))
      (pss_one (ps_ret (pe_call (ok_p_framed T) (hr.mono (by decide)) (by rfl) T.g_p_framed T.F_p_framed.kp T.b_p_framed .nil pass0 (pa_cons (pv 1) (pa_cons (pv 1) (pa_cons (pv 4) (pa_cons (pv 5) pa_nil)))))))))), ?_⟩
    have hO : O2Ok (2 * m + X + 1) (lowO (snF (ts.map Prod.snd) x)) := (snF_ok hts.rows zx dx).low
    refine ⟨fun σ G => ∃ v u, Same H G ∧ OqV K G v (lowO (snF (ts.map Prod.snd) x)).1 ∧ OqV K G u (lowO (snF (ts.map Prod.snd) x)).2 ∧ σ = [some (.ref p), some xv, some v, some u, none, none], ?_, fun σ G hM => ?_⟩
    · exact ⟨_, rfl, _, rfl, p, xv, ts, x, m, X, rfl, hp, hts, hx, zx, dx, hs, fun y G v u s hy hv hu => ⟨y, _, rfl, SqT.of hy, rfl, _, _, rfl, _, _, rfl, rfl, v, u, s, hv, hu, rfl⟩⟩
    obtain ⟨v, u, s1, hv, hu, rfl⟩ := hM
    unfold upF at q
    generalize lowO (snF (ts.map Prod.snd) x) = o at hv hu hO q
    obtain ⟨lo, to⟩ := o
    refine ⟨fun σ G' => ∃ (R : Addr) (rs : List VR), Same G G' ∧ G' R = some (.lst (rs.map Prod.fst)) ∧ Rs K G' rs ∧ rs.map Prod.snd = topF to ∧ rs.length ≤ 1 ∧ σ = [some (.ref p), some xv, some v, some u, some (.ref R), none], ?_, fun σ G' hM => ?_⟩
    · refine ⟨_, rfl, rfl, _, rfl, ?_⟩
      rw [oq_dec hu]
      cases to with
      | none => exact iteT ⟨small_line (by show 0 ≤ 1000; decide), fun R nR => ⟨R, [], same_upd nR, upd_same, (fun _ m => by cases m), rfl, by decide, rfl⟩⟩
      | some f =>
        obtain ⟨pf, rfl, hf⟩ := (show FqV K G u f from hu)
        refine iteF ⟨_, rfl, small_line (by show 3 ≤ 1000; decide), fun y ny => ⟨small_line (by show 1 ≤ 1000; decide), fun R nR => ?_⟩⟩
        have sy := same_upd (o := .tup [V.int 0, .int 1, .ref pf]) ny
        have sR := same_upd (o := .lst [V.ref y]) nR
        refine ⟨R, [(.ref y, ⟨0, 1, f⟩)], sy.trans sR, upd_same, fun t m => ?_, rfl, Nat.le_refl 1, rfl⟩
        rw [List.mem_singleton.mp m]
        exact ⟨y, _, rfl, SqT.of (sR _ _ upd_same), pf, rfl, SqT_sm (sy.trans sR) hf⟩
    obtain ⟨R, rs, s2, hR, hrs, er, lr, rfl⟩ := hM
    refine ⟨fun σ G2 => ∃ (L : Addr) (ls : List VR), Same G' G2 ∧ G2 L = some (.lst (ls.map Prod.fst)) ∧ Rs K G2 ls ∧ ls.map Prod.snd = floorF lo ∧ ls.length ≤ 1 ∧ σ = [some (.ref p), some xv, some v, some u, some (.ref R), some (.ref L)], ?_, fun σ G2 hM => ?_⟩
    · refine ⟨_, rfl, rfl, _, rfl, ?_⟩
      rw [oq_dec hv]
      cases lo with
      | none => exact iteT ⟨small_line (by show 0 ≤ 1000; decide), fun R nR => ⟨R, [], same_upd nR, upd_same, (fun _ m => by cases m), rfl, by decide, rfl⟩⟩
      | some f =>
        obtain ⟨pf, rfl, hf⟩ := (show FqV K G v f from hv)
        have hf1 := SqT_sm s2 hf
        refine iteF ⟨_, rfl, _, rfl, pf, _, _, _, rfl, rfl, hf1, t0, _, rfl, _, rfl, pf, _, _, _, rfl, rfl, hf1, t1, two_line, fun x nx => ⟨small_line (by show 3 ≤ 1000; decide), fun y ny => ⟨small_line (by show 1 ≤ 1000; decide), fun L nL => ?_⟩⟩⟩
        have sx := same_upd (o := .tup [V.int (-f.1), .int f.2]) nx
        have sy := same_upd (o := .tup [V.int 0, .int (-1), .ref x]) ny
        have sL := same_upd (o := .lst [V.ref y]) nL
        refine ⟨L, [(.ref y, ⟨0, -1, (-f.1, f.2)⟩)], (sx.trans sy).trans sL, upd_same, fun t m => ?_, rfl, Nat.le_refl 1, rfl⟩
        rw [List.mem_singleton.mp m]
        exact ⟨y, _, rfl, SqT.of (sL _ _ upd_same), x, rfl, SqT.of ((sy.trans sL) _ _ upd_same)⟩
    obtain ⟨L, ls, s3, hL, hls, el, ll, rfl⟩ := hM
    have s23 := s2.trans s3
    have s13 := s1.trans s23
    refine ⟨_, rfl, _, rfl, _, rfl, _, rfl, xv, xv, R, L, some x, some x, rs, ls, rfl, hx.same s13, hx.same s13, s3 _ _ hR, hrs.same s3, hL, hls, by omega, by omega, fun D H' T' s4 nD hD hT' eT => ?_⟩
    exact q D H' T' (s13.trans s4) (none_of_same s13 nD) hD hT' (by rw [eT, er, el])
def spWall (K : PySem.W.Frag) : Sp := fun vs H Q _ => ∃ (p : Addr) (xv : V) (T : List VR) (o : Option Fq) (m X : Nat), vs = [.ref p, xv] ∧ SqL K H p (T.map Prod.fst) ∧ TsOk K H m T ∧ OqV K H xv o ∧ OqZ X o ∧ OqD o ∧ 2 * m + X + 1 ≤ 4096 ∧ ∀ y H', Same H H' → OqV K H' y (wallF (T.map Prod.snd) o) → Q y H'
theorem ok_p_wall (T : Txt K mg fa fd) : FnOk P w K mg base CX0 6 (fa 41) (fd 41) ["rows", "x"] (spWall K) := by
  refine T.F_p_wall.ok sc_p_wall (fun vs H Q E h => ?_) (fun cdv A outer s H vs Q E hr h => ?_)
  · obtain ⟨p, xv, ts, x, m, X, rfl, _⟩ := h
    rfl
  · obtain ⟨p, xv, ts, o, m, X, rfl, hp, hts, hx, zx, dx, hs, q⟩ := h
    refine ⟨_, (C8.pss_cut (ps_if (pt_cmpR op_isN (pv 1) pe_non (nomark _)) (pss_one (ps_ret pe_non)) pss_nil)
      (C8.pss_cut (ps_asg (pe_call (ok_p_second_numbers T) (hr.mono (by decide)) (by rfl) T.g_p_second_numbers T.F_p_second_numbers.kp T.b_p_second_numbers .nil pass0 (pa_cons (pv 0) (pa_cons (pv 1) pa_nil))) (pg_tup (by rfl) (pgs_cons (pg_name (i := 2) sc_p_wall.nd rfl (.inl rfl)) (pgs_cons (pg_name (i := 3) sc_p_wall.nd rfl (.inl rfl)) pgs_nil))))
      (pss_one (ps_ret (pe_ifExp (PW.pt (pw_and (pt_cmpR op_notN (pv 2) pe_non (nomark _)) (pw_and1 (pt_cmpR (op_eqDu hr.units) (pv 2) (pv 3) (nomark _))))) pe_non (pv 1)))))), ?_⟩
    cases o with
    | none =>
      have hx : xv = .non := hx
      subst hx
      exact ⟨fun _ _ => False, ⟨_, rfl, rfl, _, rfl, iteT (q _ _ (fun _ _ e => e) rfl)⟩, fun _ _ h => h.elim⟩
    | some x =>
      refine ⟨fun σ G => G = H ∧ σ = [some (.ref p), some xv, none, none], ⟨_, rfl, rfl, _, rfl, ?_⟩, fun σ G hM => ?_⟩
      · rw [oq_dec hx]
        exact iteF ⟨rfl, rfl⟩
      obtain ⟨rfl, rfl⟩ := hM
      refine ⟨fun σ G' => ∃ v u, Same G G' ∧ OqV K G' v (lowO (snF (ts.map Prod.snd) x)).1 ∧ OqV K G' u (lowO (snF (ts.map Prod.snd) x)).2 ∧ σ = [some (.ref p), some xv, some v, some u], ?_, fun σ G' hM => ?_⟩
      · exact ⟨_, rfl, _, rfl, p, xv, ts, x, m, X, rfl, hp, hts, hx, zx, dx x rfl, hs, fun y G v u s hy hv hu => ⟨y, _, rfl, SqT.of hy, rfl, _, _, rfl, _, _, rfl, rfl, v, u, s, hv, hu, rfl⟩⟩
      obtain ⟨v, u, s1, hv, hu, rfl⟩ := hM
      have q' := q
      unfold wallF flat1 at q'
      dsimp only at q'
      generalize lowO (snF (ts.map Prod.snd) x) = o at hv hu q'
      obtain ⟨lo, to⟩ := o
      refine ⟨_, rfl, rfl, _, rfl, ?_⟩
      rw [oq_dec hv]
      cases lo with
      | none => exact iteF (iteF ⟨_, rfl, q' _ _ s1 ((show FqV K G xv x from hx).same s1)⟩)
      | some f =>
        refine iteT ⟨_, rfl, _, rfl, some f, to, hv, hu, _, rfl, ?_⟩
        have q2 : ∀ y H', Same G H' → OqV K H' y (if decide (some f = to) = true then none else some x) → Q y H' := q'
        cases c : decide (some f = to) with
        | true =>
          rw [c, if_pos rfl] at q2
          exact iteT (q2 _ _ s1 rfl)
        | false =>
          rw [c, if_neg Bool.false_ne_true] at q2
          exact iteF ⟨_, rfl, q2 _ _ s1 ((show FqV K G xv x from hx).same s1)⟩
end
/-! ### for i, x in enumerate(list) -/
theorem for_enum {K : PySem.W.Frag} {a : Addr} {xs : List V} {g : TG} {tb : TS} {D : Ends} {σ : L2.St} {H : Hp} (Pv : Nat → L2.St → Hp → Prop) (h0 : Pv 0 σ H) (hl : ∀ i σ H, i ≤ xs.length → Pv i σ H → SqL K H a xs)
    (hs : ∀ i x σ H T, xs[i]? = some x → Pv i σ H → H T = none → g (.ref T) σ (upd H T (.tup [.int (i : Nat), x])) fun σ2 H2 => tb { D with nx := Pv (i + 1), ct := Pv (i + 1), bk := D.nx } σ2 H2) (hd : ∀ σ H, Pv xs.length σ H → D.nx σ H) :
    ∃ W : Nat → Nat → L2.St → Hp → Prop, (∃ m, W 0 m σ H) ∧ ∀ i m σ H, W i m σ H →
      ((Ite K a).stop i H ∧ D.nx σ H) ∨ ((Ite K a).go i H ∧ ∃ N : L2.St → Hp → Prop, (∀ σ' H', N σ' H' → ∃ m', m' < m ∧ W (i + 1) m' σ' H') ∧ ∀ x H', (Ite K a).yld i H x H' → g x σ H' fun σ2 H2 => tb { D with nx := N, ct := N, bk := D.nx } σ2 H2) := by
  refine ⟨fun i m σ H => m + i = xs.length ∧ Pv i σ H, ⟨xs.length, rfl, h0⟩, ?_⟩
  intro i m σ H hw
  obtain ⟨hm, p⟩ := hw
  have q := hl i σ H (by omega) p
  cases m with
  | zero =>
    obtain rfl : i = xs.length := by omega
    exact .inl ⟨⟨xs, q, Nat.le_refl _⟩, hd σ H p⟩
  | succ m =>
    have lt : i < xs.length := by omega
    refine .inr ⟨⟨xs, xs[i], q, List.getElem?_eq_getElem lt⟩, Pv (i + 1), fun σ' H' p' => ⟨m, Nat.lt_succ_self m, by omega, p'⟩, fun v H' y => ?_⟩
    obtain ⟨T, x, rfl, nT, rfl, hx⟩ := y
    exact hs i x σ H T (hx xs q) p nT
/-! ### the first wrong name, the first wrong tie -/
def firstBad : Nat → List Str → List Str → Option Nat
  | _, _, [] => none
  | i, pre, x :: xs => if nameB x.cps.toList = true ∧ x ∉ pre then firstBad (i + 1) (pre ++ [x]) xs else some i
section
variable {α β : Type}
def pickI (g : Nat → α → Bool) : Nat → List α → List α
  | _, [] => []
  | i, x :: xs => if g i x = true then x :: pickI g (i + 1) xs else pickI g (i + 1) xs
theorem pickI_append (g : Nat → α → Bool) : ∀ (i : Nat) (xs ys : List α), pickI g i (xs ++ ys) = pickI g i xs ++ pickI g (i + xs.length) ys
  | i, [], ys => rfl
  | i, x :: xs, ys => by
    have ih := pickI_append g (i + 1) xs ys
    rw [show i + 1 + xs.length = i + (x :: xs).length by rw [List.length_cons]; omega] at ih
    rw [List.cons_append, pickI, pickI, ih]
    split <;> rfl
theorem pickI_take (g : Nat → α → Bool) {xs : List α} {i : Nat} {x : α} (h : xs[i]? = some x) : pickI g 0 (xs.take (i + 1)) = pickI g 0 (xs.take i) ++ if g i x = true then [x] else [] := by
  have l := (List.getElem?_eq_some_iff.mp h).1
  rw [List.take_add_one, h, pickI_append, List.length_take, Nat.zero_add, Nat.min_eq_left (Nat.le_of_lt l)]
  show _ ++ pickI g i [x] = _
  rw [pickI, pickI]
theorem pickI_map (g : Nat → β → Bool) (φ : α → β) : ∀ (i : Nat) (xs : List α), pickI g i (xs.map φ) = (pickI (fun i x => g i (φ x)) i xs).map φ
  | _, [] => rfl
  | i, x :: xs => by
    rw [List.map_cons, pickI, pickI, pickI_map g φ (i + 1) xs]
    split <;> rfl
theorem pickI_sub (g : Nat → α → Bool) : ∀ (i : Nat) (xs : List α), List.Sublist (pickI g i xs) xs
  | _, [] => .slnil
  | i, x :: xs => by
    rw [pickI]
    split
    · exact (pickI_sub g (i + 1) xs).cons₂ x
    · exact (pickI_sub g (i + 1) xs).cons x
end
def rightO (rs : List Rw) (i : Nat) (r : Rw) : Option Fq := if i = 0 then none else (rs[i - 1]?).map fun s => crossingF s r
def leftO (rs : List Rw) (i : Nat) (r : Rw) : Option Fq := (rs[i + 1]?).map fun s => crossingF r s
def hideF : Option Fq → Option Fq → Bool
  | some a, some b => !ltF a b
  | _, _ => false
def shB (rs : List Rw) (lo to : Option Fq) (i : Nat) (r : Rw) : Bool := !hideF lo (rightO rs i r) && !hideF (leftO rs i r) to
def shF (rs : List Rw) (lo to : Option Fq) : List Rw := pickI (shB rs lo to) 0 rs
section
variable {P : Program} {w : World} {K : PySem.W.Frag} {mg : Str → Option Value} {base : Heap} {fa : Nat → Addr} {fd : Nat → FuncData}
def spShown (K : PySem.W.Frag) : Sp := fun vs H Q _ => ∃ (p : Addr) (v u : V) (T : List VR) (lo to : Option Fq) (m X : Nat), vs = [.ref p, v, u] ∧ SqL K H p (T.map Prod.fst) ∧ TsOk K H m T ∧ OqV K H v lo ∧ OqV K H u to ∧ OqZ X lo ∧ OqZ X to ∧ 4 * m + 1 ≤ X ∧ X ≤ 400000 ∧ T.length ≤ 400 ∧
  ∀ D H' (T' : List VR), Same H H' → H D = none → H' D = some (.lst (T'.map Prod.fst)) → T'.map Prod.snd = shF (T.map Prod.snd) lo to → (∀ t ∈ T', t ∈ T) → Q (.ref D) H'
theorem ok_p_shown (T : Txt K mg fa fd) : FnOk P w K mg base CX0 5 (fa 42) (fd 42) ["rows", "low", "top"] (spShown K) := by
  refine T.F_p_shown.ok sc_p_shown (fun vs H Q E h => ?_) (fun cdv A outer s H vs Q E hr h => ?_)
  · obtain ⟨p, v, u, ts, lo, to, m, X, rfl, _⟩ := h
    rfl
  · obtain ⟨p, v, u, ts, lo, to, m, X, rfl, hp, hts, hv, hu, zl, zt, hX, hX4, hl, q⟩ := h
    refine ⟨_, (C8.pss_cut (ps_set (i := 3) sc_p_shown.nd rfl (.inl rfl) (pe_lst pa_nil))
      (C8.pss_cut (ps_for PassesOwn.never rfl (pi_enum (by rfl) T.m_enumerate (pa_cons (pv 0) pa_nil)) (pg_tup (by rfl) (pgs_cons (pg_name (i := 4) sc_p_shown.nd rfl (.inl rfl)) (pgs_cons (pg_name (i := 5) sc_p_shown.nd rfl (.inl rfl)) pgs_nil))) (C8.pss_cut (ps_set (i := 6) sc_p_shown.nd rfl (.inl rfl) (pe_ifExp (pt_cmpR op_gt (pv 4) pe_int (nomark _)) (pe_call (ok_p_crossing T) (hr.mono (by decide)) (by rfl) T.g_p_crossing T.F_p_crossing.kp T.b_p_crossing .nil pass0 (pa_cons (pe_ix ix_list (pv 0) (pe_op op_sub (pv 4) pe_int) (fun _ _ => rfl)) (pa_cons (pv 5) pa_nil))) pe_non))
      (C8.pss_cut (ps_set (i := 7) sc_p_shown.nd rfl (.inl rfl) (pe_ifExp (pt_cmpR op_lt (pe_op op_add (pv 4) pe_int) (pe_callB call_len_seq (by rfl) T.m_len PySem.boot_len (pa_cons (pv 0) pa_nil)) (nomark _)) (pe_call (ok_p_crossing T) (hr.mono (by decide)) (by rfl) T.g_p_crossing T.F_p_crossing.kp T.b_p_crossing .nil pass0 (pa_cons (pv 5) (pa_cons (pe_ix ix_list (pv 0) (pe_op op_add (pv 4) pe_int) (fun _ _ => rfl)) pa_nil))) pe_non))
      (C8.pss_cut (ps_if (PW.pt (pw_and (pt_cmpR op_notN (pv 6) pe_non (nomark _)) (pw_and (pt_cmpR op_notN (pv 1) pe_non (nomark _)) (pw_and1 (pt_not (pt_val (pe_call (ok_p_is_less T) (hr.mono (by decide)) (by rfl) T.g_p_is_less T.F_p_is_less.kp T.b_p_is_less .nil pass0 (pa_cons (pv 1) (pa_cons (pv 6) pa_nil))))))))) (pss_one ps_continue) pss_nil)
      (C8.pss_cut (ps_if (PW.pt (pw_and (pt_cmpR op_notN (pv 7) pe_non (nomark _)) (pw_and (pt_cmpR op_notN (pv 2) pe_non (nomark _)) (pw_and1 (pt_not (pt_val (pe_call (ok_p_is_less T) (hr.mono (by decide)) (by rfl) T.g_p_is_less T.F_p_is_less.kp T.b_p_is_less .nil pass0 (pa_cons (pv 7) (pa_cons (pv 2) pa_nil))))))))) (pss_one ps_continue) pss_nil)
      (pss_one (ps_expr (pe_bm PySem.F.plainAttrs_list PySem.F.slot_list_append PySem.F.type_list_append mt_append (pv 3) (pa_cons (pv 5) pa_nil)))))))))
      (pss_one (ps_ret (pv 3))))), ?_⟩
    refine ⟨fun σ G => ∃ D, Same H G ∧ H D = none ∧ G D = some (.lst []) ∧ σ = [some (.ref p), some v, some u, some (.ref D), none, none, none, none], ⟨small_line (by show 0 ≤ 1000; decide), fun D nD => ⟨D, same_upd nD, nD, upd_same, rfl⟩⟩, fun σ G hM => ?_⟩
    obtain ⟨D, s1, nD, hD, rfl⟩ := hM
    have keep : ∀ {G G' : Hp} {o : HO}, Same H G → G' = upd G D o → Same H G' := fun s e b o' h => by
      rw [e, upd_ne (ne_of_none h nD)]
      exact s _ _ h
    refine ⟨fun σ G => ∃ (R : List VR) (x1 x2 x3 x4 : Option V), Same H G ∧ G D = some (.lst (R.map Prod.fst)) ∧ R = pickI (fun i t => shB (ts.map Prod.snd) lo to i t.2) 0 ts ∧ σ = [some (.ref p), some v, some u, some (.ref D), x1, x2, x3, x4], ?_, fun σ G hM => ?_⟩
    · refine ⟨_, rfl, p, _, rfl, SqL_sm s1 hp, for_enum (K := K) (a := p) (xs := ts.map Prod.fst) (fun i σ G => ∃ (R : List VR) (x1 x2 x3 x4 : Option V), Same H G ∧ G D = some (.lst (R.map Prod.fst)) ∧ R = pickI (fun i t => shB (ts.map Prod.snd) lo to i t.2) 0 (ts.take i) ∧ σ = [some (.ref p), some v, some u, some (.ref D), x1, x2, x3, x4]) ⟨[], none, none, none, none, s1, hD, rfl, rfl⟩ (fun i σ G _ hq => ?_) (fun i x σ G L hx hq nL => ?_) (fun σ G hq => ?_)⟩
      · obtain ⟨_, _, _, _, _, s, _⟩ := hq
        exact SqL_sm s hp
      · obtain ⟨R, x1, x2, x3, x4, s, hD, eR, rfl⟩ := hq
        rw [List.getElem?_map] at hx
        obtain ⟨t, ht0, rfl⟩ := Option.map_eq_some_iff.mp hx
        have il := (List.getElem?_eq_some_iff.mp ht0).1
        have mt := List.mem_of_getElem? ht0
        have ok := hts.o t mt
        have sL := same_upd (o := .tup [V.int (i : Nat), t.1]) nL
        have s2 := s.trans sL
        have hD2 := sL _ _ hD
        have eT := pickI_take (fun i (t : VR) => shB (ts.map Prod.snd) lo to i t.2) ht0
        rw [← eR] at eT
        have lR : R.length ≤ i := by
          rw [eR]
          have := (pickI_sub (fun i (t : VR) => shB (ts.map Prod.snd) lo to i t.2) 0 (ts.take i)).length_le
          rw [List.length_take] at this
          omega
        refine ⟨L, _, rfl, SqT.of upd_same, rfl, _, _, rfl, _, _, rfl, rfl, ?_⟩
        generalize upd G L (.tup [V.int (i : Nat), t.1]) = G1 at s2 hD2
        have at1 : ∀ (j : Nat) (b : VR), ts[j]? = some b → (ts.map Prod.snd)[j]? = some b.2 ∧ (ts.map Prod.fst)[j]? = some b.1 := fun j b e => by
          rw [List.getElem?_map, List.getElem?_map, e]
          exact ⟨rfl, rfl⟩
        have hp2 := SqL_sm s2 hp
        have zr : ∀ (j : Nat) (o : Option Fq) (f : Rw → Fq), (∀ b : VR, b ∈ ts → FqZ X (f b.2)) → OqZ X (((ts.map Prod.snd)[j]?).map f) := fun j o f hf => by
          cases e : ts[j]? with
          | none => rw [List.getElem?_map, e]; exact trivial
          | some b => rw [(at1 j b e).1]; exact hf b (List.mem_of_getElem? e)
        have zR : OqZ X (rightO (ts.map Prod.snd) i t.2) := by
          unfold rightO
          split
          · exact trivial
          · exact zr _ none _ fun b mb => (crossingZ (hts.o b mb).toRwZ ok.toRwZ).mono hX
        have zL : OqZ X (leftO (ts.map Prod.snd) i t.2) := zr _ none _ fun b mb => (crossingZ ok.toRwZ (hts.o b mb).toRwZ).mono hX
        refine ⟨fun σ G' => ∃ rv, Same G1 G' ∧ OqV K G' rv (rightO (ts.map Prod.snd) i t.2) ∧ σ = [some (.ref p), some v, some u, some (.ref D), some (.int (i : Int)), some t.1, some rv, x4], ?_, fun σ G' hM => ?_⟩
        · refine ⟨_, rfl, _, _, rfl, rfl, _, rfl, ?_⟩
          by_cases c : i = 0
          · refine iteFq (decide_eq_false (by omega)) ⟨.non, fun _ _ e => e, ?_, rfl⟩
            unfold rightO
            rw [if_pos c]
            exact rfl
          · obtain ⟨b, hb⟩ : ∃ b, ts[i - 1]? = some b := ⟨_, List.getElem?_eq_getElem (by omega)⟩
            have mb := List.mem_of_getElem? hb
            refine iteTq (decide_eq_true (by omega)) ⟨_, rfl, _, rfl, _, _, rfl, rfl, p, _, _, b.1, rfl, rfl, hp2, ?_, _, rfl, b.1, t.1, b.2, t.2, m, rfl, (hts.r b mb).same s2, (hts.r t mt).same s2, (hts.o b mb).toRwZ, ok.toRwZ, by omega, fun y G' s' hy => ⟨y, s', ?_, rfl⟩⟩
            · rw [show (i : Int) - 1 = ((i - 1 : Nat) : Int) by omega]
              exact at_nat (at1 _ _ hb).2
            · unfold rightO
              rw [if_neg c, (at1 _ _ hb).1]
              exact hy
        obtain ⟨rv, s3, hrv, rfl⟩ := hM
        have hp3 := SqL_sm s3 hp2
        refine ⟨fun σ G2 => ∃ lv, Same G' G2 ∧ OqV K G2 lv (leftO (ts.map Prod.snd) i t.2) ∧ σ = [some (.ref p), some v, some u, some (.ref D), some (.int (i : Int)), some t.1, some rv, some lv], ?_, fun σ G2 hM => ?_⟩
        · refine ⟨_, rfl, _, _, rfl, rfl, _, rfl, p, _, rfl, .inl hp3, _, _, rfl, rfl, _, rfl, ?_⟩
          rw [List.length_map]
          by_cases c : i + 1 < ts.length
          · obtain ⟨b, hb⟩ : ∃ b, ts[i + 1]? = some b := ⟨_, List.getElem?_eq_getElem c⟩
            have mb := List.mem_of_getElem? hb
            refine iteTq (decide_eq_true (by omega)) ⟨_, rfl, _, rfl, _, rfl, _, _, rfl, rfl, p, _, _, b.1, rfl, rfl, hp3, ?_, t.1, b.1, t.2, b.2, m, rfl, (hts.r t mt).same (s2.trans s3), (hts.r b mb).same (s2.trans s3), ok.toRwZ, (hts.o b mb).toRwZ, by omega, fun y G' s' hy => ⟨y, s', ?_, rfl⟩⟩
            · exact at_nat (n := i + 1) (at1 _ _ hb).2
            · unfold leftO
              rw [(at1 _ _ hb).1]
              exact hy
          · refine iteFq (decide_eq_false (by omega)) ⟨.non, fun _ _ e => e, ?_, rfl⟩
            unfold leftO
            rw [List.getElem?_eq_none (by rw [List.length_map]; omega)]
            exact rfl
        obtain ⟨lv, s4, hlv, rfl⟩ := hM
        have hrv := hrv.same s4
        have s14 := s3.trans s4
        have sF := s2.trans s14
        have hv' := hv.same sF
        have hu' := hu.same sF
        have hD' := s14 _ _ hD2
        have eS : shB (ts.map Prod.snd) lo to i t.2 = (!hideF lo (rightO (ts.map Prod.snd) i t.2) && !hideF (leftO (ts.map Prod.snd) i t.2) to) := rfl
        generalize rightO (ts.map Prod.snd) i t.2 = ro at hrv zR eS
        generalize leftO (ts.map Prod.snd) i t.2 = le at hlv zL eS
        rw [eS] at eT
        refine ⟨fun σ G' => G' = G2 ∧ hideF lo ro = false ∧ σ = [some (.ref p), some v, some u, some (.ref D), some (.int (i : Int)), some t.1, some rv, some lv], ?_, fun σ G' hM => ?_⟩
        · refine ⟨_, rfl, rfl, _, rfl, ?_⟩
          rw [oq_dec hrv]
          cases ro with
          | none => exact iteF (iteF ⟨rfl, by cases lo <;> rfl, rfl⟩)
          | some a =>
            refine iteT ⟨_, rfl, rfl, _, rfl, ?_⟩
            rw [oq_dec hv']
            cases lo with
            | none => exact iteF (iteF ⟨rfl, rfl, rfl⟩)
            | some b =>
              refine iteT ⟨_, rfl, _, rfl, v, rv, b, a, X, rfl, hv', hrv, zl, zR, hX4, _, rfl, ?_⟩
              have e : hideF (some b) (some a) = !ltF b a := rfl
              cases c : ltF b a with
              | true => exact iteF ⟨rfl, by rw [e, c]; rfl, rfl⟩
              | false =>
                rw [e, c] at eT
                exact iteT ⟨R, _, _, _, _, sF, hD', by rw [eT]; exact (List.append_nil _).symm, rfl⟩
        obtain ⟨rfl, ch, rfl⟩ := hM
        rw [ch] at eT
        refine ⟨fun σ G3 => G3 = G' ∧ hideF le to = false ∧ σ = [some (.ref p), some v, some u, some (.ref D), some (.int (i : Int)), some t.1, some rv, some lv], ?_, fun σ G3 hM => ?_⟩
        · refine ⟨_, rfl, rfl, _, rfl, ?_⟩
          rw [oq_dec hlv]
          cases le with
          | none => exact iteF (iteF ⟨rfl, rfl, rfl⟩)
          | some a =>
            refine iteT ⟨_, rfl, rfl, _, rfl, ?_⟩
            rw [oq_dec hu']
            cases to with
            | none => exact iteF (iteF ⟨rfl, rfl, rfl⟩)
            | some b =>
              refine iteT ⟨_, rfl, _, rfl, lv, u, a, b, X, rfl, hlv, hu', zL, zt, hX4, _, rfl, ?_⟩
              have e : hideF (some a) (some b) = !ltF a b := rfl
              cases c : ltF a b with
              | true => exact iteF ⟨rfl, by rw [e, c]; rfl, rfl⟩
              | false =>
                rw [e, c] at eT
                exact iteT ⟨R, _, _, _, _, sF, hD', by rw [eT]; exact (List.append_nil _).symm, rfl⟩
        obtain ⟨rfl, ch2, rfl⟩ := hM
        rw [ch2] at eT
        refine ⟨_, rfl, .inl ⟨rfl, _, SqL.of hD'⟩, _, rfl, D, _, t.1, rfl, rfl, hD', small1000 (by rw [List.length_map]; omega), R ++ [t], _, _, _, _, keep sF rfl, ?_, ?_, rfl⟩
        · rw [upd_same, List.map_append]
          rfl
        · rw [eT]
          rfl
      · obtain ⟨R, x1, x2, x3, x4, s, hD, eR, rfl⟩ := hq
        rw [List.length_map, List.take_length] at eR
        exact ⟨R, x1, x2, x3, x4, s, hD, eR, rfl⟩
    · obtain ⟨R, x1, x2, x3, x4, s, hD, eR, rfl⟩ := hM
      refine ⟨_, rfl, q D G R s nD hD ?_ fun t m => ?_⟩
      · rw [eR]
        exact (pickI_map _ _ 0 ts).symm
      · rw [eR] at m
        exact (pickI_sub _ 0 ts).mem m
end
theorem room65F {k : Nat} {A : Around} (r : Room (k + 1) A) : A.units + 65 < cLine := by
  have := r.un
  omega
theorem lay_rs : ∀ rs : List Rw, PyData.canLayAll0 (rs.map dR) = true ∧ PyData.depthAll (rs.map dR) ≤ 3
  | [] => ⟨rfl, by decide⟩
  | r :: rs => by
    obtain ⟨h1, h2⟩ := lay_rs rs
    refine ⟨?_, ?_⟩
    · show ((dR r).canLay0 && PyData.canLayAll0 (rs.map dR)) = true
      rw [h1]
      rfl
    · show max (dR r).depth (PyData.depthAll (rs.map dR)) ≤ 3
      exact Nat.max_le.mpr ⟨by show (2 : Nat) ≤ 3; decide, h2⟩
theorem shaped_rs (rs : List Rw) : SeqAt.shaped (.list (rs.map dR)) = true := by
  obtain ⟨h1, h2⟩ := lay_rs rs
  unfold SeqAt.shaped
  rw [Bool.and_eq_true]
  refine ⟨h1, decide_eq_true ?_⟩
  show PyData.depthAll (rs.map dR) + 1 ≤ 64
  omega
theorem dp_rs {K : PySem.W.Frag} {H : Hp} : ∀ {T : List VR}, Rs K H T → DpAll K H (T.map Prod.fst) ((T.map Prod.snd).map dR)
  | [], _ => .nil
  | t :: T, h => .cons (dp_r (h t (.head _))) (dp_rs fun u m => h u (.tail _ m))
theorem any_rs (r : Rw) : ∀ rs : List Rw, (rs.map dR).any (fun z => z.eqv (dR r)) = decide (r ∈ rs)
  | [] => rfl
  | s :: rs => by
    rw [List.map_cons, List.any_cons, any_rs r rs, eqv_r, Bool.eq_iff_iff, Bool.or_eq_true, decide_eq_true_eq, decide_eq_true_eq, decide_eq_true_eq, List.mem_cons]
    exact ⟨fun h => h.imp Eq.symm id, fun h => h.imp Eq.symm id⟩
theorem op_inDu {X : Cx} (hu : X.A.units + 65 < cLine) : OpR X (compareOp .In) (fun x y H Q => ∃ (r : Rw) (p : Addr) (T : List VR), RwV X.K H x r ∧ y = .ref p ∧ SqL X.K H p (T.map Prod.fst) ∧ Rs X.K H T ∧ Q (.bl (decide (r ∈ T.map Prod.snd))) H) := by
  intro pins s σ H x y v u Q I rx ry h
  obtain ⟨r, p, T, h1, e, h2, h3, q⟩ := h
  exact op_inD hu pins s σ H x y v u Q I rx ry ⟨_, _, dp_r h1, e ▸ Dp.lst h2 (dp_rs h3), shaped_r r, shaped_rs _, by rw [any_rs]; exact q⟩
/-- the rows that keep a test -/
theorem lc_filt {K : PySem.W.Frag} {a : Addr} {T : List VR} {g : TG} {tt : L2.TT} {te : TE} {vs : List Nat} {σ : L2.St} {H D} {Qd : Hp → Prop} (p : VR → Bool) (nD : H D = none) (ha : SqL K H a (T.map Prod.fst)) (hl : T.length ≤ 900)
    (hs : ∀ t G (C : V → Hp → Prop) (C' : Hp → Prop), t ∈ T → Same H G → (if p t = true then C t.1 G else C' G) → g t.1 (wipe σ vs) G fun σ2 H2 => wipe σ2 vs = wipe σ vs ∧ tt σ2 H2 fun b H3 => if b = true then te σ2 H3 C else C' H3)
    (hd : ∀ G, Same H G → G D = some (.lst ((T.filter p).map Prod.fst)) → Qd G) :
    ∃ W : Nat → Nat → Hp → Prop, (∃ m, W 0 m (upd H D (.lst []))) ∧ ∀ i m H, W i m H →
      ((Itl K a).stop i H ∧ Qd H) ∨ ((Itl K a).go i H ∧ ∃ Nx : Hp → Prop, (∀ H', Nx H' → ∃ m', m' < m ∧ W (i + 1) m' H') ∧ ∀ y H', (Itl K a).yld i H y H' → g y (wipe σ vs) H' fun σ2 H2 => wipe σ2 vs = wipe σ vs ∧ tt σ2 H2 fun b H3 =>
        if b = true then te σ2 H3 fun y H4 => ∃ acc, H4 D = some (.lst acc) ∧ acc.length < sizeLine ∧ Nx (upd H4 D (.lst (acc ++ [y]))) else Nx H3) := by
  refine lc_list (K := K) (a := a) (xs := T.map Prod.fst) (fun i G => Same H G ∧ G D = some (.lst (((T.take i).filter p).map Prod.fst))) ⟨same_upd nD, upd_same⟩ (fun i G _ hp => SqL_sm hp.1 ha) (fun i x G hx hp => ?_) (fun G hp => ?_)
  · obtain ⟨s, hD⟩ := hp
    rw [List.getElem?_map] at hx
    obtain ⟨t, ht0, rfl⟩ := Option.map_eq_some_iff.mp hx
    have il := (List.getElem?_eq_some_iff.mp ht0).1
    have e : (T.take (i + 1)).filter p = (T.take i).filter p ++ if p t = true then [t] else [] := by
      rw [List.take_add_one, ht0, List.filter_append]
      show _ ++ List.filter p [t] = _
      rw [List.filter_cons]
      rfl
    refine hs t G _ _ (List.mem_of_getElem? ht0) s ?_
    rw [e]
    have ll := List.length_filter_le p (T.take i)
    rw [List.length_take] at ll
    by_cases c : p t = true
    · rw [if_pos c, if_pos c]
      refine ⟨_, hD, small1000 (by rw [List.length_map]; omega), ?_, ?_⟩
      · intro b o e
        rw [upd_ne (ne_of_none e nD)]
        exact s _ _ e
      · rw [upd_same, List.map_append]
        rfl
    · rw [if_neg c, if_neg c, List.append_nil]
      exact ⟨s, hD⟩
  · obtain ⟨s, hD⟩ := hp
    rw [List.length_map, List.take_length] at hD
    exact hd G s hD
/-! ### the tight rows are rows -/
theorem putB_mem {B : List Rw} {a b : Int} {c : Fq} {r : Rw} (m : r ∈ putB B a b c) : r ∈ B ∨ r = ⟨a, b, c⟩ := by
  unfold putB at m
  by_cases h : B.any (at_ a b) = true
  · rw [if_pos h] at m
    obtain ⟨u, mu, e⟩ := List.mem_map.mp m
    by_cases c1 : at_ a b u = true
    · rw [if_pos c1] at e
      have := of_decide_eq_true c1
      rw [← e, this.1, this.2]
      exact .inr rfl
    · rw [if_neg c1] at e
      rw [← e]
      exact .inl mu
  · rw [if_neg h] at m
    rcases List.mem_append.mp m with m | m
    · exact .inl m
    · exact .inr (List.mem_singleton.mp m)
theorem getB_mem {B : List Rw} {a b : Int} {f : Fq} (h : getB B a b = some f) : ∃ r ∈ B, r.c = f := by
  unfold getB at h
  obtain ⟨r, e, q⟩ := Option.map_eq_some_iff.mp h
  exact ⟨r, List.mem_of_find?_eq_some e, q⟩
theorem tight1_ok {k : Nat} {B : List Rw} {r : Rw} (h : ∀ s ∈ B, RwOk (2 * k) s) (hr : RwOk k r) : ∀ s ∈ tight1 B r, RwOk (2 * k) s := by
  intro s m
  have g := rgcd_pos hr
  rcases putB_mem m with m | rfl
  · exact h s m
  · have oz : OqZ (2 * k) (getB B (wayA r) (wayB r)) ∧ OqD (getB B (wayA r) (wayB r)) := by
      cases e : getB B (wayA r) (wayB r) with
      | none => exact ⟨trivial, .none⟩
      | some f =>
        obtain ⟨s, ms, rfl⟩ := getB_mem e
        exact ⟨(h s ms).c, .some (h s ms).d⟩
    have tz := tightZ hr
    have td : 0 < (tightC r).2 := lowR_pos (Int.mul_pos hr.d (by omega))
    have pz := pickO_z (top := false) oz.1 (show OqZ (2 * k) (some (tightC r)) from tz)
    have pd := pickO_d (top := false) oz.2 (.some td)
    obtain ⟨f, ef⟩ := pick_some false (getB B (wayA r) (wayB r)) (tightC r)
    rw [ef] at pz pd ⊢
    refine ⟨⟨(divZ hr.a (Int.gcd_dvd_left ..) g).mono (by omega), (divZ hr.b (Int.gcd_dvd_right ..) g).mono (by omega), pz⟩, fun ⟨e1, e2⟩ => hr.w ?_, pd f rfl⟩
    have d1 := Int.ediv_mul_cancel (Int.gcd_dvd_left (a := r.a) (b := r.b))
    have d2 := Int.ediv_mul_cancel (Int.gcd_dvd_right (a := r.a) (b := r.b))
    have e1 : r.a / (Int.gcd r.a r.b : Int) = 0 := e1
    have e2 : r.b / (Int.gcd r.a r.b : Int) = 0 := e2
    rw [e1, Int.zero_mul] at d1
    rw [e2, Int.zero_mul] at d2
    exact ⟨d1.symm, d2.symm⟩
theorem tightF_ok {k : Nat} {rs : List Rw} (h : ∀ r ∈ rs, RwOk k r) : ∀ s ∈ tightF rs, RwOk (2 * k) s :=
  foldl_ok (P := fun B => ∀ s ∈ B, RwOk (2 * k) s) (fun _ m => by cases m) fun _ r m hB => tight1_ok hB (h r m)
theorem putB_len (B : List Rw) (a b : Int) (c : Fq) : (putB B a b c).length ≤ B.length + 1 := by
  unfold putB
  split
  · rw [List.length_map]; omega
  · rw [List.length_append]; exact Nat.le_refl _
theorem tightF_len (rs : List Rw) : (tightF rs).length ≤ rs.length := by
  have k : ∀ (rs B : List Rw), (rs.foldl tight1 B).length ≤ rs.length + B.length := fun rs => by
    induction rs with
    | nil => exact fun B => by show B.length ≤ 0 + B.length; omega
    | cons r rs ih =>
      intro B
      have := ih (tight1 B r)
      have l : (tight1 B r).length ≤ B.length + 1 := putB_len ..
      rw [List.foldl_cons, List.length_cons]
      omega
  exact k rs []
def canonF (rs : List Rw) : Option (List Rw) :=
  let tight := tightF rs
  let tops := chainF (tight.filter fun r => decide (r.b > 0))
  let floors := chainF (tight.filter fun r => decide (r.b < 0))
  (fnF tight tops floors).map fun o =>
    if flat1 o = true then upF (tops ++ floors) (o.1.getD (0, 1))
    else match tops.find? fun r => decide (oppR r ∈ floors) with
      | some r => frF o.1 o.2 [r] [oppR r]
      | none => frF (wallF (tops ++ floors) o.1) (wallF (tops ++ floors) o.2) (shF tops o.1 o.2) (shF floors.reverse o.1 o.2).reverse
theorem popF_len (r : Rw) : ∀ s : List Rw, (popF s r).length ≤ s.length
  | [] => Nat.le_refl _
  | [x] => Nat.le_refl _
  | x :: y :: s => by
    have ih := popF_len r (y :: s)
    show (if _ then _ else _ : List Rw).length ≤ _
    split
    · exact Nat.le_succ_of_le ih
    · exact Nat.le_refl _
theorem chainF_len (rs : List Rw) : (chainF rs).length ≤ rs.length := by
  have k : ∀ (xs s : List Rw), (xs.foldl pushF s).length ≤ xs.length + s.length := fun xs => by
    induction xs with
    | nil => exact fun s => by show s.length ≤ 0 + s.length; omega
    | cons r xs ih =>
      intro s
      have h1 := ih (pushF s r)
      have h2 : (pushF s r).length ≤ s.length + 1 := Nat.succ_le_succ (popF_len r s)
      rw [List.foldl_cons, List.length_cons]
      omega
  have h1 := k (slopeF rs) []
  have h2 := inOrderG_len slopeK 7 rs
  unfold chainF
  rw [List.length_reverse]
  exact Nat.le_trans h1 h2
section
variable {P : Program} {w : World} {K : PySem.W.Frag} {mg : Str → Option Value} {base : Heap} {fa : Nat → Addr} {fd : Nat → FuncData}
def spCanon (K : PySem.W.Frag) : Sp := fun vs H Q _ => ∃ (p : Addr) (T : List VR) (k : Nat), vs = [.ref p] ∧ SqX K H p (T.map Prod.fst) ∧ Rs K H T ∧ (∀ t ∈ T, RwOk k t.2) ∧ 1 ≤ k ∧ k ≤ 300 ∧ T.length ≤ 120 ∧
  (canonF (T.map Prod.snd) = none → ∀ H', Same H H' → Q .non H') ∧ ∀ F, canonF (T.map Prod.snd) = some F → NewL K H F Q
theorem ok_p_canonical (T : Txt K mg fa fd) : FnOk P w K mg base CX0 14 (fa 43) (fd 43) ["rows"] (spCanon K) := by
  refine T.F_p_canonical.ok sc_p_canonical (fun vs H Q E h => ?_) (fun cdv A outer s H vs Q E hr h => ?_)
  · obtain ⟨p, ts, k, rfl, _⟩ := h
    rfl
  · obtain ⟨p, ts, k, rfl, hp, hts, hok, hk1, hk, hl, qn, q⟩ := h
    refine ⟨_, (C8.pss_cut (ps_set (i := 1) sc_p_canonical.nd rfl (.inl rfl) (pe_call (ok_p_tightest T) (hr.mono (by decide)) (by rfl) T.g_p_tightest T.F_p_tightest.kp T.b_p_tightest .nil pass0 (pa_cons (pv 0) pa_nil)))
      (C8.pss_cut (ps_set (i := 3) sc_p_canonical.nd rfl (.inl rfl) (pe_call (ok_p_chain T) (hr.mono (by decide)) (by rfl) T.g_p_chain T.F_p_chain.kp T.b_p_chain .nil pass0 (pa_cons (pe_lc (own := [("row", 2)]) (g := gName 2) (tt := _) rfl sc_p_canonical.nd (pi_list (pv 1)) (blkOk_by (own := [("row", 2)]) (N := ["rows", "tight", "row", "tops", "floors", "stretch", "low", "top", "left", "right"]) (sc := defScope s_p_canonical) (by decide +kernel)) (fun _ _ _ _ _ => pg_name (i := 2) sc_p_canonical.nd rfl (Or.inl rfl)) (fun _ _ _ _ _ => pts_one (pt_cmpR op_gt (pe_ix (ix_tupK (K := K) rfl) (pv 2) pe_int (fun _ _ => rfl)) pe_int (nomark _))) (fun _ _ _ _ _ => (pv 2))) pa_nil)))
      (C8.pss_cut (ps_set (i := 4) sc_p_canonical.nd rfl (.inl rfl) (pe_call (ok_p_chain T) (hr.mono (by decide)) (by rfl) T.g_p_chain T.F_p_chain.kp T.b_p_chain .nil pass0 (pa_cons (pe_lc (own := [("row", 2)]) (g := gName 2) (tt := _) rfl sc_p_canonical.nd (pi_list (pv 1)) (blkOk_by (own := [("row", 2)]) (N := ["rows", "tight", "row", "tops", "floors", "stretch", "low", "top", "left", "right"]) (sc := defScope s_p_canonical) (by decide +kernel)) (fun _ _ _ _ _ => pg_name (i := 2) sc_p_canonical.nd rfl (Or.inl rfl)) (fun _ _ _ _ _ => pts_one (pt_cmpR op_lt (pe_ix (ix_tupK (K := K) rfl) (pv 2) pe_int (fun _ _ => rfl)) pe_int (nomark _))) (fun _ _ _ _ _ => (pv 2))) pa_nil)))
      (C8.pss_cut (ps_set (i := 5) sc_p_canonical.nd rfl (.inl rfl) (pe_call (ok_p_first_numbers T) (hr.mono (by decide)) (by rfl) T.g_p_first_numbers T.F_p_first_numbers.kp T.b_p_first_numbers .nil pass0 (pa_cons (pv 1) (pa_cons (pv 3) (pa_cons (pv 4) pa_nil)))))
      (C8.pss_cut (ps_if (pt_cmpR op_isN (pv 5) pe_non (nomark _)) (pss_one (ps_ret pe_non)) pss_nil)
      (C8.pss_cut (ps_asg (pv 5) (pg_tup (by rfl) (pgs_cons (pg_name (i := 6) sc_p_canonical.nd rfl (.inl rfl)) (pgs_cons (pg_name (i := 7) sc_p_canonical.nd rfl (.inl rfl)) pgs_nil))))
      (C8.pss_cut (ps_if (PW.pt (pw_and (pt_cmpR op_notN (pv 6) pe_non (nomark _)) (pw_and1 (pt_cmpR (op_eqDu hr.units) (pv 6) (pv 7) (nomark _))))) (pss_one (ps_ret (pe_call (ok_p_upright T) (hr.mono (by decide)) (by rfl) T.g_p_upright T.F_p_upright.kp T.b_p_upright .nil pass0 (pa_cons (pe_op op_cat (pv 3) (pv 4)) (pa_cons (pv 6) pa_nil))))) pss_nil)
      (C8.pss_cut (ps_for PassesOwn.never rfl (pi_list (pv 3)) (pg_name (i := 2) sc_p_canonical.nd rfl (.inl rfl)) (pss_one (ps_if (pt_cmpR (op_inDu (room65F hr)) (pe_call (ok_p_opposite T) (hr.mono (by decide)) (by rfl) T.g_p_opposite T.F_p_opposite.kp T.b_p_opposite .nil pass0 (pa_cons (pv 2) pa_nil)) (pv 4) (by rfl)) (pss_one (ps_ret (pe_call (ok_p_framed T) (hr.mono (by decide)) (by rfl) T.g_p_framed T.F_p_framed.kp T.b_p_framed .nil pass0 (pa_cons (pv 6) (pa_cons (pv 7) (pa_cons (pe_lst (pa_cons (pv 2) pa_nil)) (pa_cons (pe_lst (pa_cons (pe_call (ok_p_opposite T) (hr.mono (by decide)) (by rfl) T.g_p_opposite T.F_p_opposite.kp T.b_p_opposite .nil pass0 (pa_cons (pv 2) pa_nil)) pa_nil)) pa_nil))))))) pss_nil)))
      (C8.pss_cut (ps_set (i := 8) sc_p_canonical.nd rfl (.inl rfl) (pe_call (ok_p_wall T) (hr.mono (by decide)) (by rfl) T.g_p_wall T.F_p_wall.kp T.b_p_wall .nil pass0 (pa_cons (pe_op op_cat (pv 3) (pv 4)) (pa_cons (pv 6) pa_nil))))
      (C8.pss_cut (ps_set (i := 9) sc_p_canonical.nd rfl (.inl rfl) (pe_call (ok_p_wall T) (hr.mono (by decide)) (by rfl) T.g_p_wall T.F_p_wall.kp T.b_p_wall .nil pass0 (pa_cons (pe_op op_cat (pv 3) (pv 4)) (pa_cons (pv 7) pa_nil))))
      (pss_one (ps_ret (pe_call (ok_p_framed T) (hr.mono (by decide)) (by rfl) T.g_p_framed T.F_p_framed.kp T.b_p_framed .nil pass0 (pa_cons (pv 8) (pa_cons (pv 9) (pa_cons (pe_call (ok_p_shown T) (hr.mono (by decide)) (by rfl) T.g_p_shown T.F_p_shown.kp T.b_p_shown .nil pass0 (pa_cons (pv 3) (pa_cons (pv 6) (pa_cons (pv 7) pa_nil)))) (pa_cons (pe_revL (pe_call (ok_p_shown T) (hr.mono (by decide)) (by rfl) T.g_p_shown T.F_p_shown.kp T.b_p_shown .nil pass0 (pa_cons (pe_revL (pv 4)) (pa_cons (pv 6) (pa_cons (pv 7) pa_nil))))) pa_nil))))))))))))))))), ?_⟩
    refine ⟨fun σ G => ∃ (A : Addr) (tg : List VR), Same H G ∧ G A = some (.lst (tg.map Prod.fst)) ∧ Rs K G tg ∧ tg.map Prod.snd = tightF (ts.map Prod.snd) ∧ σ = [some (.ref p), some (.ref A), none, none, none, none, none, none, none, none], ?_, fun σ G hM => ?_⟩
    · exact ⟨_, rfl, p, ts, k, rfl, hp, hts, hok, hk1, by omega, by omega, fun A G tg s nA hA hT e => ⟨A, tg, s, hA, hT, e, rfl⟩⟩
    obtain ⟨A, tg, s1, hA, hT, eT, rfl⟩ := hM
    have okT : ∀ t ∈ tg, RwOk (2 * k) t.2 := fun t m => tightF_ok (rs := ts.map Prod.snd) (fun r m => by obtain ⟨u, mu, rfl⟩ := List.mem_map.mp m; exact hok u mu) _ (eT ▸ List.mem_map_of_mem (f := Prod.snd) m)
    have lT : tg.length ≤ 120 := by
      have := tightF_len (ts.map Prod.snd)
      rw [← eT, List.length_map, List.length_map] at this
      omega
    have fl : ∀ (p : Rw → Bool), (tg.filter fun t => p t.2).map Prod.snd = (tightF (ts.map Prod.snd)).filter p := fun p => by
      rw [← eT, List.filter_map]
      rfl
    have lF : ∀ p : VR → Bool, (tg.filter p).length ≤ 120 := fun p => Nat.le_trans (List.length_filter_le _ _) lT
    refine ⟨fun σ G2 => ∃ (B : Addr) (tp : List VR), Same G G2 ∧ G2 B = some (.lst (tp.map Prod.fst)) ∧ Rs K G2 tp ∧ (∀ t ∈ tp, t ∈ tg) ∧ tp.map Prod.snd = chainF ((tightF (ts.map Prod.snd)).filter fun r => decide (r.b > 0)) ∧ σ = [some (.ref p), some (.ref A), none, some (.ref B), none, none, none, none, none, none], ?_, fun σ G2 hM => ?_⟩
    · refine ⟨_, rfl, A, rfl, ⟨_, SqL.of hA⟩, fun L nL => ?_⟩
      refine lc_filt (K := K) (a := A) (T := tg) (fun t => decide (t.2.b > 0)) nL (SqL.of hA) (by omega) (fun t G3 C C' m s3 h => ?_) (fun G3 s3 hL => ?_)
      · obtain ⟨pt, ct, et, hpt, _⟩ := (hT t m).same s3
        rw [et] at h ⊢
        refine ⟨rfl, _, rfl, pt, _, _, _, rfl, rfl, hpt, u1, _, _, rfl, rfl, _, rfl, ?_⟩
        by_cases c : t.2.b > 0
        · rw [if_pos (decide_eq_true c)] at h
          exact iteTq (decide_eq_true c) ⟨_, rfl, h⟩
        · rw [if_neg (by rw [decide_eq_false c]; exact Bool.false_ne_true)] at h
          exact iteFq (decide_eq_false c) h
      · exact ⟨L, _, 2 * k, rfl, SqL.of hL, fun t m => (hT t (List.mem_filter.mp m).1).same s3, fun t m => (okT t (List.mem_filter.mp m).1).toRwZ, by omega, by omega, lF _, fun B G4 tp s4 nB hB e mm => ⟨B, tp, s3.trans s4, hB, fun t m => (hT t (List.mem_filter.mp (mm t m)).1).same (s3.trans s4), fun t m => (List.mem_filter.mp (mm t m)).1, by rw [e, ← fl], rfl⟩⟩
    obtain ⟨B, tp, s2, hB, hTp, mTp, eTp, rfl⟩ := hM
    refine ⟨fun σ G3 => ∃ (C : Addr) (fp : List VR), Same G2 G3 ∧ G3 C = some (.lst (fp.map Prod.fst)) ∧ Rs K G3 fp ∧ (∀ t ∈ fp, t ∈ tg) ∧ fp.map Prod.snd = chainF ((tightF (ts.map Prod.snd)).filter fun r => decide (r.b < 0)) ∧ σ = [some (.ref p), some (.ref A), none, some (.ref B), some (.ref C), none, none, none, none, none], ?_, fun σ G3 hM => ?_⟩
    · have hA2 := s2 _ _ hA
      have hT2 := hT.same s2
      refine ⟨_, rfl, A, rfl, ⟨_, SqL.of hA2⟩, fun L nL => ?_⟩
      refine lc_filt (K := K) (a := A) (T := tg) (fun t => decide (t.2.b < 0)) nL (SqL.of hA2) (by omega) (fun t G3 C C' m s3 h => ?_) (fun G3 s3 hL => ?_)
      · obtain ⟨pt, ct, et, hpt, _⟩ := (hT2 t m).same s3
        rw [et] at h ⊢
        refine ⟨rfl, _, rfl, pt, _, _, _, rfl, rfl, hpt, u1, _, _, rfl, rfl, _, rfl, ?_⟩
        by_cases c : t.2.b < 0
        · rw [if_pos (decide_eq_true c)] at h
          exact iteTq (decide_eq_true c) ⟨_, rfl, h⟩
        · rw [if_neg (by rw [decide_eq_false c]; exact Bool.false_ne_true)] at h
          exact iteFq (decide_eq_false c) h
      · exact ⟨L, _, 2 * k, rfl, SqL.of hL, fun t m => (hT2 t (List.mem_filter.mp m).1).same s3, fun t m => (okT t (List.mem_filter.mp m).1).toRwZ, by omega, by omega, lF _, fun B G4 tp s4 nB hB e mm => ⟨B, tp, s3.trans s4, hB, fun t m => (hT2 t (List.mem_filter.mp (mm t m)).1).same (s3.trans s4), fun t m => (List.mem_filter.mp (mm t m)).1, by rw [e, ← fl], rfl⟩⟩
    obtain ⟨C, fp, s3, hC, hFp, mFp, eFp, rfl⟩ := hM
    have sA := s2.trans s3
    have sB := s1.trans sA
    have tsT : TsOk K G3 (2 * k) tg := ⟨hT.same sA, okT⟩
    have tsP : TsOk K G3 (2 * k) tp := ⟨hTp.same s3, fun t m => okT t (mTp t m)⟩
    have tsF : TsOk K G3 (2 * k) fp := ⟨hFp, fun t m => okT t (mFp t m)⟩
    have hA3 := sA _ _ hA
    have hB3 := s3 _ _ hB
    have lP : tp.length ≤ 120 := by
      have := chainF_len ((tightF (ts.map Prod.snd)).filter fun r => decide (r.b > 0))
      rw [← eTp, List.length_map, ← fl, List.length_map] at this
      exact Nat.le_trans this (lF _)
    have lQ : fp.length ≤ 120 := by
      have := chainF_len ((tightF (ts.map Prod.snd)).filter fun r => decide (r.b < 0))
      rw [← eFp, List.length_map, ← fl, List.length_map] at this
      exact Nat.le_trans this (lF _)
    -- what canonF comes to
    have eC : canonF (ts.map Prod.snd) = (fnF (tg.map Prod.snd) (tp.map Prod.snd) (fp.map Prod.snd)).map fun o =>
        if flat1 o = true then upF (tp.map Prod.snd ++ fp.map Prod.snd) (o.1.getD (0, 1))
        else match (tp.map Prod.snd).find? fun r => decide (oppR r ∈ fp.map Prod.snd) with
          | some r => frF o.1 o.2 [r] [oppR r]
          | none => frF (wallF (tp.map Prod.snd ++ fp.map Prod.snd) o.1) (wallF (tp.map Prod.snd ++ fp.map Prod.snd) o.2) (shF (tp.map Prod.snd) o.1 o.2) (shF (fp.map Prod.snd).reverse o.1 o.2).reverse := by
      rw [eT, eTp, eFp]
      rfl
    have fok : ∀ o, fnF (tg.map Prod.snd) (tp.map Prod.snd) (fp.map Prod.snd) = some o → O2Ok (8 * k + 1) o := fun o e => (fnF_ok tsT.rows tsP.rows tsF.rows e).mono (by omega)
    refine ⟨fun σ G4 => ∃ sv : V, Same G3 G4 ∧ ((sv = .non ∧ fnF (tg.map Prod.snd) (tp.map Prod.snd) (fp.map Prod.snd) = none) ∨ ∃ q o v u, sv = .ref q ∧ G4 q = some (.tup [v, u]) ∧ fnF (tg.map Prod.snd) (tp.map Prod.snd) (fp.map Prod.snd) = some o ∧ OqV K G4 v o.1 ∧ OqV K G4 u o.2) ∧ σ = [some (.ref p), some (.ref A), none, some (.ref B), some (.ref C), some sv, none, none, none, none], ?_, fun σ G4 hM => ?_⟩
    · exact ⟨_, rfl, _, rfl, _, rfl, A, B, C, tg, tp, fp, 2 * k, rfl, SqL.of hA3, tsT, SqL.of hB3, tsP, SqL.of hC, tsF, by omega, fun e G4 s4 => ⟨.non, s4, .inl ⟨rfl, e⟩, rfl⟩, fun o e y G4 v u s4 hy hv hu => ⟨.ref y, s4, .inr ⟨y, o, v, u, rfl, hy, e, hv, hu⟩, rfl⟩⟩
    obtain ⟨sv, s4, hsv, rfl⟩ := hM
    have sH := sB.trans s4
    refine ⟨fun σ G' => ∃ y o v u, G' = G4 ∧ sv = .ref y ∧ G4 y = some (.tup [v, u]) ∧ fnF (tg.map Prod.snd) (tp.map Prod.snd) (fp.map Prod.snd) = some o ∧ OqV K G4 v o.1 ∧ OqV K G4 u o.2 ∧ σ = [some (.ref p), some (.ref A), none, some (.ref B), some (.ref C), some sv, none, none, none, none], ?_, fun σ G' hM => ?_⟩
    · refine ⟨_, rfl, rfl, _, rfl, ?_⟩
      rcases hsv with ⟨rfl, e⟩ | ⟨y, o, v, u, rfl, hy, e, hv, hu⟩
      · exact iteT (qn (by rw [eC, e]; rfl) _ sH)
      · exact iteF ⟨y, o, v, u, rfl, rfl, hy, e, hv, hu, rfl⟩
    obtain ⟨y, o, v, u, rfl, rfl, hy, eo, hv, hu, rfl⟩ := hM
    have hO := fok o eo
    rw [eo] at eC
    have qF : ∀ F, (if flat1 o = true then upF (tp.map Prod.snd ++ fp.map Prod.snd) (o.1.getD (0, 1))
        else match (tp.map Prod.snd).find? fun r => decide (oppR r ∈ fp.map Prod.snd) with
          | some r => frF o.1 o.2 [r] [oppR r]
          | none => frF (wallF (tp.map Prod.snd ++ fp.map Prod.snd) o.1) (wallF (tp.map Prod.snd ++ fp.map Prod.snd) o.2) (shF (tp.map Prod.snd) o.1 o.2) (shF (fp.map Prod.snd).reverse o.1 o.2).reverse) = F → NewL K H F Q := fun F e => q F (by rw [eC, ← e]; rfl)
    refine ⟨fun σ G5 => G5 = G' ∧ σ = [some (.ref p), some (.ref A), none, some (.ref B), some (.ref C), some (.ref y), some v, some u, none, none], ⟨_, rfl, y, _, rfl, SqT.of hy, rfl, _, _, rfl, _, _, rfl, rfl, rfl, rfl⟩, fun σ G5 hM => ?_⟩
    obtain ⟨rfl, rfl⟩ := hM
    have hB4 := s4 _ _ hB3
    have hC4 := s4 _ _ hC
    have tsP4 := tsP.same s4
    have tsF4 := tsF.same s4
    have lm : ∀ T : List VR, (T.map Prod.fst).length = T.length := fun T => List.length_map ..
    have tsPF : TsOk K G5 (2 * k) (tp ++ fp) := ⟨fun t m => (List.mem_append.mp m).elim (tsP4.r t) (tsF4.r t), fun t m => (List.mem_append.mp m).elim (tsP4.o t) (tsF4.o t)⟩
    have ePF : (tp ++ fp).map Prod.snd = tp.map Prod.snd ++ fp.map Prod.snd := List.map_append
    refine ⟨fun σ G6 => G6 = G5 ∧ flat1 o = false ∧ σ = [some (.ref p), some (.ref A), none, some (.ref B), some (.ref C), some (.ref y), some v, some u, none, none], ?_, fun σ G6 hM => ?_⟩
    · obtain ⟨lo, to⟩ := o
      refine ⟨_, rfl, rfl, _, rfl, ?_⟩
      rw [oq_dec hv]
      cases lo with
      | none => exact iteF (iteF ⟨rfl, rfl, rfl⟩)
      | some f =>
        refine iteT ⟨_, rfl, _, rfl, some f, to, hv, hu, _, rfl, ?_⟩
        cases c : decide (some f = to) with
        | false => exact iteF ⟨rfl, c, rfl⟩
        | true =>
          refine iteT ⟨_, rfl, _, rfl, B, C, _, _, rfl, rfl, hB4, hC4, small_line (by rw [lm, lm]; omega), fun L nL => ?_⟩
          have sL := same_upd (o := .lst (tp.map Prod.fst ++ fp.map Prod.fst)) nL
          refine ⟨_, rfl, L, v, tp ++ fp, f, 2 * k, 8 * k + 1, rfl, SqL.of (by rw [upd_same, List.map_append]), tsPF.same sL, (show FqV K G5 v f from hv).same sL, hO.z1, hO.d1 f rfl, by omega, fun D H' T' s' nD hD hT' e' => ?_⟩
          refine qF _ (if_pos (show flat1 (some f, to) = true from c)) D H' T' ((sH.trans sL).trans s') (none_of_same (sH.trans sL) nD) hD hT' ?_
          rw [e', ePF]
          rfl
    obtain ⟨rfl, cf, rfl⟩ := hM
    have qF2 := fun F e => qF F ((if_neg (by rw [cf]; exact Bool.false_ne_true)).trans e)
    have opp : ∀ (t : VR), t ∈ tp → ∀ {G : Hp}, Same G6 G → ∀ (C : V → Hp → Prop), (∀ u G', Same G G' → RwV K G' u (oppR t.2) → C u G') → spOpp K [t.1] G C E := fun t m {G} s C h => ⟨t.1, t.2, rfl, (tsP4.r t m).same s, h⟩
    refine ⟨fun σ G7 => ∃ x, Same G6 G7 ∧ (tp.map Prod.snd).find? (fun r => decide (oppR r ∈ fp.map Prod.snd)) = none ∧ σ = [some (.ref p), some (.ref A), x, some (.ref B), some (.ref C), some (.ref y), some v, some u, none, none], ?_, fun σ G7 hM => ?_⟩
    · refine ⟨_, rfl, B, rfl, ⟨_, SqL.of hB4⟩, for_list (K := K) (a := B) (xs := tp.map Prod.fst) (fun i σ G7 => ∃ x, Same G6 G7 ∧ ((tp.map Prod.snd).take i).find? (fun r => decide (oppR r ∈ fp.map Prod.snd)) = none ∧ σ = [some (.ref p), some (.ref A), x, some (.ref B), some (.ref C), some (.ref y), some v, some u, none, none]) ⟨none, fun _ _ e => e, rfl, rfl⟩ (fun i σ G _ hq => ?_) (fun i x σ G hx hq => ?_) (fun σ G hq => ?_)⟩
      · obtain ⟨_, s, _⟩ := hq
        exact SqL.of (s _ _ hB4)
      · obtain ⟨x0, s5, en, rfl⟩ := hq
        rw [List.getElem?_map] at hx
        obtain ⟨t, ht0, rfl⟩ := Option.map_eq_some_iff.mp hx
        have mt := List.mem_of_getElem? ht0
        have ht1 : (tp.map Prod.snd)[i]? = some t.2 := by rw [List.getElem?_map, ht0]; rfl
        refine ⟨_, rfl, t.1, t.2, rfl, (tsP4.r t mt).same s5, fun w6 G8 s6 hw => ?_⟩
        have s56 := s5.trans s6
        refine ⟨_, rfl, oppR t.2, C, fp, hw, rfl, SqL.of (s56 _ _ hC4), tsF4.r.same s56, _, rfl, ?_⟩
        cases c : decide (oppR t.2 ∈ fp.map Prod.snd) with
        | false =>
          refine iteF ⟨some t.1, s56, ?_, rfl⟩
          rw [List.take_add_one, ht1, List.find?_append, en]
          rw [Option.none_or]
          show List.find? (fun r : Rw => decide (oppR r ∈ fp.map Prod.snd)) [t.2] = none
          rw [List.find?_cons, c]
          rfl
        | true =>
          refine iteT ⟨_, rfl, _, rfl, _, rfl, small_line (by show 1 ≤ 1000; decide), fun L nL => ?_⟩
          have sL := same_upd (o := .lst [t.1]) nL
          refine ⟨_, rfl, t.1, t.2, rfl, (tsP4.r t mt).same (s56.trans sL), fun w7 G9 s7 hw7 => ⟨small_line (by show 1 ≤ 1000; decide), fun M nM => ?_⟩⟩
          have sM := same_upd (o := .lst [w7]) nM
          have sX := s56.trans (sL.trans (s7.trans sM))
          have sN : ∀ {r : VR} {G : Hp}, RwV K G r.1 r.2 → Rs K G [r] := fun h t m => by
            rw [List.mem_singleton.mp m]
            exact h
          refine ⟨v, u, L, M, o.1, o.2, [t], [(w7, oppR t.2)], rfl, hv.same sX, hu.same sX, (s7.trans sM) _ _ upd_same, sN ((tsP4.r t mt).same sX), upd_same, sN (hw7.same sM), Nat.le_trans (Nat.le_refl 1) (by decide), Nat.le_trans (Nat.le_refl 1) (by decide), fun D H' T' s' nD hD hT' e' => ?_⟩
          refine qF2 _ ?_ D H' T' (sH.trans (sX.trans s')) (none_of_same (sH.trans sX) nD) hD hT' e'
          have ef : (tp.map Prod.snd).find? (fun r => decide (oppR r ∈ fp.map Prod.snd)) = some t.2 := by
            have e0 : tp.map Prod.snd = (tp.map Prod.snd).take (i + 1) ++ (tp.map Prod.snd).drop (i + 1) := (List.take_append_drop _ _).symm
            rw [e0, List.find?_append, List.take_add_one, ht1, List.find?_append, en]
            show ((none : Option Rw).or (List.find? _ [t.2])).or _ = _
            rw [List.find?_cons, c]
            rfl
          rw [ef]
          rfl
      · obtain ⟨x0, s5, en, rfl⟩ := hq
        rw [List.length_map, ← List.length_map (f := Prod.snd), List.take_length] at en
        exact ⟨x0, s5, en, rfl⟩
    obtain ⟨x0, s5, en, rfl⟩ := hM
    have qF3 := fun F e => qF2 F (by rw [en]; exact e)
    have rc : ∀ {G : Hp}, Same G6 G → ∀ (C' : VK), (∀ L, G L = none → C' (.ref L) (upd G L (.lst (tp.map Prod.fst ++ fp.map Prod.fst)))) → rCat (.ref B) (.ref C) G C' := fun s C' h => ⟨B, C, _, _, rfl, rfl, s _ _ hB4, s _ _ hC4, small_line (by rw [lm, lm]; omega), h⟩
    refine ⟨fun σ G8 => ∃ lv, Same G7 G8 ∧ OqV K G8 lv (wallF (tp.map Prod.snd ++ fp.map Prod.snd) o.1) ∧ σ = [some (.ref p), some (.ref A), x0, some (.ref B), some (.ref C), some (.ref y), some v, some u, some lv, none], ?_, fun σ G8 hM => ?_⟩
    · refine ⟨_, rfl, _, rfl, rc s5 _ fun L nL => ?_⟩
      have sL := same_upd (o := .lst (tp.map Prod.fst ++ fp.map Prod.fst)) nL
      refine ⟨_, rfl, L, v, tp ++ fp, o.1, 2 * k, 8 * k + 1, rfl, SqL.of (by rw [upd_same, List.map_append]), tsPF.same (s5.trans sL), hv.same (s5.trans sL), hO.z1, hO.d1, by omega, fun lv G9 s9 hl => ⟨lv, sL.trans s9, ?_, rfl⟩⟩
      rw [← ePF]
      exact hl
    obtain ⟨lv, s6, hlv, rfl⟩ := hM
    have s56 := s5.trans s6
    refine ⟨fun σ G9 => ∃ rv, Same G8 G9 ∧ OqV K G9 rv (wallF (tp.map Prod.snd ++ fp.map Prod.snd) o.2) ∧ σ = [some (.ref p), some (.ref A), x0, some (.ref B), some (.ref C), some (.ref y), some v, some u, some lv, some rv], ?_, fun σ G9 hM => ?_⟩
    · refine ⟨_, rfl, _, rfl, rc s56 _ fun L nL => ?_⟩
      have sL := same_upd (o := .lst (tp.map Prod.fst ++ fp.map Prod.fst)) nL
      refine ⟨_, rfl, L, u, tp ++ fp, o.2, 2 * k, 8 * k + 1, rfl, SqL.of (by rw [upd_same, List.map_append]), tsPF.same (s56.trans sL), hu.same (s56.trans sL), hO.z2, hO.d2, by omega, fun lv G9 s9 hl => ⟨lv, sL.trans s9, ?_, rfl⟩⟩
      rw [← ePF]
      exact hl
    obtain ⟨rv, s7, hrv, rfl⟩ := hM
    have s57 := s56.trans s7
    have hv7 := hv.same s57
    have hu7 := hu.same s57
    refine ⟨_, rfl, _, rfl, _, rfl, _, rfl, _, rfl, B, v, u, tp, o.1, o.2, 2 * k, 8 * k + 1, rfl, SqL.of (s57 _ _ hB4), tsP4.same s57, hv7, hu7, hO.z1, hO.z2, by omega, by omega, by omega, fun D1 H1 T1 a1 n1 h1 e1 m1 => ?_⟩
    refine ⟨_, rfl, C, _, rfl, SqL.of ((s57.trans a1) _ _ hC4), fun L nL => ?_⟩
    have sL := same_upd (o := .lst (fp.map Prod.fst).reverse) nL
    have s58 := s57.trans (a1.trans sL)
    have lr : fp.reverse.length ≤ 120 := by rw [List.length_reverse]; exact lQ
    refine ⟨_, rfl, _, rfl, L, v, u, fp.reverse, o.1, o.2, 2 * k, 8 * k + 1, rfl, SqL.of (by rw [upd_same, List.map_reverse]), ⟨fun t m => (tsF4.r t (List.mem_reverse.mp m)).same s58, fun t m => tsF4.o t (List.mem_reverse.mp m)⟩, hv.same s58, hu.same s58, hO.z1, hO.z2, by omega, by omega, by omega, fun D2 H2 T2 a2 n2 h2 e2 m2 => ?_⟩
    refine ⟨D2, _, rfl, SqL.of h2, fun M nM => ?_⟩
    have sM := same_upd (o := .lst (T2.map Prod.fst).reverse) nM
    have aM := a2.trans sM
    have s59 := s58.trans aM
    have l1 : T1.length ≤ 400 := by
      have := congrArg List.length e1
      have h := (pickI_sub (shB (tp.map Prod.snd) o.1 o.2) 0 (tp.map Prod.snd)).length_le
      rw [List.length_map] at this h
      have : T1.length = (pickI (shB (tp.map Prod.snd) o.1 o.2) 0 (tp.map Prod.snd)).length := this
      omega
    have l2 : T2.length ≤ 400 := by
      have := congrArg List.length e2
      have h := (pickI_sub (shB (fp.reverse.map Prod.snd) o.1 o.2) 0 (fp.reverse.map Prod.snd)).length_le
      rw [List.length_map] at this h
      have : T2.length = (pickI (shB (fp.reverse.map Prod.snd) o.1 o.2) 0 (fp.reverse.map Prod.snd)).length := this
      omega
    refine ⟨lv, rv, D1, M, _, _, T1, T2.reverse, rfl, hlv.same (s7.trans (a1.trans (sL.trans aM))), hrv.same (a1.trans (sL.trans aM)), (sL.trans aM) _ _ h1, fun t m => (tsP4.r t (m1 t m)).same s59, by rw [upd_same, List.map_reverse], fun t m => (tsF4.r t (List.mem_reverse.mp (m2 t (List.mem_reverse.mp m)))).same s59, l1, by rw [List.length_reverse]; exact l2, fun D H' T' s' nD hD hT' e' => ?_⟩
    refine qF3 _ rfl D H' T' (sH.trans (s59.trans s')) (none_of_same (sH.trans s59) nD) hD hT' ?_
    rw [e', e1, List.map_reverse, e2, List.map_reverse]
end
def spD (f : PyData → Bool) : Sp := fun vs H Q _ => ∃ v d z, vs = [v] ∧ Dt z H v d ∧ Q (.bl (f d)) H
section
variable {P : Program} {w : World} {K : PySem.W.Frag} {mg : Str → Option Value} {base : Heap} {fa : Nat → Addr} {fd : Nat → FuncData}
theorem ok_p_is_whole (T : Txt K mg fa fd) : FnOk P w K mg base CX0 1 (fa 13) (fd 13) ["thing"] (spD isInt) := by
  refine T.F_p_is_whole.ok sc_p_is_whole (fun vs H Q E h => ?_) (fun cdv A outer s H vs Q E hr h => ?_)
  · obtain ⟨v, d, _, rfl, _⟩ := h
    rfl
  · obtain ⟨v, d, z, rfl, hv, q⟩ := h
    refine ⟨_, (pss_one (ps_ret (pe_and (pe_callB call_isi (by rfl) T.m_isinstance PyProof.Rows.boot_isinstance (pa_cons (pv 0) (pa_cons (pe_bltn (v := .ty "int") (by rfl) T.m_int (by decide +kernel) rfl) pa_nil))) (pe_one (pe_not (pe_callB call_isi (by rfl) T.m_isinstance PyProof.Rows.boot_isinstance (pa_cons (pv 0) (pa_cons (pe_bltn (v := .ty "bool") (by rfl) T.m_bool (by decide +kernel) rfl) pa_nil)))))))), ?_⟩
    cases hv with
    | non => exact ⟨_, rfl, _, _, _, _, _, rfl, .ty _, .base .non, kit_ty (r := false) (by decide +kernel), _, rfl, iteF q⟩
    | bl b => exact ⟨_, rfl, _, _, _, _, _, rfl, .ty _, .base (.bl _), kit_ty (r := true) (by decide +kernel), _, rfl, iteT ⟨_, rfl, _, _, _, _, _, rfl, .ty _, .base (.bl _), kit_ty (r := true) (by decide +kernel), _, rfl, q⟩⟩
    | int i _ => exact ⟨_, rfl, _, _, _, _, _, rfl, .ty _, .base (.int _), kit_ty (r := true) (by decide +kernel), _, rfl, iteT ⟨_, rfl, _, _, _, _, _, rfl, .ty _, .base (.int _), kit_ty (r := false) (by decide +kernel), _, rfl, q⟩⟩
    | str x _ => exact ⟨_, rfl, _, _, _, _, _, rfl, .ty _, .base (.str _), kit_ty (r := false) (by decide +kernel), _, rfl, iteF q⟩
    | lst h _ _ => exact ⟨_, rfl, _, _, _, _, _, rfl, .ty _, .base (.lst h), kit_ty (r := false) (by decide +kernel), _, rfl, iteF q⟩
    | tup h _ => exact ⟨_, rfl, _, _, _, _, _, rfl, .ty _, .base (.tup h), kit_ty (r := false) (by decide +kernel), _, rfl, iteF q⟩
theorem ratD_pair (x y : PyData) : ratD (.tuple [x, y]) = (isInt x && (isInt y && ratD (.tuple [x, y]))) := by
  cases x <;> cases y <;> rfl
theorem ratD_one (x : PyData) : ratD (.tuple [x]) = false := by cases x <;> rfl
theorem ratD_many (x y z : PyData) (r : List PyData) : ratD (.tuple (x :: y :: z :: r)) = false := by cases x <;> cases y <;> rfl
theorem ok_p_is_ratio (T : Txt K mg fa fd) : FnOk P w K mg base CX0 2 (fa 17) (fd 17) ["thing"] (spD ratD) := by
  refine T.F_p_is_ratio.ok sc_p_is_ratio (fun vs H Q E h => ?_) (fun cdv A outer s H vs Q E hr h => ?_)
  · obtain ⟨v, d, _, rfl, _⟩ := h
    rfl
  · obtain ⟨v, d, z, rfl, hv, q⟩ := h
    refine ⟨_, (pss_cons (ps_if (PW.pt (pw_or (pt_not (pt_val (pe_callB call_isi (by rfl) T.m_isinstance PyProof.Rows.boot_isinstance (pa_cons (pv 0) (pa_cons (pe_bltn (v := .ty "tuple") (by rfl) T.m_tuple (by decide +kernel) rfl) pa_nil))))) (pw_or1 (pt_cmpR op_ne (pe_callB call_len_seq (by rfl) T.m_len PySem.boot_len (pa_cons (pv 0) pa_nil)) pe_int (nomark _))))) (pss_one (ps_ret pe_bl)) pss_nil)
      (pss_cons (ps_asg (pv 0) (pg_tup (by rfl) (pgs_cons (pg_name (i := 1) sc_p_is_ratio.nd rfl (.inl rfl)) (pgs_cons (pg_name (i := 2) sc_p_is_ratio.nd rfl (.inl rfl)) pgs_nil))))
      (pss_one (ps_ret (pe_and (pe_call (ok_p_is_whole T) (hr.mono (by decide)) (by rfl) T.g_p_is_whole T.F_p_is_whole.kp T.b_p_is_whole .nil pass0 (pa_cons (pv 1) pa_nil)) (pe_and (pe_call (ok_p_is_whole T) (hr.mono (by decide)) (by rfl) T.g_p_is_whole T.F_p_is_whole.kp T.b_p_is_whole .nil pass0 (pa_cons (pv 2) pa_nil)) (pe_and (pe_cmpR op_ge (pv 2) pe_int (nomark _)) (pe_one (pe_cmpR op_eq (pe_call (ok_p_common_divisor T) (hr.mono (by decide)) (by rfl) T.g_p_common_divisor T.F_p_common_divisor.kp T.b_p_common_divisor .nil pass0 (pa_cons (pv 1) (pa_cons (pv 2) pa_nil))) pe_int (nomark _)))))))))), ?_⟩
    refine ⟨_, rfl, _, _, _, _, _, rfl, .ty _, .base hv.ty, kit_ty kitTup, _, rfl, ?_⟩
    rcases hv.split with e | ⟨p, xs, ds, rfl, rfl, hp, hs⟩
    · rw [e]
      refine iteT (iteT ?_)
      have : ratD d = false := by cases d <;> first | rfl | cases e
      rw [this] at q
      exact q
    · refine iteF ⟨_, rfl, p, xs, rfl, .inr (SqT.of hp), rfl, _, rfl, ?_⟩
      rw [hs.len]
      match xs, ds, hs with
      | _, [], _ => exact iteT q
      | _, [x], _ =>
        rw [ratD_one] at q
        exact iteT q
      | _, x :: y :: z :: r, _ =>
        rw [ratD_many] at q
        rw [decide_eq_false (by simp; omega)]
        exact iteT q
      | _, [d1, d2], .cons (v := x) h1 (.cons (v := y) h2 .nil) =>
        rw [decide_eq_true (show V.int (([d1, d2] : List PyData).length : Int) = V.int 2 from rfl)]
        refine iteF ⟨_, rfl, p, _, rfl, SqT.of hp, rfl, x, [y], rfl, y, [], rfl, rfl, ?_⟩
        refine ⟨_, rfl, x, d1, _, rfl, h1, _, rfl, ?_⟩
        rw [ratD_pair] at q
        cases e1 : isInt d1 with
        | false =>
          rw [e1] at q
          exact iteF q
        | true =>
          rw [e1] at q
          refine iteT ⟨_, rfl, y, d2, _, rfl, h2, _, rfl, ?_⟩
          cases e2 : isInt d2 with
          | false =>
            rw [e2] at q
            exact iteF q
          | true =>
            rw [e2] at q
            cases h1 with
            | int t _ =>
              cases h2 with
              | int u hbu =>
                refine iteT ⟨_, rfl, _, _, rfl, rfl, _, rfl, ?_⟩
                have q : Q (.bl (decide (1 ≤ u) && decide (Int.gcd t u = 1))) H := q
                cases eu : decide (1 ≤ u) with
                | false =>
                  rw [eu] at q
                  exact iteF q
                | true =>
                  rw [eu] at q
                  refine iteT ⟨_, rfl, _, rfl, t, u, rfl, .inr hbu, rfl, ?_⟩
                  have e : decide (V.int (Int.gcd t u : Nat) = V.int 1) = decide (Int.gcd t u = 1) := by
                    rw [decide_eq_decide]
                    constructor
                    · intro h
                      have := V.int.inj h
                      omega
                    · intro h
                      rw [h]
                      rfl
                  rw [e]
                  exact q
              | _ => cases e2
            | _ => cases e1
end
def nzD : PyData → Bool
  | .int i => decide (i ≠ 0)
  | _ => false
def rowD : PyData → Bool
  | .tuple [x, y, c] => isInt x && (isInt y && ((nzD x || nzD y) && ratD c))
  | _ => false
section
variable {P : Program} {w : World} {K : PySem.W.Frag} {mg : Str → Option Value} {base : Heap} {fa : Nat → Addr} {fd : Nat → FuncData}
theorem ok_p_is_row (T : Txt K mg fa fd) : FnOk P w K mg base CX0 3 (fa 26) (fd 26) ["thing"] (spD rowD) := by
  refine T.F_p_is_row.ok sc_p_is_row (fun vs H Q E h => ?_) (fun cdv A outer s H vs Q E hr h => ?_)
  · obtain ⟨v, d, _, rfl, _⟩ := h
    rfl
  · obtain ⟨v, d, z, rfl, hv, q⟩ := h
    refine ⟨_, (C8.pss_cut (ps_if (PW.pt (pw_or (pt_not (pt_val (pe_callB call_isi (by rfl) T.m_isinstance PyProof.Rows.boot_isinstance (pa_cons (pv 0) (pa_cons (pe_bltn (v := .ty "tuple") (by rfl) T.m_tuple (by decide +kernel) rfl) pa_nil))))) (pw_or1 (pt_cmpR op_ne (pe_callB call_len_seq (by rfl) T.m_len PySem.boot_len (pa_cons (pv 0) pa_nil)) pe_int (nomark _))))) (pss_one (ps_ret pe_bl)) pss_nil)
      (C8.pss_cut (ps_asg (pv 0) (pg_tup (by rfl) (pgs_cons (pg_name (i := 1) sc_p_is_row.nd rfl (.inl rfl)) (pgs_cons (pg_name (i := 2) sc_p_is_row.nd rfl (.inl rfl)) (pgs_cons (pg_name (i := 3) sc_p_is_row.nd rfl (.inl rfl)) pgs_nil)))))
      (pss_one (ps_ret (pe_and (pe_call (ok_p_is_whole T) (hr.mono (by decide)) (by rfl) T.g_p_is_whole T.F_p_is_whole.kp T.b_p_is_whole .nil pass0 (pa_cons (pv 1) pa_nil)) (pe_and (pe_call (ok_p_is_whole T) (hr.mono (by decide)) (by rfl) T.g_p_is_whole T.F_p_is_whole.kp T.b_p_is_whole .nil pass0 (pa_cons (pv 2) pa_nil)) (pe_and (pe_or (pe_cmpR op_ne (pv 1) pe_int (nomark _)) (pe_one (pe_cmpR op_ne (pv 2) pe_int (nomark _)))) (pe_one (pe_call (ok_p_is_ratio T) (hr.mono (by decide)) (by rfl) T.g_p_is_ratio T.F_p_is_ratio.kp T.b_p_is_ratio .nil pass0 (pa_cons (pv 3) pa_nil)))))))))), ?_⟩
    refine ⟨fun σ G => ∃ p u1 u2 u3 d1 d2 d3, G = H ∧ v = .ref p ∧ d = .tuple [d1, d2, d3] ∧ H p = some (.tup [u1, u2, u3]) ∧ Dt z H u1 d1 ∧ Dt z H u2 d2 ∧ Dt z H u3 d3 ∧ σ = [some v, none, none, none], ?_, fun σ G hM => ?_⟩
    · refine ⟨_, rfl, _, _, _, _, _, rfl, .ty _, .base hv.ty, kit_ty kitTup, _, rfl, ?_⟩
      rcases hv.split with e | ⟨p, xs, ds, rfl, rfl, hp, hs⟩
      · rw [e]
        refine iteT (iteT ?_)
        have : rowD d = false := by cases d <;> first | rfl | cases e
        rw [this] at q
        exact q
      · refine iteF ⟨_, rfl, p, xs, rfl, .inr (SqT.of hp), rfl, _, rfl, ?_⟩
        rw [hs.len]
        match xs, ds, hs with
        | _, [], _ => exact iteT q
        | _, [x], _ => exact iteT q
        | _, [x, y], _ => exact iteT q
        | _, x :: y :: z :: t :: r, _ =>
          have e : rowD (.tuple (x :: y :: z :: t :: r)) = false := rfl
          rw [e] at q
          rw [decide_eq_false (by simp; omega)]
          exact iteT q
        | _, [d1, d2, d3], .cons (v := x) h1 (.cons (v := y) h2 (.cons (v := t) h3 .nil)) =>
          rw [decide_eq_true (show V.int (([d1, d2, d3] : List PyData).length : Int) = V.int 3 from rfl)]
          exact iteF ⟨p, x, y, t, d1, d2, d3, rfl, rfl, rfl, hp, h1, h2, h3, rfl⟩
    obtain ⟨p, u1, u2, u3, d1, d2, d3, rfl, rfl, rfl, hp, h1, h2, h3, rfl⟩ := hM
    refine ⟨fun σ G' => G' = G ∧ σ = [some (.ref p), some u1, some u2, some u3], ⟨_, rfl, p, _, rfl, SqT.of hp, rfl, _, _, rfl, _, _, rfl, _, _, rfl, rfl, rfl, rfl⟩, fun σ G' hM => ?_⟩
    obtain ⟨rfl, rfl⟩ := hM
    have q : Q (.bl (isInt d1 && (isInt d2 && ((nzD d1 || nzD d2) && ratD d3)))) G' := q
    refine ⟨_, rfl, u1, d1, z, rfl, h1, _, rfl, ?_⟩
    cases e1 : isInt d1 with
    | false =>
      rw [e1] at q
      exact iteF q
    | true =>
      rw [e1] at q
      refine iteT ⟨_, rfl, u2, d2, z, rfl, h2, _, rfl, ?_⟩
      cases e2 : isInt d2 with
      | false =>
        rw [e2] at q
        exact iteF q
      | true =>
        rw [e2] at q
        cases h1 with
        | int a _ =>
          cases h2 with
          | int b _ =>
            refine iteT ⟨_, rfl, rfl, _, rfl, ?_⟩
            have e3 : nzD (.int a) = decide (a ≠ 0) := rfl
            have e4 : nzD (.int b) = decide (b ≠ 0) := rfl
            rw [e3, e4] at q
            have q : Q (.bl ((decide (a ≠ 0) || decide (b ≠ 0)) && ratD d3)) G' := q
            have fin : ∀ (c : Bool), c = (decide (a ≠ 0) || decide (b ≠ 0)) → ∃ k, V.bl c = V.bl k ∧ if k = true then tCall (spD ratD) [] E0 (tCons (tVar 3) tNil) [some (.ref p), some (.int a), some (.int b), some u3] G' Q else Q (.bl false) G' := fun c e => by
              rw [← e] at q
              cases c with
              | false => exact ⟨_, rfl, iteF q⟩
              | true => exact ⟨_, rfl, iteT ⟨_, rfl, u3, d3, z, rfl, h3, q⟩⟩
            by_cases ca : a = 0
            · refine iteFq (int1n ca) ⟨_, rfl, rfl, ?_⟩
              by_cases cb : b = 0
              · rw [int1n cb]
                exact fin _ (by rw [ca, cb]; rfl)
              · rw [int1 cb]
                exact fin _ (by rw [decide_eq_true cb, Bool.or_true])
            · refine iteTq (int1 ca) ?_
              exact fin _ (by rw [decide_eq_true ca, Bool.true_or])
          | _ => cases e2
        | _ => cases e1
end
/-- rows as data -/
def RowsD (H : Hp) (T : List VR) : Prop := ∀ t ∈ T, ∃ z, Dt z H t.1 (dR t.2) ∧ rowD (dR t.2) = true
theorem RowsD.same {H H' : Hp} {T : List VR} (h : RowsD H T) (s : Same H H') : RowsD H' T := fun t m => (h t m).imp fun _ q => ⟨q.1.same s, q.2⟩
theorem rowD_iff {r : Rw} : rowD (dR r) = true ↔ (¬ (r.a = 0 ∧ r.b = 0)) ∧ 1 ≤ r.c.2 ∧ Int.gcd r.c.1 r.c.2 = 1 := by
  have e : rowD (dR r) = ((decide (r.a ≠ 0) || decide (r.b ≠ 0)) && (decide (1 ≤ r.c.2) && decide (Int.gcd r.c.1 r.c.2 = 1))) := rfl
  rw [e, Bool.and_eq_true, Bool.and_eq_true, Bool.or_eq_true, decide_eq_true_eq, decide_eq_true_eq, decide_eq_true_eq, decide_eq_true_eq]
  constructor
  · rintro ⟨h, g⟩
    exact ⟨fun ⟨a, b⟩ => h.elim (fun x => x a) fun x => x b, g⟩
  · rintro ⟨h, g⟩
    refine ⟨?_, g⟩
    by_cases a : r.a = 0
    · exact .inr fun b => h ⟨a, b⟩
    · exact .inl a
theorem dt_int {z : Addr} {H : Hp} {v : V} {i : Int} (h : Dt z H v (.int i)) : v = .int i := by cases h; rfl
theorem dt_pair {z : Addr} {H : Hp} {v : V} {a b : PyData} (h : Dt z H v (.tuple [a, b])) : ∃ p x y, v = .ref p ∧ H p = some (.tup [x, y]) ∧ Dt z H x a ∧ Dt z H y b := by
  cases h with
  | tup hp hs => cases hs with
    | cons h1 hs => cases hs with
      | cons h2 hs => cases hs with
        | nil => exact ⟨_, _, _, rfl, hp, h1, h2⟩
theorem rwv_dt {K : PySem.W.Frag} {z : Addr} {H : Hp} {v : V} {r : Rw} (h : Dt z H v (dR r)) : RwV K H v r := by
  cases h with
  | tup hp hs => cases hs with
    | cons h1 hs => cases hs with
      | cons h2 hs => cases hs with
        | cons h3 hs => cases hs with
          | nil =>
            obtain ⟨p, x, y, rfl, hq, a, b⟩ := dt_pair h3
            cases dt_int h1
            cases dt_int h2
            cases dt_int a
            cases dt_int b
            exact ⟨_, _, rfl, SqT.of hp, p, rfl, SqT.of hq⟩
theorem RowsD.rs {K : PySem.W.Frag} {H : Hp} {T : List VR} (h : RowsD H T) : Rs K H T := fun t m => by
  obtain ⟨z, q, _⟩ := h t m
  exact rwv_dt q
/-- a figure: its rows, or nothing -/
structure FigH (K : PySem.W.Frag) (C : Addr) (H : Hp) (x : Addr) (F : Option (List Rw)) : Prop where
  at_ : ∃ dx S T, H x = some (.ins C dx [("filled", .bl F.isSome), ("sides", .ref S)]) ∧ SqT K H S (T.map Prod.fst) ∧ Rs K H T ∧ T.map Prod.snd = F.getD []
def spFigS (S : PySem.W.Frag → Hp → Addr → List V → Prop) (K : PySem.W.Frag) (C : Addr) : Sp := fun vs H Q _ => ∃ (self L dx : Addr) (T : List VR) (k : Nat), vs = [.ref self, .ref L] ∧ H self = some (.ins C dx []) ∧ S K H L (T.map Prod.fst) ∧ RowsD H T ∧ (∀ t ∈ T, RwZ k t.2) ∧ 1 ≤ k ∧ k ≤ 300 ∧ T.length ≤ 120 ∧
  ∀ H', (∀ b o, b ≠ self → H b = some o → H' b = some o) → FigH K C H' self (canonF (T.map Prod.snd)) → Q .non H'
section
variable {P : Program} {w : World} {K : PySem.W.Frag} {mg : Str → Option Value} {base : Heap} {fa : Nat → Addr} {fd : Nat → FuncData}
theorem ok_p_FigInitL (T : Txt K mg fa fd) : FnOk P w K mg base CX0 15 (fa 1500) (fd 1500) ["self", "rows"] (spFigS (fun K H L xs => SqL K H L xs) K (fa 63)) := by
  refine T.F_FigInit.ok sc_p_FigInit (fun vs H Q E h => ?_) (fun cdv A outer s H vs Q E hr h => ?_)
  · obtain ⟨self, L, dx, ts, k, rfl, _⟩ := h
    rfl
  · obtain ⟨self, L, dx, ts, k, rfl, hself, hL, hD, hz, hk1, hk, hl, q⟩ := h
    refine ⟨_, PSs.nox (C8.pss_cut (ps_for PassesOwn.never rfl (pi_enum (by rfl) T.m_enumerate (pa_cons (pv 1) pa_nil)) (pg_tup (by rfl) (pgs_cons (pg_name (i := 2) sc_p_FigInit.nd rfl (.inl rfl)) (pgs_cons (pg_name (i := 3) sc_p_FigInit.nd rfl (.inl rfl)) pgs_nil))) (pss_one (ps_if (pt_not (pt_val (pe_call (ok_p_is_row T) (hr.mono (by decide)) (by rfl) T.g_p_is_row T.F_p_is_row.kp T.b_p_is_row .nil pass0 (pa_cons (pv 3) pa_nil)))) (pss_one ps_never) pss_nil)))
      (C8.pss_cut (ps_set (i := 4) sc_p_FigInit.nd rfl (.inl rfl) (pe_call (ok_p_canonical T) (hr.mono (by decide)) (by rfl) T.g_p_canonical T.F_p_canonical.kp T.b_p_canonical .nil pass0 (pa_cons (pv 1) pa_nil)))
      (C8.pss_cut (ps_fld (pv 0) (pe_cmpR op_notN (pv 4) pe_non (nomark _)) (by rfl))
      (pss_one (ps_fld (pv 0) (pe_ifExp (pt_cmpR op_notN (pv 4) pe_non (nomark _)) (pe_callTy call_tuple_of (by rfl) T.m_tuple (by decide +kernel) (pa_cons (pv 4) pa_nil)) (pe_tup pa_nil)) (by rfl)))))), ?_⟩
    refine ⟨fun σ G => Same H G ∧ ∃ y3 y4, σ = [some (.ref self), some (.ref L), y3, y4, none], ?_, fun σ G hM => ?_⟩
    · refine ⟨_, rfl, L, _, rfl, hL, for_enum (K := K) (a := L) (xs := ts.map Prod.fst) (fun i σ G => Same H G ∧ ∃ y3 y4, σ = [some (.ref self), some (.ref L), y3, y4, none]) ⟨fun _ _ e => e, _, _, rfl⟩ (fun i σ G _ hq => SqL_sm hq.1 hL) (fun i x σ G Tt hx hq nT => ?_) (fun σ G hq => hq)⟩
      obtain ⟨s, y3, y4, rfl⟩ := hq
      rw [List.getElem?_map] at hx
      obtain ⟨t, ht0, rfl⟩ := Option.map_eq_some_iff.mp hx
      have mt := List.mem_of_getElem? ht0
      have sT := same_upd (o := .tup [V.int (i : Nat), t.1]) nT
      have s1 := s.trans sT
      obtain ⟨z, hz', hrow⟩ := hD t mt
      refine ⟨Tt, _, rfl, SqT.of upd_same, rfl, _, _, rfl, _, _, rfl, rfl, ?_⟩
      refine ⟨_, rfl, t.1, dR t.2, z, rfl, hz'.same s1, _, rfl, ?_⟩
      rw [hrow]
      exact iteF ⟨s1, _, _, rfl⟩
    obtain ⟨s1, y3, y4, rfl⟩ := hM
    have okR : ∀ t ∈ ts, RwOk k t.2 := fun t m => by
      obtain ⟨z, _, hrow⟩ := hD t m
      obtain ⟨hw, hd, _⟩ := rowD_iff.mp hrow
      exact ⟨hz t m, hw, by omega⟩
    refine ⟨fun σ G2 => ∃ sv, Same H G2 ∧ ((sv = .non ∧ canonF (ts.map Prod.snd) = none) ∨ ∃ (D : Addr) (T' : List VR), sv = .ref D ∧ G2 D = some (.lst (T'.map Prod.fst)) ∧ Rs K G2 T' ∧ canonF (ts.map Prod.snd) = some (T'.map Prod.snd)) ∧ σ = [some (.ref self), some (.ref L), y3, y4, some sv], ?_, fun σ G2 hM => ?_⟩
    · exact ⟨_, rfl, L, ts, k, rfl, .inl (SqL_sm s1 hL), hD.rs.same s1, okR, hk1, hk, hl, fun e H' s' => ⟨.non, s1.trans s', .inl ⟨rfl, e⟩, rfl⟩, fun F e D H' T' s' nD hD' hT' e' => ⟨.ref D, s1.trans s', .inr ⟨D, T', rfl, hD', hT', by rw [e, e']⟩, rfl⟩⟩
    obtain ⟨sv, s2, hsv, rfl⟩ := hM
    have hs2 := s2 _ _ hself
    have edec : (!decide (sv = V.non)) = (canonF (ts.map Prod.snd)).isSome := by
      rcases hsv with ⟨rfl, e⟩ | ⟨D, T', rfl, _, _, e⟩
      · rw [e]; rfl
      · rw [e]; rfl
    refine ⟨fun σ G3 => G3 = upd G2 self (.ins (fa 63) dx [("filled", .bl (canonF (ts.map Prod.snd)).isSome)]) ∧ σ = [some (.ref self), some (.ref L), y3, y4, some sv], ?_, fun σ G3 hM => ?_⟩
    · exact ⟨_, rfl, rfl, _, rfl, self, _, dx, [], rfl, hs2, T.cl_Figure, T.na_Figure_filled, by show 0 < 1000; decide, by rw [edec]; rfl, rfl⟩
    obtain ⟨rfl, rfl⟩ := hM
    have oth : ∀ o, ∀ b u, b ≠ self → H b = some u → (upd G2 self o) b = some u := fun o b u nb e => (upd_ne nb).trans (s2 _ _ e)
    have ntI : ∀ {G : Hp} {fs : List (Str × V)}, G self = some (.ins (fa 63) dx fs) → NoT G self := fun h xs => ⟨(fun e => by rw [h] at e; cases e), (fun q e => by rw [h] at e; cases e)⟩
    refine ⟨_, rfl, rfl, _, rfl, ?_⟩
    rw [edec]
    rcases hsv with ⟨rfl, e⟩ | ⟨D, T', rfl, hD', hT', e⟩
    · rw [e] at q ⊢
      refine iteF ⟨small_line (by show 0 ≤ 1000; decide), fun S nS => ?_⟩
      have nSs : S ≠ self := fun e => by rw [e, upd_same] at nS; cases nS
      refine ⟨_, rfl, self, _, dx, [("filled", V.bl (none : Option (List Rw)).isSome)], rfl, ?_, T.cl_Figure, T.na_Figure_sides, by show 1 < 1000; decide, ?_⟩
      · rw [upd_ne nSs.symm, upd_same]
      · refine q _ (fun b o nb eb => ?_) ⟨dx, S, [], upd_same, SqT.of ?_, (fun _ m => by cases m), rfl⟩
        · have nSb : b ≠ S := fun z => by
            rw [z] at eb nb
            rw [upd_ne nb] at nS
            rw [s2 _ _ eb] at nS
            cases nS
          rw [upd_ne nb, upd_ne nSb, upd_ne nb]
          exact s2 _ _ eb
        · rw [upd_ne nSs, upd_same]
          rfl
    · rw [e] at q ⊢
      have nDs : D ≠ self := fun z => by rw [z, hs2] at hD'; cases hD'
      refine iteT ⟨_, rfl, D, _, rfl, .inl ⟨SqL.of ((upd_ne nDs).trans hD'), fun S nS => ?_⟩⟩
      have nSs : S ≠ self := fun e => by rw [e, upd_same] at nS; cases nS
      have nSG : G2 S = none := by rw [upd_ne nSs] at nS; exact nS
      refine ⟨_, rfl, self, _, dx, [("filled", V.bl (some (T'.map Prod.snd)).isSome)], rfl, ?_, T.cl_Figure, T.na_Figure_sides, by show 1 < 1000; decide, ?_⟩
      · rw [upd_ne nSs.symm, upd_same]
      · refine q _ (fun b o nb eb => ?_) ⟨dx, S, T', upd_same, SqT.of ?_, fun t m => ?_, rfl⟩
        · have nSb : b ≠ S := fun z => by
            rw [z] at eb
            rw [s2 _ _ eb] at nSG
            cases nSG
          rw [upd_ne nb, upd_ne nSb, upd_ne nb]
          exact s2 _ _ eb
        · rw [upd_ne nSs, upd_same]
        · have h1 := (hT' t m).ex (ExF.at self (.ins (fa 63) dx [("filled", .bl (some (T'.map Prod.snd)).isSome)]) G2) (ntI hs2)
          have h2 := h1.same (same_upd (o := .tup (T'.map Prod.fst)) nS)
          exact h2.ex (ExF.at self _ _) (ntI (by rw [upd_ne nSs.symm, upd_same]))
end
/-! ### for i, x in enumerate(tuple) -/
section
open AutoSeq1 (wpAny_loadPart')
set_option maxHeartbeats 1000000 in
theorem en1_meets {v : Value} {ob : Obj} {G : Heap → Prop} (B : Begins v ob G) : Meets (Builtin.«enumerate.__new__» ⟨[.type "enumerate", v], []⟩) (fun _ R s => G s.heap ∧
      R (.ok (.ret (.ref (s.heap.push ob).objs.size))) { s with heap := (s.heap.push ob).push { cls := .type "enumerate", data := .fields #[.none, .bool false, .ref s.heap.objs.size, rawInt 0, .none, .none] } }) := .of_wp fun prog w A R s hG => by
  obtain ⟨hp, gg, dr, tk, os⟩ := s
  obtain ⟨g1, hG⟩ := hG
  have se := sub_enumerate
  have pit : ∀ {A' : Around} {E' : Value → Shared → Prop} {Q' : Value → Shared → Prop}, Q' (.ref hp.objs.size) ⟨hp.push ob, gg, dr, tk, os⟩ → wpAny (model prog w) A' (pyIter v) Q' E' ⟨hp, gg, dr, tk, os⟩ := fun q => B.iter prog w _ _ ⟨hp, gg, dr, tk, os⟩ _ g1 q
  wp_walk using pit
  refine wpAny_stack_any fun _ => wpAny_pure ?_
  split
  · rename_i c' _ _ _ _ _
    cases (c' == Value.type "enumerate") <;> (wp_walk using pit; exact ⟨_, rfl, hG⟩)
  · wp_walk using pit
    exact ⟨_, rfl, hG⟩
theorem en1_call {prog : Program} {w : World} {A : Around} {E : Value → Shared → Prop} {s : Shared} {v : Value} {ob : Obj} {G : Heap → Prop} {Q : Value → Shared → Prop} (B : Begins v ob G) (g1 : G s.heap)
    (q : ∀ h', IsEnum h' (s.heap.objs.size + 1) s.heap.objs.size 0 .none → h'.get? s.heap.objs.size = some ob → (∀ b o, s.heap.get? b = some o → h'.get? b = some o) → Q (.ref (s.heap.objs.size + 1)) { s with heap := h' }) :
    wpAny (model prog w) A (call (.type "enumerate") [v]) Q E s := by
  refine callType_new F.called_enumerate (by decide) (F.typeCall_enumerate_1 _) (F.newCall_enumerate_1 _) (fun x => F.args_object_init_2 x _) F.entry_enumerate_new (en1_meets B) ⟨g1, ?_⟩
  have z1 : (s.heap.push ob).objs.size = s.heap.objs.size + 1 := Heap.size_push ..
  have e1 := Heap.get?_push_size (s.heap.push ob) (o := { cls := .type "enumerate", data := .fields #[.none, .bool false, .ref s.heap.objs.size, rawInt 0, .none, .none] }) rfl
  show _ ∧ _
  rw [z1] at e1 ⊢
  exact ⟨⟨_, e1, rfl⟩, q _ e1 (Heap.get?_push_of_some _ (Heap.get?_push_size _ B.free)) fun b o x => Heap.get?_push_of_some _ (Heap.get?_push_of_some _ x)⟩
end
/-- each item of the tuple at a in a new pair -/
def IteT (K : PySem.W.Frag) (a : Addr) : L2.It :=
  ⟨fun i H => ∃ (xs : List V) (x : V), SqT K H a xs ∧ xs[i]? = some x, fun i H v H' => ∃ T x, v = .ref T ∧ H T = none ∧ H' = upd H T (.tup [.int (i : Nat), x]) ∧ ∀ ys, SqT K H a ys → ys[i]? = some x, fun i H => ∃ xs : List V, SqT K H a xs ∧ xs.length ≤ i⟩
theorem turn_enumT {P : Program} {w : World} {K : PySem.W.Frag} {elts : List Expr} {kk : Nat} {tpos : Pos} (a e it : Addr) :
    Turn P w K (.Tuple elts kk tpos) (IteT K a) [e, it] e (fun i h => (∃ v, IsEnum h e it ((i : Nat) : Int) v) ∧ h.IsTupleIter it a i ∧ e ≠ it ∧ e ≠ a ∧ a ≠ it) where
  mem := List.mem_cons_self
  obj := fun i h st b hb => by
    obtain ⟨⟨v0, he⟩, ⟨o, ho, hc, hd⟩, _⟩ := st
    rcases (by simpa using hb : b = e ∨ b = it) with rfl | rfl
    · exact ⟨_, he, fun v q => nomatch q⟩
    · exact ⟨o, ho, fun v q => by rw [hd] at q; cases q⟩
  keep := fun i h h' st k => by
    obtain ⟨⟨v0, he⟩, hit, n1, n2, n3⟩ := st
    exact ⟨⟨v0, k e List.mem_cons_self _ he⟩, hit.at fun o q => k it (List.mem_cons_of_mem _ List.mem_cons_self) o q, n1, n2, n3⟩
  item := by
    intro X hP hw hK hc i pins s σ H E I hf st hg
    cases hP
    cases hw
    cases hK
    obtain ⟨⟨v0, he⟩, hit, n1, n2, n3⟩ := st
    obtain ⟨xs, x, hq, hx⟩ := hg
    obtain ⟨us, rv, tp, hz⟩ := I.tuple hq
    obtain ⟨u, hu, ru⟩ := rv.get hx
    have le1 : e < s.heap.objs.size := Heap.lt_size he
    have le2 : it < s.heap.objs.size := by
      obtain ⟨_, q, _⟩ := hit
      exact Heap.lt_size q
    have tp' : s.heap.IsTuple a us.toArray := tp
    have hh : X.A.in1.handled = none := I.ok.hd hc
    refine wpAny_pyNext_enum_itemD (Draws.tuple hh it a n3 us.toArray) he ⟨hit, tp'⟩ (i := i) (by have := (List.getElem?_eq_some_iff.mp hu).1; simpa using this) n1 (by simp [n1, n2]) fun y h1 tk hy ho hst hT hsz hk => ?_
    have ey : y = u := by
      have hy' : us.toArray[i]? = some y := hy
      rw [List.getElem?_toArray, hu] at hy'
      exact (Option.some.inj hy').symm
    subst ey
    refine ⟨_, rfl, wpAny_letOwnedTupleGo_enum (s := { s with heap := h1, toks := tk + 1 }) ho fun h2 he2 sb => ?_⟩
    have hT2 : h2.get? s.heap.objs.size = some { cls := .type "tuple", data := .seq #[.int i tk, y] } := (sb.2 _ (Nat.ne_of_gt le1)).trans hT
    have newO : ObjOk X.prog X.w (upd H s.heap.objs.size (.tup [.int (i : Nat), x])) h2 s.heap.objs.size (.tup [.int (i : Nat), x]) :=
      ⟨by show 2 ≤ sizeLine; decide, [.int i tk, y], .cons ⟨_, rfl⟩ (.cons ru .nil), ⟨_, hT2, rfl, _, rfl⟩⟩
    have I1 : Inv X pins σ (upd H s.heap.objs.size (.tup [.int (i : Nat), x])) { s with heap := h2, toks := tk + 1 } :=
      I.turnedNew (ch := [e, it]) (fun b ob hb q => (sb.2 b (fun z => hb (by simp [z]))).trans (hk b ob (fun z => hb (by simp [z])) (fun z => hb (by simp [z])) q)) hf (Nat.le_refl _) newO
    refine ⟨.ref s.heap.objs.size, _, I1, rfl, ⟨_, x, rfl, I.hok.fresh (Nat.le_refl _), rfl, fun ys hy2 => by rw [I.tuple_inj hy2 hq]; exact hx⟩, ⟨⟨y, ?_⟩, hst.1.at fun o q => (sb.2 it (Ne.symm n1)).trans q, n1, n2, n3⟩, fun b hb => ?_⟩
    · rw [show ((i + 1 : Nat) : Int) = (i : Int) + 1 by omega]
      exact he2
    · have lb : b < s.heap.objs.size := by
        rcases (by simpa using hb : b = e ∨ b = it) with rfl | rfl
        · exact le1
        · exact le2
      rw [upd_ne (Nat.ne_of_lt lb)]
      exact (hf b hb).1
  done := by
    intro X hP hw hK hc i pins s σ H E I hf st hg
    cases hP
    cases hw
    cases hK
    obtain ⟨⟨v0, he⟩, hit, n1, n2, n3⟩ := st
    obtain ⟨xs, hq, hx⟩ := hg
    obtain ⟨us, rv, tp, hz⟩ := I.tuple hq
    have tp' : s.heap.IsTuple a us.toArray := tp
    obtain ⟨f0, f1, f2, f3, f4, f5⟩ := hf it (List.mem_cons_of_mem _ List.mem_cons_self)
    have hl := rv.length
    have hh : X.A.in1.handled = none := I.ok.hd hc
    have D0 : Draws X.prog X.w X.A.in1 it [it, a] 0 (fun _ _ => False) (fun _ h => h.IsTupleIter it a i ∧ h.IsTuple a us.toArray) := {
      live := fun _ _ st => by
        obtain ⟨o, ho, _⟩ := st.1
        exact ⟨o, ho⟩
      frame := fun _ _ _ st k => ⟨st.1.at fun o e => k it List.mem_cons_self o e, st.2.at fun o e => k a (List.mem_cons_of_mem _ List.mem_cons_self) o e⟩
      item := fun _ _ _ _ z => absurd z (Nat.not_lt_zero _)
      done := fun s Q E st q => wpAny_nextOf_tuple_end hh st.1 st.2 (by simp; omega) q }
    exact wpAny_pyNext_enum_endD D0 he ⟨hit, tp'⟩ fun h1 eb => ⟨rfl, I.turned (t' := s.toks) (fun b o hb q => eb b o (fun z => hb (by simp [z])) q) f0 f1 f3 f4 f5⟩
  self := fun A i s Q E st h => by
    obtain ⟨⟨_, he⟩, _⟩ := st
    exact wpAny_pyIter_enum he h
def iEnumT (K : PySem.W.Frag) (ta : TA) : TI := fun σ H R => ta σ H fun vs H1 => ∃ a xs, vs = [.ref a] ∧ SqT K H1 a xs ∧ R (IteT K a) H1
theorem pi_enumT {X : Cx} {e : Expr} {ta : TA} {p pos tpos : Pos} {elts : List Expr} {kk : Nat} (hg : Gl X "enumerate") (hm : X.mg "enumerate" = none) (ha : PA X [e] ta) (hs : starEach [e] X.env = [(false, eval e X.env)] := by rfl) :
    PI X (.Tuple elts kk tpos) (.Call (.Name "enumerate" p) [e] [] pos) (iEnumT X.K ta) := by
  refine ⟨fun pins s σ H R I h => ?_⟩
  refine Call_ (ld_blt I hg hm boot_enumerate (PyProof.Rows.callWith_type1 (thn (ha.run pos pins s σ H _ I h) fun us s1 ⟨vs, H1, I1, r1, a, xs, ex, hq, q⟩ => ?_) hs rfl))
  subst ex
  obtain ⟨u0, rfl, r0⟩ : ∃ u, us = [u] ∧ RelV (.ref a) u := by
    cases r1 with
    | cons r rr =>
      cases rr
      exact ⟨_, rfl, r⟩
  obtain rfl : u0 = Value.ref a := r0
  obtain ⟨its, rv, tp, hz⟩ := I1.tuple hq
  have tp' : s1.heap.IsTuple a its.toArray := tp
  have la : a < s1.heap.objs.size := by
    obtain ⟨o, q0, _⟩ := id tp'
    exact Heap.lt_size q0
  refine en1_call (begins_tuple a its.toArray) tp' fun h1 he ho hk => wpAny_pyIter_enum he ?_
  have I2 : Inv X pins σ H1 { s1 with heap := h1 } := I1.kept (t' := s1.toks) hk
  have nb : ∀ b ∈ [s1.heap.objs.size + 1, s1.heap.objs.size], s1.heap.objs.size ≤ b := fun b hb => by
    rcases (by simpa using hb : b = s1.heap.objs.size + 1 ∨ b = s1.heap.objs.size) with rfl | rfl
    · exact Nat.le_succ _
    · exact Nat.le_refl _
  exact ⟨s1.heap.objs.size + 1, [s1.heap.objs.size + 1, s1.heap.objs.size], _, _, H1, rfl, I2, turn_enumT a (s1.heap.objs.size + 1) s1.heap.objs.size,
    ⟨⟨.none, he⟩, ⟨_, ho, rfl, rfl⟩, Nat.succ_ne_self _, Nat.ne_of_gt (Nat.lt_succ_of_lt la), Nat.ne_of_lt la⟩, fun b hb => I1.fpOk (nb b hb) (I1.hok.fresh (nb b hb)), q⟩
theorem for_enumT {K : PySem.W.Frag} {a : Addr} {xs : List V} {g : TG} {tb : TS} {D : Ends} {σ : L2.St} {H : Hp} (Pv : Nat → L2.St → Hp → Prop) (h0 : Pv 0 σ H) (hl : ∀ i σ H, i ≤ xs.length → Pv i σ H → SqT K H a xs)
    (hs : ∀ i x σ H T, xs[i]? = some x → Pv i σ H → H T = none → g (.ref T) σ (upd H T (.tup [.int (i : Nat), x])) fun σ2 H2 => tb { D with nx := Pv (i + 1), ct := Pv (i + 1), bk := D.nx } σ2 H2) (hd : ∀ σ H, Pv xs.length σ H → D.nx σ H) :
    ∃ W : Nat → Nat → L2.St → Hp → Prop, (∃ m, W 0 m σ H) ∧ ∀ i m σ H, W i m σ H →
      ((IteT K a).stop i H ∧ D.nx σ H) ∨ ((IteT K a).go i H ∧ ∃ N : L2.St → Hp → Prop, (∀ σ' H', N σ' H' → ∃ m', m' < m ∧ W (i + 1) m' σ' H') ∧ ∀ x H', (IteT K a).yld i H x H' → g x σ H' fun σ2 H2 => tb { D with nx := N, ct := N, bk := D.nx } σ2 H2) := by
  refine ⟨fun i m σ H => m + i = xs.length ∧ Pv i σ H, ⟨xs.length, rfl, h0⟩, ?_⟩
  intro i m σ H hw
  obtain ⟨hm, p⟩ := hw
  have q := hl i σ H (by omega) p
  cases m with
  | zero =>
    obtain rfl : i = xs.length := by omega
    exact .inl ⟨⟨xs, q, Nat.le_refl _⟩, hd σ H p⟩
  | succ m =>
    have lt : i < xs.length := by omega
    refine .inr ⟨⟨xs, xs[i], q, List.getElem?_eq_getElem lt⟩, Pv (i + 1), fun σ' H' p' => ⟨m, Nat.lt_succ_self m, by omega, p'⟩, fun v H' y => ?_⟩
    obtain ⟨T, x, rfl, nT, rfl, hx⟩ := y
    exact hs i x σ H T (hx xs q) p nT
theorem FnOk.or {P : Program} {w : World} {K : PySem.W.Frag} {mg : Str → Option Value} {base : Heap} {CX : CXT} {k : Nat} {f : Addr} {fd : FuncData} {ps : List Str} {sp sp' : Sp} (F : FnOk P w K mg base CX k f fd ps sp) (G : FnOk P w K mg base CX k f fd ps sp') : FnOk P w K mg base CX k f fd ps (fun vs H Q E => sp vs H Q E ∨ sp' vs H Q E) :=
  ⟨fun vs H Q E h => h.elim (F.len vs H Q E) (G.len vs H Q E), fun A outer s H args us vs Q E hr e b r h => h.elim (F.run A outer s H args us vs Q E hr e b r) (G.run A outer s H args us vs Q E hr e b r)⟩
section
variable {P : Program} {w : World} {K : PySem.W.Frag} {mg : Str → Option Value} {base : Heap} {fa : Nat → Addr} {fd : Nat → FuncData}
theorem ok_p_FigInitT (T : Txt K mg fa fd) : FnOk P w K mg base CX0 15 (fa 1500) (fd 1500) ["self", "rows"] (spFigS (fun K H L xs => SqT K H L xs) K (fa 63)) := by
  refine T.F_FigInit.ok sc_p_FigInit (fun vs H Q E h => ?_) (fun cdv A outer s H vs Q E hr h => ?_)
  · obtain ⟨self, L, dx, ts, k, rfl, _⟩ := h
    rfl
  · obtain ⟨self, L, dx, ts, k, rfl, hself, hL, hD, hz, hk1, hk, hl, q⟩ := h
    refine ⟨_, PSs.nox (C8.pss_cut (ps_for PassesOwn.never rfl (pi_enumT (by rfl) T.m_enumerate (pa_cons (pv 1) pa_nil)) (pg_tup (by rfl) (pgs_cons (pg_name (i := 2) sc_p_FigInit.nd rfl (.inl rfl)) (pgs_cons (pg_name (i := 3) sc_p_FigInit.nd rfl (.inl rfl)) pgs_nil))) (pss_one (ps_if (pt_not (pt_val (pe_call (ok_p_is_row T) (hr.mono (by decide)) (by rfl) T.g_p_is_row T.F_p_is_row.kp T.b_p_is_row .nil pass0 (pa_cons (pv 3) pa_nil)))) (pss_one ps_never) pss_nil)))
      (C8.pss_cut (ps_set (i := 4) sc_p_FigInit.nd rfl (.inl rfl) (pe_call (ok_p_canonical T) (hr.mono (by decide)) (by rfl) T.g_p_canonical T.F_p_canonical.kp T.b_p_canonical .nil pass0 (pa_cons (pv 1) pa_nil)))
      (C8.pss_cut (ps_fld (pv 0) (pe_cmpR op_notN (pv 4) pe_non (nomark _)) (by rfl))
      (pss_one (ps_fld (pv 0) (pe_ifExp (pt_cmpR op_notN (pv 4) pe_non (nomark _)) (pe_callTy call_tuple_of (by rfl) T.m_tuple (by decide +kernel) (pa_cons (pv 4) pa_nil)) (pe_tup pa_nil)) (by rfl)))))), ?_⟩
    refine ⟨fun σ G => Same H G ∧ ∃ y3 y4, σ = [some (.ref self), some (.ref L), y3, y4, none], ?_, fun σ G hM => ?_⟩
    · refine ⟨_, rfl, L, _, rfl, hL, for_enumT (K := K) (a := L) (xs := ts.map Prod.fst) (fun i σ G => Same H G ∧ ∃ y3 y4, σ = [some (.ref self), some (.ref L), y3, y4, none]) ⟨fun _ _ e => e, _, _, rfl⟩ (fun i σ G _ hq => SqT_sm hq.1 hL) (fun i x σ G Tt hx hq nT => ?_) (fun σ G hq => hq)⟩
      obtain ⟨s, y3, y4, rfl⟩ := hq
      rw [List.getElem?_map] at hx
      obtain ⟨t, ht0, rfl⟩ := Option.map_eq_some_iff.mp hx
      have mt := List.mem_of_getElem? ht0
      have sT := same_upd (o := .tup [V.int (i : Nat), t.1]) nT
      have s1 := s.trans sT
      obtain ⟨z, hz', hrow⟩ := hD t mt
      refine ⟨Tt, _, rfl, SqT.of upd_same, rfl, _, _, rfl, _, _, rfl, rfl, ?_⟩
      refine ⟨_, rfl, t.1, dR t.2, z, rfl, hz'.same s1, _, rfl, ?_⟩
      rw [hrow]
      exact iteF ⟨s1, _, _, rfl⟩
    obtain ⟨s1, y3, y4, rfl⟩ := hM
    have okR : ∀ t ∈ ts, RwOk k t.2 := fun t m => by
      obtain ⟨z, _, hrow⟩ := hD t m
      obtain ⟨hw, hd, _⟩ := rowD_iff.mp hrow
      exact ⟨hz t m, hw, by omega⟩
    refine ⟨fun σ G2 => ∃ sv, Same H G2 ∧ ((sv = .non ∧ canonF (ts.map Prod.snd) = none) ∨ ∃ (D : Addr) (T' : List VR), sv = .ref D ∧ G2 D = some (.lst (T'.map Prod.fst)) ∧ Rs K G2 T' ∧ canonF (ts.map Prod.snd) = some (T'.map Prod.snd)) ∧ σ = [some (.ref self), some (.ref L), y3, y4, some sv], ?_, fun σ G2 hM => ?_⟩
    · exact ⟨_, rfl, L, ts, k, rfl, .inr (SqT_sm s1 hL), hD.rs.same s1, okR, hk1, hk, hl, fun e H' s' => ⟨.non, s1.trans s', .inl ⟨rfl, e⟩, rfl⟩, fun F e D H' T' s' nD hD' hT' e' => ⟨.ref D, s1.trans s', .inr ⟨D, T', rfl, hD', hT', by rw [e, e']⟩, rfl⟩⟩
    obtain ⟨sv, s2, hsv, rfl⟩ := hM
    have hs2 := s2 _ _ hself
    have edec : (!decide (sv = V.non)) = (canonF (ts.map Prod.snd)).isSome := by
      rcases hsv with ⟨rfl, e⟩ | ⟨D, T', rfl, _, _, e⟩
      · rw [e]; rfl
      · rw [e]; rfl
    refine ⟨fun σ G3 => G3 = upd G2 self (.ins (fa 63) dx [("filled", .bl (canonF (ts.map Prod.snd)).isSome)]) ∧ σ = [some (.ref self), some (.ref L), y3, y4, some sv], ?_, fun σ G3 hM => ?_⟩
    · exact ⟨_, rfl, rfl, _, rfl, self, _, dx, [], rfl, hs2, T.cl_Figure, T.na_Figure_filled, by show 0 < 1000; decide, by rw [edec]; rfl, rfl⟩
    obtain ⟨rfl, rfl⟩ := hM
    have oth : ∀ o, ∀ b u, b ≠ self → H b = some u → (upd G2 self o) b = some u := fun o b u nb e => (upd_ne nb).trans (s2 _ _ e)
    have ntI : ∀ {G : Hp} {fs : List (Str × V)}, G self = some (.ins (fa 63) dx fs) → NoT G self := fun h xs => ⟨(fun e => by rw [h] at e; cases e), (fun q e => by rw [h] at e; cases e)⟩
    refine ⟨_, rfl, rfl, _, rfl, ?_⟩
    rw [edec]
    rcases hsv with ⟨rfl, e⟩ | ⟨D, T', rfl, hD', hT', e⟩
    · rw [e] at q ⊢
      refine iteF ⟨small_line (by show 0 ≤ 1000; decide), fun S nS => ?_⟩
      have nSs : S ≠ self := fun e => by rw [e, upd_same] at nS; cases nS
      refine ⟨_, rfl, self, _, dx, [("filled", V.bl (none : Option (List Rw)).isSome)], rfl, ?_, T.cl_Figure, T.na_Figure_sides, by show 1 < 1000; decide, ?_⟩
      · rw [upd_ne nSs.symm, upd_same]
      · refine q _ (fun b o nb eb => ?_) ⟨dx, S, [], upd_same, SqT.of ?_, (fun _ m => by cases m), rfl⟩
        · have nSb : b ≠ S := fun z => by
            rw [z] at eb nb
            rw [upd_ne nb] at nS
            rw [s2 _ _ eb] at nS
            cases nS
          rw [upd_ne nb, upd_ne nSb, upd_ne nb]
          exact s2 _ _ eb
        · rw [upd_ne nSs, upd_same]
          rfl
    · rw [e] at q ⊢
      have nDs : D ≠ self := fun z => by rw [z, hs2] at hD'; cases hD'
      refine iteT ⟨_, rfl, D, _, rfl, .inl ⟨SqL.of ((upd_ne nDs).trans hD'), fun S nS => ?_⟩⟩
      have nSs : S ≠ self := fun e => by rw [e, upd_same] at nS; cases nS
      have nSG : G2 S = none := by rw [upd_ne nSs] at nS; exact nS
      refine ⟨_, rfl, self, _, dx, [("filled", V.bl (some (T'.map Prod.snd)).isSome)], rfl, ?_, T.cl_Figure, T.na_Figure_sides, by show 1 < 1000; decide, ?_⟩
      · rw [upd_ne nSs.symm, upd_same]
      · refine q _ (fun b o nb eb => ?_) ⟨dx, S, T', upd_same, SqT.of ?_, fun t m => ?_, rfl⟩
        · have nSb : b ≠ S := fun z => by
            rw [z] at eb
            rw [s2 _ _ eb] at nSG
            cases nSG
          rw [upd_ne nb, upd_ne nSb, upd_ne nb]
          exact s2 _ _ eb
        · rw [upd_ne nSs, upd_same]
        · have h1 := (hT' t m).ex (ExF.at self (.ins (fa 63) dx [("filled", .bl (some (T'.map Prod.snd)).isSome)]) G2) (ntI hs2)
          have h2 := h1.same (same_upd (o := .tup (T'.map Prod.fst)) nS)
          exact h2.ex (ExF.at self _ _) (ntI (by rw [upd_ne nSs.symm, upd_same]))
theorem ok_p_FigInit (T : Txt K mg fa fd) : FnOk P w K mg base CX0 15 (fa 1500) (fd 1500) ["self", "rows"] (spFigS SqX K (fa 63)) :=
  (FnOk.or (ok_p_FigInitL T) (ok_p_FigInitT T)).imp fun vs H Q E ⟨self, L, dx, ts, k, e, h1, h2, h⟩ => h2.elim (fun x => .inl ⟨self, L, dx, ts, k, e, h1, x, h⟩) fun x => .inr ⟨self, L, dx, ts, k, e, h1, x, h⟩
end
section
variable {P : Program} {w : World} {K : PySem.W.Frag} {mg : Str → Option Value} {base : Heap} {fa : Nat → Addr} {fd : Nat → FuncData}
theorem scIR : FnScope ["self", "at"] ["self", "at"] (defScope (inClass (topS 4) 0)) := ⟨rfl, rfl, rfl, by decide +kernel, rfl, by decide +kernel, by decide +kernel⟩
theorem ok_InvalidRow (T : Txt K mg fa fd) : FnOk P w K mg base CX0 1 (fa 1004) (fd 1004) ["self", "at"] (spInit1 K "at" "InvalidRow") := by
  refine T.IInvalidRow.ok scIR (fun vs H Q E h => ?_) (fun cdv A outer s H vs Q E hr h => ?_)
  · obtain ⟨a, C, v, rfl, _⟩ := h
    rfl
  · obtain ⟨a, C, v, rfl, hC, h1, h2, ha, q⟩ := h
    refine ⟨_, pss_cons (ps_ost (pv 0) (pv 1)) (pss_one (ps_ost (pv 0) pe_str)), ?_⟩
    refine ⟨_, rfl, _, rfl, a, C, rfl, hC, h1, .inl ⟨ha, fun dx nd ne => ?_⟩⟩
    refine ⟨_, rfl, a, C, rfl, hC, h2, .inr ⟨dx, _, upd_same, ?_, by show 1 ≤ 900; decide, q dx nd ne⟩⟩
    rw [upd_ne ne, upd_same]
/-- an error with one field is raised from the heap H -/
def OneE (E : XK) (C : Addr) (H : Hp) (tag f : Str) (v : V) : Prop := ∀ d H', Same H H' → H' d = some (.xd [("tag", .str tag), (f, v)]) → E (.ref C) (some d) H'
theorem OneE.of {E : XK} {C : Addr} {H H2 : Hp} {tag f : Str} {v : V} (h : OneE E C H tag f v) (s : Same H H2) : OneE E C H2 tag f v := fun d H' s' e => h d H' (s.trans s') e
/-- Figure(rows): a row at n is none, those ahead of it are rows -/
def spFigX (S : PySem.W.Frag → Hp → Addr → List V → Prop) (K : PySem.W.Frag) (C : Addr) : Sp := fun vs H _ E => ∃ (self L : Addr) (us : List V) (n : Nat), vs = [.ref self, .ref L] ∧ S K H L us ∧ us.length ≤ 900 ∧
  (∀ i u, us[i]? = some u → i ≤ n → ∃ z d, Dt z H u d ∧ rowD d = decide (i < n)) ∧ n < us.length ∧ OneE E C H "InvalidRow" "at" (.int (n : Int))
theorem ok_p_FigInitXL (T : Txt K mg fa fd) : FnOk P w K mg base (L2.CX P w) 15 (fa 1500) (fd 1500) ["self", "rows"] (spFigX (fun K H L xs => SqL K H L xs) K (fa 4)) := by
  refine T.F_FigInit.ok sc_p_FigInit (fun vs H Q E h => ?_) (fun cdv A outer s H vs Q E hr h => ?_)
  · obtain ⟨self, L, us, n, rfl, _⟩ := h
    rfl
  · obtain ⟨self, L, us, n, rfl, hL, hl, hd, hn, he⟩ := h
    refine ⟨_, (C8.pss_cut (ps_for (passes_of rfl) rfl (pi_enum (by rfl) T.m_enumerate (pa_cons (pv 1) pa_nil)) (pg_tup (by rfl) (pgs_cons (pg_name (i := 2) sc_p_FigInit.nd rfl (.inl rfl)) (pgs_cons (pg_name (i := 3) sc_p_FigInit.nd rfl (.inl rfl)) pgs_nil))) (pss_one (ps_if (pt_not (pt_val (pe_call (ok_p_is_row T) (hr.mono (by decide)) (by rfl) T.g_p_is_row T.F_p_is_row.kp T.b_p_is_row .nil pass0 (pa_cons (pv 3) pa_nil)))) (pss_one (ps_raise rfl (takes_of rfl rfl rfl rfl) (pmk_oex T.eInvalidRow.oex T.eInvalidRow.iC T.eInvalidRow.tI (ok_InvalidRow T) (hr.mono (by decide)) T.bIInvalidRow .nil pass0 (by rfl) T.eInvalidRow.gC (pa_cons (pv 2) pa_nil)))) pss_nil)))
      (C8.pss_cut ps_never
      (C8.pss_cut ps_never
      (pss_one ps_never)))), ?_⟩
    refine ⟨fun _ _ => False, ?_, fun _ _ h => h.elim⟩
    refine ⟨_, rfl, L, _, rfl, hL, for_enum (K := K) (a := L) (xs := us) (fun i σ G => Same H G ∧ i ≤ n ∧ ∃ y3 y4, σ = [some (.ref self), some (.ref L), y3, y4, none]) ⟨fun _ _ e => e, Nat.zero_le _, _, _, rfl⟩ (fun i σ G _ hq => SqL_sm hq.1 hL) (fun i x σ G Tt hx hq nT => ?_) (fun σ G hq => absurd hq.2.1 (by omega))⟩
    obtain ⟨s, hi, y3, y4, rfl⟩ := hq
    have sT := same_upd (o := .tup [V.int (i : Nat), x]) nT
    have s1 := s.trans sT
    obtain ⟨z, d, hz, hrow⟩ := hd i x hx hi
    refine ⟨Tt, _, rfl, SqT.of upd_same, rfl, _, _, rfl, _, _, rfl, rfl, ?_⟩
    refine ⟨_, rfl, x, d, z, rfl, hz.same s1, _, rfl, ?_⟩
    rw [hrow]
    generalize upd G Tt (.tup [V.int (i : Nat), x]) = G1 at s1
    by_cases c : i < n
    · rw [decide_eq_true c]
      exact iteF ⟨s1, c, _, _, rfl⟩
    · rw [decide_eq_false c]
      have e : i = n := by omega
      subst e
      have he1 := he.of s1
      refine iteT ⟨_, rfl, by show 1 ≤ 1000; decide, fun a na => ⟨a, _, .int (i : Int), rfl, T.eInvalidRow.oex, T.nInvalidRow_at, T.eInvalidRow.tag, upd_same, fun dx nd ne => ⟨rfl, dx, _, ?_, upd_same, ?_, ?_⟩⟩⟩
      · rw [upd_ne ne.symm, upd_same]
      · rw [upd_ne ne] at nd
        exact nd
      · have nd' : G1 dx = none := by
          rw [upd_ne ne] at nd
          exact nd
        refine he1 dx _ (Same.del na nd' fun b o hb q => ?_) upd_same
        rw [upd_ne (ne_of_none q nd'), upd_ne hb, upd_ne (ne_of_none q nd'), upd_ne hb]
        exact q
theorem ok_p_FigInitXT (T : Txt K mg fa fd) : FnOk P w K mg base (L2.CX P w) 15 (fa 1500) (fd 1500) ["self", "rows"] (spFigX (fun K H L xs => SqT K H L xs) K (fa 4)) := by
  refine T.F_FigInit.ok sc_p_FigInit (fun vs H Q E h => ?_) (fun cdv A outer s H vs Q E hr h => ?_)
  · obtain ⟨self, L, us, n, rfl, _⟩ := h
    rfl
  · obtain ⟨self, L, us, n, rfl, hL, hl, hd, hn, he⟩ := h
    refine ⟨_, (C8.pss_cut (ps_for (passes_of rfl) rfl (pi_enumT (by rfl) T.m_enumerate (pa_cons (pv 1) pa_nil)) (pg_tup (by rfl) (pgs_cons (pg_name (i := 2) sc_p_FigInit.nd rfl (.inl rfl)) (pgs_cons (pg_name (i := 3) sc_p_FigInit.nd rfl (.inl rfl)) pgs_nil))) (pss_one (ps_if (pt_not (pt_val (pe_call (ok_p_is_row T) (hr.mono (by decide)) (by rfl) T.g_p_is_row T.F_p_is_row.kp T.b_p_is_row .nil pass0 (pa_cons (pv 3) pa_nil)))) (pss_one (ps_raise rfl (takes_of rfl rfl rfl rfl) (pmk_oex T.eInvalidRow.oex T.eInvalidRow.iC T.eInvalidRow.tI (ok_InvalidRow T) (hr.mono (by decide)) T.bIInvalidRow .nil pass0 (by rfl) T.eInvalidRow.gC (pa_cons (pv 2) pa_nil)))) pss_nil)))
      (C8.pss_cut ps_never
      (C8.pss_cut ps_never
      (pss_one ps_never)))), ?_⟩
    refine ⟨fun _ _ => False, ?_, fun _ _ h => h.elim⟩
    refine ⟨_, rfl, L, _, rfl, hL, for_enumT (K := K) (a := L) (xs := us) (fun i σ G => Same H G ∧ i ≤ n ∧ ∃ y3 y4, σ = [some (.ref self), some (.ref L), y3, y4, none]) ⟨fun _ _ e => e, Nat.zero_le _, _, _, rfl⟩ (fun i σ G _ hq => SqT_sm hq.1 hL) (fun i x σ G Tt hx hq nT => ?_) (fun σ G hq => absurd hq.2.1 (by omega))⟩
    obtain ⟨s, hi, y3, y4, rfl⟩ := hq
    have sT := same_upd (o := .tup [V.int (i : Nat), x]) nT
    have s1 := s.trans sT
    obtain ⟨z, d, hz, hrow⟩ := hd i x hx hi
    refine ⟨Tt, _, rfl, SqT.of upd_same, rfl, _, _, rfl, _, _, rfl, rfl, ?_⟩
    refine ⟨_, rfl, x, d, z, rfl, hz.same s1, _, rfl, ?_⟩
    rw [hrow]
    generalize upd G Tt (.tup [V.int (i : Nat), x]) = G1 at s1
    by_cases c : i < n
    · rw [decide_eq_true c]
      exact iteF ⟨s1, c, _, _, rfl⟩
    · rw [decide_eq_false c]
      have e : i = n := by omega
      subst e
      have he1 := he.of s1
      refine iteT ⟨_, rfl, by show 1 ≤ 1000; decide, fun a na => ⟨a, _, .int (i : Int), rfl, T.eInvalidRow.oex, T.nInvalidRow_at, T.eInvalidRow.tag, upd_same, fun dx nd ne => ⟨rfl, dx, _, ?_, upd_same, ?_, ?_⟩⟩⟩
      · rw [upd_ne ne.symm, upd_same]
      · rw [upd_ne ne] at nd
        exact nd
      · have nd' : G1 dx = none := by
          rw [upd_ne ne] at nd
          exact nd
        refine he1 dx _ (Same.del na nd' fun b o hb q => ?_) upd_same
        rw [upd_ne (ne_of_none q nd'), upd_ne hb, upd_ne (ne_of_none q nd'), upd_ne hb]
        exact q
theorem ok_p_FigInitX (T : Txt K mg fa fd) : FnOk P w K mg base (L2.CX P w) 15 (fa 1500) (fd 1500) ["self", "rows"] (spFigX SqX K (fa 4)) :=
  (FnOk.or (ok_p_FigInitXL T) (ok_p_FigInitXT T)).imp fun vs H Q E ⟨self, L, us, n, e, h2, h⟩ => h2.elim (fun x => .inl ⟨self, L, us, n, e, x, h⟩) fun x => .inr ⟨self, L, us, n, e, x, h⟩
end
def addR (f g : Fq) : Fq := lowR (f.1 * g.2 + g.1 * f.2, f.2 * g.2)
def mulR (f g : Fq) : Fq := lowR (f.1 * g.1, f.2 * g.2)
section
variable {P : Program} {w : World} {K : PySem.W.Frag} {mg : Str → Option Value} {base : Heap} {fa : Nat → Addr} {fd : Nat → FuncData}
theorem small_log2 {v : Int} (h : v.natAbs ≤ 8000) : v.natAbs.log2 < 4096 := log2_mono (b := 8000) h (by decide +kernel)
theorem mid_of {m : Int} (h : 0 < m) (h2 : m ≤ 8000) : Mid m := ⟨h, Nat.lt_trans (small_log2 (by omega)) (by decide)⟩
theorem new_ne {H : Hp} {a c p : Addr} (h : FeedOk H a c) (n : H p = none) : p ≠ a := by
  obtain ⟨_, _, _, _, ha, _⟩ := h
  exact (ne_of_none ha n).symm
theorem den4 {k : Nat} {x : Int} (h : Lz k x) (hk : k ≤ 4096) : x.natAbs.log2 < 4096 := (h.mono hk).log (by decide)
def spBnR (K : PySem.W.Frag) (G : Fq → Fq → Fq) : Sp := fun vs H Q _ => ∃ (v u : V) (f g : Fq) (k : Nat), vs = [v, u] ∧ FqV K H v f ∧ FqV K H u g ∧ 0 < f.2 ∧ 0 < g.2 ∧ FqZ k f ∧ FqZ k g ∧ k ≤ 2048 ∧ ∀ o, H o = none → Q (.ref o) (upd H o (.tup [.int (G f g).1, .int (G f g).2]))
theorem ok_plus (T : Txt K mg fa fd) : FnOk P w K mg base CX0 4 (fa 72) (fd 72) ["_law_one", "_law_two"] (spBnR K addR) := by
  refine T.F_plus.ok sc_plus (fun vs H Q E h => ?_) (fun cdv A outer s H vs Q E hr h => ?_)
  · obtain ⟨p, q, f, g, k, rfl, _⟩ := h
    rfl
  · obtain ⟨v, u, f, g, k, rfl, ⟨p, rfl, hp⟩, ⟨r, rfl, hr'⟩, pf, pg, sf, sg, hk, q⟩ := h
    refine ⟨_, (pss_one (ps_ret (pe_call (ok_low T) (hr.mono (by decide)) (by rfl) T.g_low T.F_low.kp T.b_low .nil pass0 (pa_cons (pe_op op_add (pe_op op_mulW (pe_ix ix_tup (pv 0) pe_int (fun _ _ => rfl)) (pe_ix ix_tup (pv 1) pe_int (fun _ _ => rfl))) (pe_op op_mulW (pe_ix ix_tup (pv 1) pe_int (fun _ _ => rfl)) (pe_ix ix_tup (pv 0) pe_int (fun _ _ => rfl)))) (pa_cons (pe_op op_mulW (pe_ix ix_tup (pv 0) pe_int (fun _ _ => rfl)) (pe_ix ix_tup (pv 1) pe_int (fun _ _ => rfl))) pa_nil))))), ?_⟩
    exact ⟨_, rfl, p, _, _, _, rfl, rfl, hp, t0, _, rfl, r, _, _, _, rfl, rfl, hr', t1, _, _, rfl, rfl, mulW sf.1 sg.2 (by omega),
      _, rfl, r, _, _, _, rfl, rfl, hr', t0, _, rfl, p, _, _, _, rfl, rfl, hp, t1, _, _, rfl, rfl, mulW sg.1 sf.2 (by omega), _, _, rfl, rfl,
      _, rfl, p, _, _, _, rfl, rfl, hp, t1, _, rfl, r, _, _, _, rfl, rfl, hr', t1, _, _, rfl, rfl, mulW sf.2 sg.2 (by omega), _, _, rfl, Int.mul_ne_zero (by omega) (by omega), den4 (sf.2.mul sg.2) (by omega), q⟩
theorem ok_by (T : Txt K mg fa fd) : FnOk P w K mg base CX0 4 (fa 73) (fd 73) ["_law_one", "_law_two"] (spBnR K mulR) := by
  refine T.F_by.ok sc_by (fun vs H Q E h => ?_) (fun cdv A outer s H vs Q E hr h => ?_)
  · obtain ⟨p, q, f, g, k, rfl, _⟩ := h
    rfl
  · obtain ⟨v, u, f, g, k, rfl, ⟨p, rfl, hp⟩, ⟨r, rfl, hr'⟩, pf, pg, sf, sg, hk, q⟩ := h
    refine ⟨_, (pss_one (ps_ret (pe_call (ok_low T) (hr.mono (by decide)) (by rfl) T.g_low T.F_low.kp T.b_low .nil pass0 (pa_cons (pe_op op_mulW (pe_ix ix_tup (pv 0) pe_int (fun _ _ => rfl)) (pe_ix ix_tup (pv 1) pe_int (fun _ _ => rfl))) (pa_cons (pe_op op_mulW (pe_ix ix_tup (pv 0) pe_int (fun _ _ => rfl)) (pe_ix ix_tup (pv 1) pe_int (fun _ _ => rfl))) pa_nil))))), ?_⟩
    exact ⟨_, rfl, p, _, _, _, rfl, rfl, hp, t0, _, rfl, r, _, _, _, rfl, rfl, hr', t0, _, _, rfl, rfl, mulW sf.1 sg.1 (by omega),
      _, rfl, p, _, _, _, rfl, rfl, hp, t1, _, rfl, r, _, _, _, rfl, rfl, hr', t1, _, _, rfl, rfl, mulW sf.2 sg.2 (by omega), _, _, rfl, Int.mul_ne_zero (by omega) (by omega), den4 (sf.2.mul sg.2) (by omega), q⟩
theorem addR_pos {f g : Fq} (hf : 0 < f.2) (hg : 0 < g.2) : 0 < (addR f g).2 := lowR_pos (Int.mul_pos hf hg)
theorem mulR_pos {f g : Fq} (hf : 0 < f.2) (hg : 0 < g.2) : 0 < (mulR f g).2 := lowR_pos (Int.mul_pos hf hg)
theorem addR_z {k : Nat} {f g : Fq} (hf : 0 < f.2) (hg : 0 < g.2) (zf : FqZ k f) (zg : FqZ k g) : FqZ (2 * k + 1) (addR f g) := by
  refine lowRZ ⟨?_, ?_⟩ (Int.mul_ne_zero (by omega) (by omega))
  · exact ((zf.1.mul zg.2).add (zg.1.mul zf.2)).mono (by omega)
  · exact (zf.2.mul zg.2).mono (by omega)
theorem mulR_z {k : Nat} {f g : Fq} (hf : 0 < f.2) (hg : 0 < g.2) (zf : FqZ k f) (zg : FqZ k g) : FqZ (2 * k + 1) (mulR f g) := by
  refine lowRZ ⟨?_, ?_⟩ (Int.mul_ne_zero (by omega) (by omega))
  · exact (zf.1.mul zg.1).mono (by omega)
  · exact (zf.2.mul zg.2).mono (by omega)
def spotR (a b : Int) (p : Fq × Fq) : Fq := addR (mulR (a, 1) p.1) (mulR (b, 1) p.2)
def spSpot (K : PySem.W.Frag) : Sp := fun vs H Q _ => ∃ (a b : Int) (q : Addr) (x y : V) (p : Fq × Fq) (k : Nat), vs = [.int a, .int b, .ref q] ∧ SqT K H q [x, y] ∧ FqV K H x p.1 ∧ FqV K H y p.2 ∧ 0 < p.1.2 ∧ 0 < p.2.2 ∧ FqZ k p.1 ∧ FqZ k p.2 ∧ Lz k a ∧ Lz k b ∧ 1 ≤ k ∧ 2 * k + 1 ≤ 2048 ∧
  ∀ o H', Same H H' → H' o = some (.tup [.int (spotR a b p).1, .int (spotR a b p).2]) → Q (.ref o) H'
theorem ok_spot (T : Txt K mg fa fd) : FnOk P w K mg base CX0 5 (fa 76) (fd 76) ["_law_a", "_law_b", "_law_point"] (spSpot K) := by
  refine T.F_spot.ok sc_spot (fun vs H Q E h => ?_) (fun cdv A outer s H vs Q E hr h => ?_)
  · obtain ⟨a, b, q, x, y, p, k, rfl, _⟩ := h
    rfl
  · obtain ⟨a, b, r, x, y, p, k, rfl, hr', hx, hy, px, py, zx, zy, za, zb, hk1, hk, q⟩ := h
    refine ⟨_, (pss_one (ps_ret (pe_call (ok_plus T) (hr.mono (by decide)) (by rfl) T.g_plus T.F_plus.kp T.b_plus .nil pass0 (pa_cons (pe_call (ok_by T) (hr.mono (by decide)) (by rfl) T.g_by T.F_by.kp T.b_by .nil pass0 (pa_cons (pe_tup (pa_cons (pv 0) (pa_cons pe_int pa_nil))) (pa_cons (pe_ix ix_tup (pv 2) pe_int (fun _ _ => rfl)) pa_nil))) (pa_cons (pe_call (ok_by T) (hr.mono (by decide)) (by rfl) T.g_by T.F_by.kp T.b_by .nil pass0 (pa_cons (pe_tup (pa_cons (pv 1) (pa_cons pe_int pa_nil))) (pa_cons (pe_ix ix_tup (pv 2) pe_int (fun _ _ => rfl)) pa_nil))) pa_nil))))), ?_⟩
    refine ⟨_, rfl, two_line, fun t1' n1 => ?_⟩
    have s1 := same_upd (o := .tup [V.int a, .int 1]) n1
    have z1 : FqZ k (a, 1) := ⟨za, Lz.one k hk1⟩
    have z2 : FqZ k (b, 1) := ⟨zb, Lz.one k hk1⟩
    refine ⟨_, rfl, r, _, _, x, rfl, rfl, SqT_sm s1 hr', t0, _, x, (a, 1), p.1, k, rfl, ⟨t1', rfl, SqT.of upd_same⟩, hx.same s1, Int.one_pos, px, z1, zx, by omega, fun o1 no1 => ?_⟩
    have s2 := same_upd (o := .tup [V.int (mulR (a, 1) p.1).1, .int (mulR (a, 1) p.1).2]) no1
    refine ⟨_, rfl, two_line, fun t2' n2 => ?_⟩
    have s3 := same_upd (o := .tup [V.int b, .int 1]) n2
    have s13 := s1.trans (s2.trans s3)
    refine ⟨_, rfl, r, _, _, y, rfl, rfl, SqT_sm s13 hr', t1, _, y, (b, 1), p.2, k, rfl, ⟨t2', rfl, SqT.of upd_same⟩, hy.same s13, Int.one_pos, py, z2, zy, by omega, fun o2 no2 => ?_⟩
    have s4 := same_upd (o := .tup [V.int (mulR (b, 1) p.2).1, .int (mulR (b, 1) p.2).2]) no2
    refine ⟨_, _, mulR (a, 1) p.1, mulR (b, 1) p.2, 2 * k + 1, rfl, ⟨o1, rfl, SqT.of ((s3.trans s4) _ _ upd_same)⟩, ⟨o2, rfl, SqT.of upd_same⟩, mulR_pos Int.one_pos px, mulR_pos Int.one_pos py, mulR_z Int.one_pos px z1 zx, mulR_z Int.one_pos py z2 zy, by omega, fun o no => ?_⟩
    exact q o _ (s13.trans (s4.trans (same_upd no))) upd_same
end
section
variable {P : Program} {w : World} {K : PySem.W.Frag} {mg : Str → Option Value} {base : Heap} {fa : Nat → Addr} {fd : Nat → FuncData}
theorem low_ratD {u v : Int} (hv : v ≠ 0) : ratD (.tuple [.int (lowT u v), .int (lowD u v)]) = true := by
  have h1 := lowD_pos (u := u) hv
  have h2 := low_gcd (u := u) hv
  show (decide (1 ≤ lowD u v) && decide (Int.gcd (lowT u v) (lowD u v) = 1)) = true
  rw [decide_eq_true (show 1 ≤ lowD u v by omega), decide_eq_true h2]
  rfl
/-- a fraction -/
abbrev frD (t u : Int) : PyData := .tuple [.int t, .int u]
def RatAt (z : Addr) (H : Hp) (v : V) (t u : Int) : Prop := Dt z H v (frD t u) ∧ ratD (frD t u) = true
def spPart : Sp := fun vs H Q _ => ∃ (a c : Addr) (n : Int), vs = [.ref a, .int n] ∧ FeedOk H a c ∧ 0 < n ∧ n ≤ 1000 ∧ ∀ v t u H', FeedOk H' a c → But a H H' → RatAt a H' v t u → t.natAbs ≤ n.natAbs → u.natAbs ≤ 4 → Q v H'
theorem ok_part (T : Txt K mg fa fd) : FnOk P w K mg base CX0 3 (fa 74) (fd 74) ["_law_feed_here", "_law_size"] spPart := by
  refine T.F_part.ok sc_part (fun vs H Q E h => ?_) (fun cdv A outer s H vs Q E hr h => ?_)
  · obtain ⟨a, c, n, rfl, _⟩ := h
    rfl
  · obtain ⟨a, c, n, rfl, hF, h0, h1, q⟩ := h
    refine ⟨_, (pss_cons (ps_set (i := 2) sc_part.nd rfl (.inl rfl) (pe_op op_sub (pe_call (ok_draw T) (hr.mono (by decide)) (by rfl) T.g_draw T.F_draw.kp T.b_draw .nil pass0 (pa_cons (pv 0) (pa_cons (pe_op op_add (pe_op op_mul pe_int (pv 1)) pe_int) pa_nil))) (pv 1)))
      (pss_one (ps_ret (pe_call (ok_low T) (hr.mono (by decide)) (by rfl) T.g_low T.F_low.kp T.b_low .nil pass0 (pa_cons (pv 2) (pa_cons (pe_ifExp (pt_cmpR op_eq (pe_call (ok_draw T) (hr.mono (by decide)) (by rfl) T.g_draw T.F_draw.kp T.b_draw .nil pass0 (pa_cons (pv 0) (pa_cons pe_int pa_nil))) pe_int (nomark _)) pe_int (pe_op op_add pe_int (pe_call (ok_draw T) (hr.mono (by decide)) (by rfl) T.g_draw T.F_draw.kp T.b_draw .nil pass0 (pa_cons (pv 0) (pa_cons pe_int pa_nil))))) pa_nil)))))), ?_⟩
    refine ⟨_, rfl, _, rfl, _, _, rfl, rfl, .inl (by decide), _, _, rfl, rfl, a, c, _, rfl, hF, mid_of (by omega) (by omega), fun r H1 r0 r1 hF1 b1 => ?_⟩
    refine ⟨_, rfl, _, _, rfl, rfl, _, rfl, _, rfl, a, c, _, rfl, hF1, mid_of (by decide) (by decide), fun r2 H2 _ _ hF2 b2 => ⟨rfl, _, rfl, ?_⟩⟩
    have fin : ∀ (v : Int) (H3 : Hp), 0 < v → v ≤ 4 → FeedOk H3 a c → But a H H3 → spLow [.int (r - n), .int v] H3 Q E0 := fun v H3 v0 v1 hF3 b3 =>
      ⟨_, _, rfl, by omega, small_log2 (by omega), fun p np => q (.ref p) (lowT (r - n) v) (lowD (r - n) v) _ (hF3.new np) (b3.trans (But.of (same_upd np))) ⟨(dnewT np (.cons (.int _ (small_log2 (Nat.le_trans (lowT_abs (v := v) (by omega)) (by omega)))) (.cons (.int _ (small_log2 (Nat.le_trans (lowD_abs (v := v) (by omega)) (by omega)))) .nil))).2, low_ratD (by omega)⟩ (Nat.le_trans (lowT_abs (v := v) (by omega)) (by omega)) (Nat.le_trans (lowD_abs (v := v) (by omega)) (by omega))⟩
    refine ite2 (fun e => fin 1 H2 (by decide) (by decide) hF2 (b1.trans b2)) (fun e => ?_)
    exact ⟨_, rfl, a, c, _, rfl, hF2, mid_of (by decide) (by decide), fun r3 H3 r4 r5 hF3 b3 => ⟨_, _, rfl, rfl, fin _ H3 (by omega) (by omega) hF3 ((b1.trans b2).trans b3)⟩⟩
end
theorem FeedOk.put {H : Hp} {a c p : Addr} {o : HO} (h : FeedOk H a c) (h1 : p ≠ a) (h2 : p ≠ c) : FeedOk (L2.upd H p o) a c := by
  obtain ⟨ns, k, big, mark, e1, e2, h3⟩ := h
  exact ⟨ns, k, big, mark, by rw [upd_ne h1.symm]; exact e1, by rw [upd_ne h2.symm]; exact e2, h3⟩
theorem but_none {a p : Addr} {H H' : Hp} (b : But a H H') (n : H' p = none) (ne : p ≠ a) : H p = none := by
  cases e : H p with
  | none => rfl
  | some o =>
    rw [b p o ne e] at n
    cases n
theorem But.updN {a p : Addr} {H H' : Hp} {o : HO} (b : But a H H') (n : H p = none) : But a H (L2.upd H' p o) := fun q x hq e => by
  rw [upd_ne (ne_of_none e n)]
  exact b q x hq e
theorem new_nc {H : Hp} {a c p : Addr} (h : FeedOk H a c) (n : H p = none) : p ≠ c := by
  obtain ⟨_, _, _, _, _, hc, _⟩ := h
  exact (ne_of_none hc n).symm
theorem TT.lst {H : Hp} {D : Addr} {us : List V} {o : HO} (h : H D = some (.lst us)) : TT H (L2.upd H D o) := fun p xs e => by
  rw [upd_ne (fun z => by rw [z, h] at e; cases e)]
  exact e
theorem Lz.of15 {z : Int} (h : z.natAbs ≤ 3) : Lz 15 z := Nat.lt_of_le_of_lt h (by decide)
/-- rows drawn by the law -/
def RowsA (a : Addr) (H : Hp) (T : List VR) : Prop := ∀ t ∈ T, Dt a H t.1 (dR t.2) ∧ rowD (dR t.2) = true ∧ RwZ 40 t.2
/-- a fraction in lowest terms -/
structure FrA (a : Addr) (H : Hp) (v : V) (f : Fq) (k : Nat) : Prop where
  d : Dt a H v (frD f.1 f.2)
  r : ratD (frD f.1 f.2) = true
  z : FqZ k f
theorem rat_iff {f : Fq} : ratD (frD f.1 f.2) = true ↔ 1 ≤ f.2 ∧ Int.gcd f.1 f.2 = 1 := by
  have e : ratD (frD f.1 f.2) = (decide (1 ≤ f.2) && decide (Int.gcd f.1 f.2 = 1)) := rfl
  rw [e, Bool.and_eq_true, decide_eq_true_eq, decide_eq_true_eq]
theorem fqv_dt {K : PySem.W.Frag} {a : Addr} {H : Hp} {v : V} {t u : Int} (h : Dt a H v (frD t u)) : FqV K H v (t, u) := by
  obtain ⟨p, x, y, rfl, hp, h1, h2⟩ := dt_pair h
  cases dt_int h1
  cases dt_int h2
  exact ⟨p, rfl, SqT.of hp⟩
theorem FrA.v {K : PySem.W.Frag} {a : Addr} {H : Hp} {v : V} {f : Fq} {k : Nat} (h : FrA a H v f k) : FqV K H v f := fqv_dt h.d
theorem FrA.pos {a : Addr} {H : Hp} {v : V} {f : Fq} {k : Nat} (h : FrA a H v f k) : 0 < f.2 := by have := (rat_iff.mp h.r).1; omega
theorem FrA.same {a : Addr} {H H' : Hp} {v : V} {f : Fq} {k : Nat} (h : FrA a H v f k) (s : Same H H') : FrA a H' v f k := ⟨h.d.same s, h.r, h.z⟩
theorem FrA.but {a c : Addr} {H H' : Hp} {v : V} {f : Fq} {k : Nat} (hF : FeedOk H a c) (b : But a H H') (h : FrA a H v f k) : FrA a H' v f k := ⟨h.d.but hF b, h.r, h.z⟩
theorem FrA.of {a : Addr} {H : Hp} {v : V} {t u : Int} {k : Nat} (h : RatAt a H v t u) (h1 : t.natAbs < 2 ^ k) (h2 : u.natAbs < 2 ^ k) : FrA a H v (t, u) k := ⟨h.1, h.2, h1, h2⟩
theorem FrA.new {a p : Addr} {H : Hp} {f : Fq} {k : Nat} (n : H p = none) (h0 : f.2 ≠ 0) (z : FqZ k f) (hk : k ≤ 4096) : FrA a (upd H p (.tup [.int (lowR f).1, .int (lowR f).2])) (.ref p) (lowR f) k :=
  ⟨(dnewT n (.cons (.int _ (den4 (lowRZ z h0).1 hk)) (.cons (.int _ (den4 (lowRZ z h0).2 hk)) .nil))).2, low_ratD h0, lowRZ z h0⟩
theorem RowsA.but {a c : Addr} {H H' : Hp} {T : List VR} (hF : FeedOk H a c) (b : But a H H') (h : RowsA a H T) : RowsA a H' T := fun t m => ⟨(h t m).1.but hF b, (h t m).2⟩
theorem FrA.tt {a : Addr} {H H' : Hp} {v : V} {f : Fq} {k : Nat} (h : FrA a H v f k) (s : TT H H') : FrA a H' v f k := ⟨Dt.tups s _ _ rfl h.d, h.r, h.z⟩
theorem RowsA.tt {a : Addr} {H H' : Hp} {T : List VR} (h : RowsA a H T) (s : TT H H') : RowsA a H' T := fun t m => ⟨Dt.tups s _ _ rfl (h t m).1, (h t m).2⟩
theorem RowsA.same {a : Addr} {H H' : Hp} {T : List VR} (h : RowsA a H T) (s : Same H H') : RowsA a H' T := fun t m => ⟨(h t m).1.same s, (h t m).2⟩
section
variable {P : Program} {w : World} {K : PySem.W.Frag} {mg : Str → Option Value} {base : Heap} {fa : Nat → Addr} {fd : Nat → FuncData}
def spRows : Sp := fun vs H Q _ => ∃ (a c : Addr) (n : Nat), vs = [.ref a, .int (n : Int)] ∧ FeedOk H a c ∧ n ≤ 100 ∧ ∀ D H' (T : List VR), FeedOk H' a c → But a H H' → H D = none → H' D = some (.lst (T.map Prod.fst)) → RowsA a H' T → T.length ≤ n → Q (.ref D) H'
theorem ok_rows (T : Txt K mg fa fd) : FnOk P w K mg base CX0 6 (fa 75) (fd 75) ["_law_feed_here", "_law_many"] spRows := by
  refine T.F_rows.ok sc_rows (fun vs H Q E h => ?_) (fun cdv A outer s H vs Q E hr h => ?_)
  · obtain ⟨a, c, n, rfl, _⟩ := h
    rfl
  · obtain ⟨a, c, n, rfl, hF, hn, q⟩ := h
    refine ⟨_, (C8.pss_cut (ps_par3 (i := 2) (j := 3) (l := 4) (by rfl) sc_rows.nd rfl rfl rfl (by decide) (by decide) (by decide) rfl rfl rfl (pa_cons (pe_call (ok_part T) (hr.mono (by decide)) (by rfl) T.g_part T.F_part.kp T.b_part .nil pass0 (pa_cons (pv 0) (pa_cons pe_int pa_nil))) (pa_cons (pe_call (ok_part T) (hr.mono (by decide)) (by rfl) T.g_part T.F_part.kp T.b_part .nil pass0 (pa_cons (pv 0) (pa_cons pe_int pa_nil))) (pa_cons (pe_lst pa_nil) pa_nil))) (by rfl))
      (C8.pss_cut (ps_set (i := 5) sc_rows.nd rfl (.inl rfl) (pe_cmpR op_eq (pe_call (ok_draw T) (hr.mono (by decide)) (by rfl) T.g_draw T.F_draw.kp T.b_draw .nil pass0 (pa_cons (pv 0) (pa_cons pe_int pa_nil))) pe_int (nomark _)))
      (C8.pss_cut (ps_for PassesOwn.never rfl (pi_range1 (by rfl) T.m_range (pa_cons (pe_call (ok_draw T) (hr.mono (by decide)) (by rfl) T.g_draw T.F_draw.kp T.b_draw .nil pass0 (pa_cons (pv 0) (pa_cons (pe_op op_add (pv 1) pe_int) pa_nil))) pa_nil)) (pg_name (i := 6) sc_rows.nd rfl (.inl rfl)) (C8.pss_cut (ps_par (i := 7) (j := 8) (by rfl) sc_rows.nd rfl rfl (by decide) rfl rfl (pa_cons (pe_op op_sub (pe_call (ok_draw T) (hr.mono (by decide)) (by rfl) T.g_draw T.F_draw.kp T.b_draw .nil pass0 (pa_cons (pv 0) (pa_cons pe_int pa_nil))) pe_int) (pa_cons (pe_op op_sub (pe_call (ok_draw T) (hr.mono (by decide)) (by rfl) T.g_draw T.F_draw.kp T.b_draw .nil pass0 (pa_cons (pv 0) (pa_cons pe_int pa_nil))) pe_int) pa_nil)) (by rfl))
      (C8.pss_cut (ps_set (i := 7) sc_rows.nd rfl (.inl rfl) (pe_ifExp (PW.pt (pw_and (pt_cmpR op_eq (pv 7) pe_int (nomark _)) (pw_and1 (pt_cmpR op_eq (pv 8) pe_int (nomark _))))) pe_int (pv 7)))
      (C8.pss_cut (ps_set (i := 9) sc_rows.nd rfl (.inl rfl) (pe_call (ok_part T) (hr.mono (by decide)) (by rfl) T.g_part T.F_part.kp T.b_part .nil pass0 (pa_cons (pv 0) (pa_cons pe_int pa_nil))))
      (C8.pss_cut (ps_if (pt_not (pt_val (pv 5))) (pss_one (ps_set (i := 9) sc_rows.nd rfl (.inl rfl) (pe_call (ok_plus T) (hr.mono (by decide)) (by rfl) T.g_plus T.F_plus.kp T.b_plus .nil pass0 (pa_cons (pe_call (ok_spot T) (hr.mono (by decide)) (by rfl) T.g_spot T.F_spot.kp T.b_spot .nil pass0 (pa_cons (pv 7) (pa_cons (pv 8) (pa_cons (pe_tup (pa_cons (pv 2) (pa_cons (pv 3) pa_nil))) pa_nil)))) (pa_cons (pe_call (ok_any T) (hr.mono (by decide)) (by rfl) T.g_any T.F_any.kp T.b_any .nil pass0 (pa_cons (pv 0) (pa_cons (pe_lst (pa_cons (pe_tup (pa_cons pe_int (pa_cons pe_int pa_nil))) (pa_cons (pe_tup (pa_cons pe_int (pa_cons pe_int pa_nil))) (pa_cons (pe_tup (pa_cons pe_int (pa_cons pe_int pa_nil))) (pa_cons (pe_tup (pa_cons pe_int (pa_cons pe_int pa_nil))) (pa_cons (pe_tup (pa_cons pe_int (pa_cons pe_int pa_nil))) pa_nil)))))) pa_nil))) pa_nil))))) pss_nil)
      (pss_one (ps_expr (pe_bm PySem.F.plainAttrs_list PySem.F.slot_list_append PySem.F.type_list_append mt_append (pv 4) (pa_cons (pe_tup (pa_cons (pv 7) (pa_cons (pv 8) (pa_cons (pv 9) pa_nil)))) pa_nil)))))))))
      (pss_one (ps_ret (pv 4)))))), ?_⟩
    refine ⟨fun σ G => ∃ D vx vy fx fy, FeedOk G a c ∧ But a H G ∧ H D = none ∧ G D = some (.lst []) ∧ FrA a G vx fx 3 ∧ FrA a G vy fy 3 ∧ σ = [some (.ref a), some (.int (n : Int)), some vx, some vy, some (.ref D), none, none, none, none, none], ?_, fun σ G hM => ?_⟩
    · refine ⟨_, rfl, a, c, 3, rfl, hF, by decide, by decide, fun vx t1 u1 H1 hF1 b1 r1 l1 m1 => ⟨_, rfl, a, c, 3, rfl, hF1, by decide, by decide, fun vy t2 u2 H2 hF2 b2 r2 l2 m2 => ⟨small_line (by show 0 ≤ 1000; decide), fun D nD => ?_⟩⟩⟩
      have sD := same_upd (o := .lst []) nD
      have fx : FrA a H1 vx (t1, u1) 3 := .of r1 (Nat.lt_of_le_of_lt l1 (by decide)) (Nat.lt_of_le_of_lt m1 (by decide))
      have fy : FrA a H2 vy (t2, u2) 3 := .of r2 (Nat.lt_of_le_of_lt l2 (by decide)) (Nat.lt_of_le_of_lt m2 (by decide))
      refine ⟨_, _, _, rfl, D, vx, vy, _, _, hF2.new nD, (b1.trans b2).trans (But.of sD), ?_, upd_same, (fx.but hF1 b2).same sD, fy.same sD, rfl⟩
      cases e : H D with
      | none => rfl
      | some o => exact absurd ((b1.trans b2) _ _ (new_ne hF2 nD) e) (by rw [nD]; exact fun z => by cases z)
    obtain ⟨D, vx, vy, fx, fy, hF1, b1, nD, hD, hx, hy, rfl⟩ := hM
    have nDa : D ≠ a := fun e => by
      obtain ⟨_, _, _, _, ha, _⟩ := hF
      rw [← e, nD] at ha
      cases ha
    refine ⟨fun σ G2 => ∃ lo, FeedOk G2 a c ∧ But a G G2 ∧ σ = [some (.ref a), some (.int (n : Int)), some vx, some vy, some (.ref D), some (.bl lo), none, none, none, none], ?_, fun σ G2 hM => ?_⟩
    · exact ⟨_, rfl, a, c, 4, rfl, hF1, mid_of (by decide) (by decide), fun r H2 _ _ hF2 b2 => ⟨rfl, _, hF2, b2, rfl⟩⟩
    obtain ⟨lo, hF2, b2, rfl⟩ := hM
    have hx2 := hx.but hF1 b2
    have hy2 := hy.but hF1 b2
    have hD2 := b2 _ _ nDa hD
    refine ⟨fun σ G3 => ∃ (T : List VR) (y6 y7 y8 y9 : Option V), FeedOk G3 a c ∧ But a H G3 ∧ G3 D = some (.lst (T.map Prod.fst)) ∧ RowsA a G3 T ∧ T.length ≤ n ∧ σ = [some (.ref a), some (.int (n : Int)), some vx, some vy, some (.ref D), some (.bl lo), y6, y7, y8, y9], ?_, fun σ G3 hM => ?_⟩
    · refine ⟨_, rfl, _, rfl, _, _, rfl, rfl, a, c, _, rfl, hF2, mid_of (by omega) (by omega), fun r G3 r0 r1 hF3 b3 => ?_⟩
      obtain ⟨m, rfl⟩ := Int.eq_ofNat_of_zero_le r0
      refine ⟨_, rfl, by omega, by omega, ?_⟩
      rw [Int.toNat_natCast]
      refine for_range (n := m) (fun i σ G4 => ∃ (T : List VR) (y6 y7 y8 y9 : Option V), FeedOk G4 a c ∧ But a H G4 ∧ FrA a G4 vx fx 3 ∧ FrA a G4 vy fy 3 ∧ G4 D = some (.lst (T.map Prod.fst)) ∧ RowsA a G4 T ∧ T.length = i ∧ σ = [some (.ref a), some (.int (n : Int)), some vx, some vy, some (.ref D), some (.bl lo), y6, y7, y8, y9])
        ⟨[], none, none, none, none, hF3, (b1.trans b2).trans b3, hx2.but hF2 b3, hy2.but hF2 b3, b3 _ _ nDa hD2, (fun _ m => by cases m), rfl, rfl⟩ (fun i σ G4 hi hq => ?_) (fun σ G4 hq => ?_)
      · obtain ⟨T, y6, y7, y8, y9, hF4, b4, hx4, hy4, hD4, hT, lT, rfl⟩ := hq
        refine ⟨fun σ G5 => ∃ x y : Int, FeedOk G5 a c ∧ But a G4 G5 ∧ x.natAbs ≤ 3 ∧ y.natAbs ≤ 3 ∧ σ = [some (.ref a), some (.int (n : Int)), some vx, some vy, some (.ref D), some (.bl lo), some (.int (0 + (i : Int))), some (.int x), some (.int y), y9], ?_, fun σ G5 hM => ?_⟩
        · exact ⟨_, rfl, a, c, 7, rfl, hF4, mid_of (by decide) (by decide), fun r1 H5 p1 q1 hF5 b5 => ⟨_, _, rfl, rfl, _, rfl, a, c, 7, rfl, hF5, mid_of (by decide) (by decide), fun r2 H6 p2 q2 hF6 b6 => ⟨_, _, rfl, rfl, _, _, rfl, r1 - 3, r2 - 3, hF6, b5.trans b6, by omega, by omega, rfl⟩⟩⟩
        obtain ⟨x, y, hF5, b5, lx, ly, rfl⟩ := hM
        refine ⟨fun σ G6 => ∃ x' : Int, G6 = G5 ∧ x'.natAbs ≤ 3 ∧ ¬ (x' = 0 ∧ y = 0) ∧ σ = [some (.ref a), some (.int (n : Int)), some vx, some vy, some (.ref D), some (.bl lo), some (.int (0 + (i : Int))), some (.int x'), some (.int y), y9], ?_, fun σ G6 hM => ?_⟩
        · refine ⟨_, rfl, rfl, _, rfl, ?_⟩
          by_cases cx : x = 0
          · refine iteTq (int0 cx) ⟨_, rfl, rfl, _, rfl, ?_⟩
            by_cases cy : y = 0
            · exact iteTq (int0 cy) ⟨1, rfl, by decide, fun z => by have := z.1; omega, rfl⟩
            · exact iteFq (int0n cy) ⟨_, rfl, x, rfl, lx, fun z => cy z.2, rfl⟩
          · exact iteFq (int0n cx) (iteF ⟨_, rfl, x, rfl, lx, fun z => cx z.1, rfl⟩)
        obtain ⟨x', rfl, lx', nz, rfl⟩ := hM
        refine ⟨fun σ G7 => ∃ vc fc, FeedOk G7 a c ∧ But a G6 G7 ∧ FrA a G7 vc fc 40 ∧ σ = [some (.ref a), some (.int (n : Int)), some vx, some vy, some (.ref D), some (.bl lo), some (.int (0 + (i : Int))), some (.int x'), some (.int y), some vc], ?_, fun σ G7 hM => ?_⟩
        · refine ⟨_, rfl, a, c, 4, rfl, hF5, by decide, by decide, fun vc t1 u1 H1 hF6 b6 r1 l1 m1 => ⟨vc, (t1, u1), hF6, b6, .of r1 (Nat.lt_of_le_of_lt l1 (by decide)) (Nat.lt_of_le_of_lt m1 (by decide)), rfl⟩⟩
        obtain ⟨vc, fc, hF7, b7, hc7, rfl⟩ := hM
        refine ⟨fun σ G8 => ∃ vc fc, FeedOk G8 a c ∧ But a G7 G8 ∧ FrA a G8 vc fc 40 ∧ σ = [some (.ref a), some (.int (n : Int)), some vx, some vy, some (.ref D), some (.bl lo), some (.int (0 + (i : Int))), some (.int x'), some (.int y), some vc], ?_, fun σ G8 hM => ?_⟩
        · refine ⟨_, rfl, _, rfl, ?_⟩
          cases lo with
          | true => exact iteF ⟨vc, fc, hF7, But.refl _ _, hc7, rfl⟩
          | false =>
            have b57 := b7
            have hx7 := (hx4.but hF4 b5).but hF5 b7
            have hy7 := (hy4.but hF4 b5).but hF5 b7
            refine iteT ⟨_, rfl, _, rfl, _, rfl, _, rfl, two_line, fun q nq => ?_⟩
            have sq := same_upd (o := .tup [vx, vy]) nq
            have L3 : ∀ {z : Int}, z.natAbs ≤ 3 → Lz 3 z := fun h => Nat.lt_of_le_of_lt h (by decide)
            refine ⟨x', y, q, vx, vy, (fx, fy), 3, rfl, SqT.of upd_same, (hx7.same sq).v, (hy7.same sq).v, hx7.pos, hy7.pos, hx7.z, hy7.z, L3 lx', L3 ly, by decide, by decide, fun o H9 s9 ho => ?_⟩
            have hF := hF7.same (sq.trans s9)
            refine ⟨_, rfl, (small_line (by decide : 2 ≤ 1000)), fun p1 n1 => ?_⟩
            obtain ⟨s1, d1⟩ := dnewT (z := a) n1 (.cons (.int 0 (by decide +kernel)) (.cons (.int 1 (by decide +kernel)) .nil))
            refine ⟨(small_line (by decide : 2 ≤ 1000)), fun p2 n2 => ?_⟩
            obtain ⟨s2, d2⟩ := dnewT (z := a) n2 (.cons (.int 0 (by decide +kernel)) (.cons (.int 1 (by decide +kernel)) .nil))
            refine ⟨(small_line (by decide : 2 ≤ 1000)), fun p3 n3 => ?_⟩
            obtain ⟨s3, d3⟩ := dnewT (z := a) n3 (.cons (.int 1 (by decide +kernel)) (.cons (.int 1 (by decide +kernel)) .nil))
            refine ⟨(small_line (by decide : 2 ≤ 1000)), fun p4 n4 => ?_⟩
            obtain ⟨s4, d4⟩ := dnewT (z := a) n4 (.cons (.int 3 (by decide +kernel)) (.cons (.int 1 (by decide +kernel)) .nil))
            refine ⟨(small_line (by decide : 2 ≤ 1000)), fun p5 n5 => ?_⟩
            obtain ⟨s5, d5⟩ := dnewT (z := a) n5 (.cons (.int 1 (by decide +kernel)) (.cons (.int 2 (by decide +kernel)) .nil))
            refine ⟨(small_line (by decide : 5 ≤ 1000)), fun p6 n6 => ?_⟩
            obtain ⟨s6, all, hrw⟩ := drow (z := a) n6 (.cons (d1.same (s2.trans (s3.trans (s4.trans s5)))) (.cons (d2.same (s3.trans (s4.trans s5))) (.cons (d3.same (s4.trans s5)) (.cons (d4.same s5) (.cons d5 .nil)))))
            have sR := (s1.trans (s2.trans (s3.trans (s4.trans (s5.trans s6)))))
            refine ⟨a, c, p6, _, rfl, hF.same sR, hrw, new_ne (hF.same (s1.trans (s2.trans (s3.trans (s4.trans s5))))) n6, by show 0 < 5; decide, by show 5 ≤ 1000; decide, fun v H3 hv hF3 b3 => ?_⟩
            obtain ⟨d, hd, hdt⟩ := all.mem hv
            have hdt := hdt.but (hF.same sR) b3
            have b79 : But a G7 H3 := (But.of ((sq.trans s9).trans sR)).trans b3
            obtain ⟨f, rfl, rf, zf⟩ : ∃ f : Fq, d = frD f.1 f.2 ∧ ratD (frD f.1 f.2) = true ∧ FqZ 15 f := by
              simp only [List.mem_cons, List.not_mem_nil, or_false] at hd
              rcases hd with rfl | rfl | rfl | rfl | rfl
              · exact ⟨(0, 1), rfl, by decide +kernel, Lz.of15 (by decide), Lz.of15 (by decide)⟩
              · exact ⟨(0, 1), rfl, by decide +kernel, Lz.of15 (by decide), Lz.of15 (by decide)⟩
              · exact ⟨(1, 1), rfl, by decide +kernel, Lz.of15 (by decide), Lz.of15 (by decide)⟩
              · exact ⟨(3, 1), rfl, by decide +kernel, Lz.of15 (by decide), Lz.of15 (by decide)⟩
              · exact ⟨(1, 2), rfl, by decide +kernel, Lz.of15 (by decide), Lz.of15 (by decide)⟩
            have pf : 0 < f.2 := by have := (rat_iff.mp rf).1; omega
            have m1 := mulR_pos (f := (x', 1)) (g := fx) Int.one_pos hx7.pos
            have m2 := mulR_pos (f := (y, 1)) (g := fy) Int.one_pos hy7.pos
            have z1 : FqZ 7 (mulR (x', 1) fx) := mulR_z Int.one_pos hx7.pos ⟨L3 lx', Lz.one 3 (by decide)⟩ hx7.z
            have z2 : FqZ 7 (mulR (y, 1) fy) := mulR_z Int.one_pos hy7.pos ⟨L3 ly, Lz.one 3 (by decide)⟩ hy7.z
            have zs : FqZ 15 (spotR x' y (fx, fy)) := addR_z m1 m2 z1 z2
            have ps : 0 < (spotR x' y (fx, fy)).2 := addR_pos m1 m2
            have ho3 : H3 o = some (.tup [.int (spotR x' y (fx, fy)).1, .int (spotR x' y (fx, fy)).2]) := b3 _ _ (fun e => by
              obtain ⟨_, _, _, _, ha, _⟩ := hF
              rw [← e, ho] at ha
              cases ha) (sR _ _ ho)
            refine ⟨_, v, spotR x' y (fx, fy), f, 15, rfl, ⟨o, rfl, SqT.of ho3⟩, fqv_dt hdt, ps, pf, zs, zf, by decide, fun r nr => ?_⟩
            have n0 : (spotR x' y (fx, fy)).2 * f.2 ≠ 0 := Int.mul_ne_zero (by omega) (by omega)
            refine ⟨.ref r, _, hF3.new nr, b79.trans (But.of (same_upd nr)), FrA.new (f := ((spotR x' y (fx, fy)).1 * f.2 + f.1 * (spotR x' y (fx, fy)).2, (spotR x' y (fx, fy)).2 * f.2)) (k := 40) nr n0 ⟨?_, ?_⟩ (by decide), rfl⟩
            · exact ((zs.1.mul zf.2).add (zf.1.mul zs.2)).mono (by decide)
            · exact (zs.2.mul zf.2).mono (by decide)
        obtain ⟨vc, fc, hF8, b8, hc8, rfl⟩ := hM
        have b48 := b5.trans (b7.trans b8)
        have hD8 := b48 _ _ nDa hD4
        have hT8 := hT.but hF4 b48
        refine ⟨_, rfl, .inl ⟨rfl, _, SqL.of hD8⟩, _, rfl, _, rfl, _, rfl, small_line (by show 3 ≤ 1000; decide), fun yy ny => ?_⟩
        have sy := same_upd (o := .tup [V.int x', .int y, vc]) ny
        have hD9 := sy _ _ hD8
        refine ⟨D, _, .ref yy, rfl, rfl, hD9, small1000 (by rw [List.length_map]; omega), T ++ [(.ref yy, ⟨x', y, fc⟩)], _, _, _, _, FeedOk.put (hF8.new ny) nDa (fun e => ?_), But.updN ((b4.trans b48).trans (But.of sy)) nD, ((hx4.but hF4 b48).same sy).tt (.lst hD9), ((hy4.but hF4 b48).same sy).tt (.lst hD9), ?_, fun t m => ?_, ?_, rfl⟩
        · obtain ⟨_, _, _, _, _, hcc, _⟩ := hF
          rw [← e, nD] at hcc
          cases hcc
        · rw [upd_same, List.map_append]
          rfl
        · rcases List.mem_append.mp m with m | m
          · exact ((hT8.same sy).tt (.lst hD9)) t m
          · rw [List.mem_singleton.mp m]
            have L3 : ∀ {z : Int}, z.natAbs ≤ 3 → Lz 40 z := fun h => Nat.lt_of_le_of_lt h (by decide)
            have l4 : ∀ {z : Int}, z.natAbs ≤ 3 → z.natAbs.log2 < 4096 := fun h => small_log2 (by omega)
            have dd : Dt a (upd G8 yy (.tup [V.int x', .int y, vc])) (.ref yy) (dR ⟨x', y, fc⟩) := (dnewT ny (.cons (.int _ (l4 lx')) (.cons (.int _ (l4 ly)) (.cons hc8.d .nil)))).2
            refine ⟨Dt.tups (TT.lst hD9) _ _ rfl dd, rowD_iff.mpr ⟨nz, rat_iff.mp hc8.r⟩, L3 lx', L3 ly, hc8.z⟩
        · rw [List.length_append, lT]
          rfl
      · obtain ⟨T, y6, y7, y8, y9, hF4, b4, _, _, hD4, hT, lT, rfl⟩ := hq
        exact ⟨T, y6, y7, y8, y9, hF4, b4, hD4, hT, by omega, rfl⟩
    obtain ⟨T, y6, y7, y8, y9, hF3, b3, hD3, hT, lT, rfl⟩ := hM
    exact ⟨_, rfl, q D G3 T hF3 b3 nD hD3 hT lT⟩
end
section
variable {P : Program} {w : World} {K : PySem.W.Frag} {mg : Str → Option Value} {base : Heap} {fa : Nat → Addr} {fd : Nat → FuncData}
/-! ### what is told of an error -/
def tagsV (l : List String) : List V := l.map fun x => V.str (Str.ofString x)
def fieldOf (tag : Str) : Option Str :=
  if inV (.str tag) (tagsV ["InvalidRatio", "InvalidTimes", "InvalidLimit"]) = true then some "given" else
  if inV (.str tag) (tagsV ["InvalidRow", "InvalidTie", "InvalidWish", "ParseError"]) = true then some "at" else
  if inV (.str tag) (tagsV ["InvalidName", "SameName", "UnknownName"]) = true then some "name" else
  if inV (.str tag) (tagsV ["DuplicateLabel", "UnknownLabel"]) = true then some "label" else
  if decide (V.str tag = V.str "NotTied") = true then some "many" else
  if decide (V.str tag = V.str "CapacityExceeded") = true then some "most" else
  if decide (V.str tag = V.str "InvalidCommand") = true then some "first" else none
def FldOk (K : PySem.W.Frag) (C : Addr) (fs : List (Str × V)) (tag : Str) (v : V) : Prop := match fieldOf tag with
  | some n => PySem.W.findIn K (.ref C) n = some none ∧ fs.lookup n = some v
  | none => v = .non
def spField (K : PySem.W.Frag) (p : Addr × Obj) : Sp := fun vs H Q _ => vs = [.ref p.1] ∧ ∃ (C dd : Addr) (fs : List (Str × V)) (tag : Str) (v : V), Xat K p C dd ∧ PySem.W.findIn K (.ref C) "tag" = some none ∧ H dd = some (.xd fs) ∧ fs.lookup ("tag" : Str) = some (.str tag) ∧ FldOk K C fs tag v ∧
  ∀ H', Same H H' → Q v H'
theorem fld_of {K : PySem.W.Frag} {C : Addr} {fs : List (Str × V)} {tag : Str} {v : V} {n : Str} (h : FldOk K C fs tag v) (e : fieldOf tag = some n) : PySem.W.findIn K (.ref C) n = some none ∧ fs.lookup n = some v := by
  unfold FldOk at h
  rw [e] at h
  exact h
theorem fld_none {K : PySem.W.Frag} {C : Addr} {fs : List (Str × V)} {tag : Str} {v : V} (h : FldOk K C fs tag v) (e : fieldOf tag = none) : v = .non := by
  unfold FldOk at h
  rw [e] at h
  exact h
theorem ok_field (T : Txt K mg fa fd) : FnP P w K mg base 1 (fa 68) (fd 68) ["_law_e"] (spField K) := by
  refine fn_ofP T.F_field sc_field (fun p vs H Q E h => ?_) (fun cdv A outer s H vs Q p hr h => ?_)
  · obtain ⟨rfl, _⟩ := h
    rfl
  · obtain ⟨rfl, C, dd, fs, tag, v, X, ht, hd, lt, hf, q⟩ := h
    refine ⟨_, (pss_cons (ps_if (pt_cmpR op_in_seq (pe_xp (by exact List.mem_cons_self) (pv 0)) (pe_tup (pa_cons pe_str (pa_cons pe_str (pa_cons pe_str pa_nil)))) (by rfl)) (pss_one (ps_ret (pe_xp (by exact List.mem_cons_self) (pv 0)))) pss_nil)
      (pss_cons (ps_if (pt_cmpR op_in_seq (pe_xp (by exact List.mem_cons_self) (pv 0)) (pe_tup (pa_cons pe_str (pa_cons pe_str (pa_cons pe_str (pa_cons pe_str pa_nil))))) (by rfl)) (pss_one (ps_ret (pe_xp (by exact List.mem_cons_self) (pv 0)))) pss_nil)
      (pss_cons (ps_if (pt_cmpR op_in_seq (pe_xp (by exact List.mem_cons_self) (pv 0)) (pe_tup (pa_cons pe_str (pa_cons pe_str (pa_cons pe_str pa_nil)))) (by rfl)) (pss_one (ps_ret (pe_xp (by exact List.mem_cons_self) (pv 0)))) pss_nil)
      (pss_cons (ps_if (pt_cmpR op_in_seq (pe_xp (by exact List.mem_cons_self) (pv 0)) (pe_tup (pa_cons pe_str (pa_cons pe_str pa_nil))) (by rfl)) (pss_one (ps_ret (pe_xp (by exact List.mem_cons_self) (pv 0)))) pss_nil)
      (pss_cons (ps_if (pt_cmpR op_eq (pe_xp (by exact List.mem_cons_self) (pv 0)) pe_str (nomark _)) (pss_one (ps_ret (pe_xp (by exact List.mem_cons_self) (pv 0)))) pss_nil)
      (pss_cons (ps_if (pt_cmpR op_eq (pe_xp (by exact List.mem_cons_self) (pv 0)) pe_str (nomark _)) (pss_one (ps_ret (pe_xp (by exact List.mem_cons_self) (pv 0)))) pss_nil)
      (pss_one (ps_ret (pe_ifExp (pt_cmpR op_eq (pe_xp (by exact List.mem_cons_self) (pv 0)) pe_str (nomark _)) (pe_xp (by exact List.mem_cons_self) (pv 0)) pe_non))))))))), ?_⟩
    refine ⟨_, rfl, rfl, C, dd, fs, _, X, ht, hd, lt, Nat.le_of_lt (small1000 (by show 3 ≤ 1000; decide)), fun p1 n1 => ?_⟩
    have s1 := same_upd (o := .tup (tagsV ["InvalidRatio", "InvalidTimes", "InvalidLimit"])) n1
    refine ⟨p1, _, rfl, .inr (SqT.of upd_same), rfl, rfl, _, rfl, ite2 (fun e1 => ?_) (fun e1 => ?_)⟩
    · have hn := fld_of hf (show fieldOf tag = some "given" from if_pos e1)
      exact ⟨_, rfl, rfl, C, dd, fs, _, X, hn.1, s1 _ _ hd, hn.2, q _ s1⟩
    have hd1 := s1 _ _ hd
    refine ⟨_, rfl, rfl, C, dd, fs, _, X, ht, hd1, lt, Nat.le_of_lt (small1000 (by show 4 ≤ 1000; decide)), fun p2 n2 => ?_⟩
    have s2 := s1.trans (same_upd (o := .tup (tagsV ["InvalidRow", "InvalidTie", "InvalidWish", "ParseError"])) n2)
    refine ⟨p2, _, rfl, .inr (SqT.of upd_same), rfl, rfl, _, rfl, ite2 (fun e2 => ?_) (fun e2 => ?_)⟩
    · have hn := fld_of hf (show fieldOf tag = some "at" from (if_neg e1).trans (if_pos e2))
      exact ⟨_, rfl, rfl, C, dd, fs, _, X, hn.1, s2 _ _ hd, hn.2, q _ s2⟩
    have hd2 := s2 _ _ hd
    refine ⟨_, rfl, rfl, C, dd, fs, _, X, ht, hd2, lt, Nat.le_of_lt (small1000 (by show 3 ≤ 1000; decide)), fun p3 n3 => ?_⟩
    have s3 := s2.trans (same_upd (o := .tup (tagsV ["InvalidName", "SameName", "UnknownName"])) n3)
    refine ⟨p3, _, rfl, .inr (SqT.of upd_same), rfl, rfl, _, rfl, ite2 (fun e3 => ?_) (fun e3 => ?_)⟩
    · have hn := fld_of hf (show fieldOf tag = some "name" from (if_neg e1).trans ((if_neg e2).trans (if_pos e3)))
      exact ⟨_, rfl, rfl, C, dd, fs, _, X, hn.1, s3 _ _ hd, hn.2, q _ s3⟩
    have hd3 := s3 _ _ hd
    refine ⟨_, rfl, rfl, C, dd, fs, _, X, ht, hd3, lt, two_line, fun p4 n4 => ?_⟩
    have s4 := s3.trans (same_upd (o := .tup (tagsV ["DuplicateLabel", "UnknownLabel"])) n4)
    refine ⟨p4, _, rfl, .inr (SqT.of upd_same), rfl, rfl, _, rfl, ite2 (fun e4 => ?_) (fun e4 => ?_)⟩
    · have hn := fld_of hf (show fieldOf tag = some "label" from (if_neg e1).trans ((if_neg e2).trans ((if_neg e3).trans (if_pos e4))))
      exact ⟨_, rfl, rfl, C, dd, fs, _, X, hn.1, s4 _ _ hd, hn.2, q _ s4⟩
    have hd4 := s4 _ _ hd
    refine ⟨_, rfl, rfl, C, dd, fs, _, X, ht, hd4, lt, rfl, _, rfl, ite2 (fun e5 => ?_) (fun e5 => ?_)⟩
    · have hn := fld_of hf (show fieldOf tag = some "many" from (if_neg e1).trans ((if_neg e2).trans ((if_neg e3).trans ((if_neg e4).trans (if_pos e5)))))
      exact ⟨_, rfl, rfl, C, dd, fs, _, X, hn.1, hd4, hn.2, q _ s4⟩
    refine ⟨_, rfl, rfl, C, dd, fs, _, X, ht, hd4, lt, rfl, _, rfl, ite2 (fun e6 => ?_) (fun e6 => ?_)⟩
    · have hn := fld_of hf (show fieldOf tag = some "most" from (if_neg e1).trans ((if_neg e2).trans ((if_neg e3).trans ((if_neg e4).trans ((if_neg e5).trans (if_pos e6))))))
      exact ⟨_, rfl, rfl, C, dd, fs, _, X, hn.1, hd4, hn.2, q _ s4⟩
    refine ⟨_, rfl, rfl, C, dd, fs, _, X, ht, hd4, lt, rfl, _, rfl, ite2 (fun e7 => ?_) (fun e7 => ?_)⟩
    · have hn := fld_of hf (show fieldOf tag = some "first" from (if_neg e1).trans ((if_neg e2).trans ((if_neg e3).trans ((if_neg e4).trans ((if_neg e5).trans ((if_neg e6).trans (if_pos e7)))))))
      exact ⟨_, rfl, rfl, C, dd, fs, _, X, hn.1, hd4, hn.2, q _ s4⟩
    · have hn := fld_none hf (show fieldOf tag = none from (if_neg e1).trans ((if_neg e2).trans ((if_neg e3).trans ((if_neg e4).trans ((if_neg e5).trans ((if_neg e6).trans (if_neg e7)))))))
      rw [hn] at q
      exact q _ s4
end
section
variable {fa : Nat → Addr} {fd : Nat → FuncData}
/-- an error, as why tells of it -/
def WhyE (K : PySem.W.Frag) (Tie Miss : Addr) (Q : VK) : XK := fun cls d H' => ∃ (C dd : Addr) (fs : List (Str × V)) (tag : Str) (v : V), cls = .ref C ∧ d = some dd ∧ PySem.W.exmAny K (.ref C) [.ref Tie, .ref Miss] = some true ∧ XfC K C ∧ PySem.W.findIn K (.ref C) "tag" = some none ∧ H' dd = some (.xd fs) ∧
  fs.lookup ("tag" : Str) = some (.str tag) ∧ FldOk K C fs tag v ∧ ∀ p H'', Same H' H'' → H'' p = some (.tup [.str tag, v]) → Q (.ref p) H''
def TTWhy (K : PySem.W.Frag) (Tie Miss : Addr) : (XK → Hp → VK → Prop) → Hp → VK → Prop := fun tl H Q => ∀ (H1 : Hp) (Q' : VK) (E' : XK), Same H H1 → (∀ v H', (∀ p, H' p = none → Q (.ref p) (upd H' p (.tup [.str "", v]))) → Q' v H') →
  (∀ cls d H', WhyE K Tie Miss Q cls d H' → E' cls d H') → tl E' H1 Q'
def tSuite (K : PySem.W.Frag) : Addr → Value → Option Addr → TS := fun a cls d D σ H => ∃ (C dd : Addr) (fs : List (Str × V)) (tag : Str) (v : V), cls = .ref C ∧ d = some dd ∧ XfC K C ∧ PySem.W.findIn K (.ref C) "tag" = some none ∧ H dd = some (.xd fs) ∧
  fs.lookup ("tag" : Str) = some (.str tag) ∧ FldOk K C fs tag v ∧ (σ.length = 3 → σ[2]? = some (some (.ref a))) ∧ ∀ p H'', σ.length = 3 → Same H H'' → H'' p = some (.tup [.str tag, v]) → D.nx (σ.set 1 (some (.ref p))) H''
theorem why_gives {X : Cx} (T : Txt X.K X.mg fa fd) {k : Nat} (hr : Room (k + 2) X.A) {cdg : Value} {q : Str} : LamX.GivesTo X ["_law_ask", "_law_told", "_law_e"] "_law_why" (defScope s_why) (fa 69) cdg (defBody s_why) "_law_ask" q (TTWhy X.K (fa 2) (fa 6)) := by
  intro f c' s H Q tl act hc h
  have F : FnP X.prog X.w X.K X.mg X.base 1 (fa 68) (fd 68) ["_law_e"] (spField X.K) := ok_field T
  refine ⟨_, pss_cons (ps_set (i := 1) sc_why.nd rfl (.inl rfl) (pe_tup (pa_cons pe_str (pa_cons pe_non pa_nil))))
    (pss_cons (ps_try_tup (i := 2) (tb := fun W D σ H => ∃ Ech : XK, (∀ cls d σ' H', Ech cls d H' → W cls d σ' H') ∧ σ[0]? = some (some (.ref f)) ∧ H c' = some (LamX.CodeO c' q) ∧ tl Ech H fun v H' => [V.str "", v].length ≤ sizeLine ∧ ∀ p, H' p = none → D.nx (σ.set 1 (some (.ref p))) (upd H' p (.tup [.str "", v]))) (ts := tSuite X.K)
        rfl rfl sc_why.nd rfl rfl rfl T.gTieError rfl T.gMissing (fun W pn xe tk _ => ?_) (fun a oe cls d pn hz hf => ?_))
    (pss_one (ps_ret (pv 1)))), ?_⟩
  · refine ⟨fun pins s' σ H' D I h' => ?_⟩
    obtain ⟨Ech, hW, h1, h2, h3⟩ := h'
    exact (pss_one (ps_set (i := 1) sc_why.nd rfl (.inl rfl) (pe_tup (pa_cons pe_str (pa_cons (act W pn xe Ech _ _ tk hW) pa_nil))))).run pins s' σ H' D I ⟨h1, h2, h3⟩
  · refine ⟨fun pins s' σ H' D I h' => ?_⟩
    obtain ⟨C, dd, fs, tag, v, rfl, rfl, xf, ht, hd, lt, hv, h2, h3⟩ := h'
    have l3 : σ.length = 3 := I.len
    have h2 := h2 l3
    have hx : Xat X.K (a, oe) C dd := ⟨hz, hf, xf⟩
    refine (pss_one (ps_set (i := 1) sc_why.nd rfl (.inl rfl) (pe_tup (pa_cons (pe_xp (X := (cxOf C8.CX0 X.prog X.w X.K X.mg X.base ["_law_ask", "_law_told", "_law_e"] "_law_why" (defScope s_why) (fa 69) cdg X.A X.stack s H C8.E0).nox.suite a ((a, oe) :: pn)) (p := (a, oe)) (by exact List.mem_cons_self) (pv 2)) (pa_cons (pe_callP (X := (cxOf C8.CX0 X.prog X.w X.K X.mg X.base ["_law_ask", "_law_told", "_law_e"] "_law_why" (defScope s_why) (fa 69) cdg X.A X.stack s H C8.E0).nox.suite a ((a, oe) :: pn)) (p := (a, oe)) F ?_ (by exact List.mem_cons_self) (by rfl) T.g_field T.F_field.kp T.b_field (pa_cons (pv 2) pa_nil)) pa_nil))))).run pins s' σ H' D I ?_
    · have r := hr.deeper (envOfC "_law_why" (defScope s_why) s.heap.objs.size (fa 69) cdg)
      exact ⟨by have := r.dp; show (X.A.deeper (envOfC "_law_why" (defScope s_why) s.heap.objs.size (fa 69) cdg)).depth + 3 * 1 + 5 < recursionLimit; omega, by have := r.un; show (X.A.deeper (envOfC "_law_why" (defScope s_why) s.heap.objs.size (fa 69) cdg)).units + 16 * 1 + 200 < cLine; omega⟩
    · refine ⟨_, h2, rfl, C, dd, fs, _, hx, ht, hd, lt, _, h2, rfl, C, dd, fs, tag, v, hx, ht, hd, lt, hv, fun H2 s2 => ⟨two_line, fun p np => ?_⟩⟩
      exact h3 p _ l3 (s2.trans (same_upd np)) upd_same
  · refine ⟨two_line, fun p np => ⟨WhyE X.K (fa 2) (fa 6) Q, ?_, rfl, same_upd np _ _ hc, h _ _ _ (same_upd np) (fun v H' hQ => ⟨two_line, fun p np => ⟨_, rfl, hQ p np⟩⟩) fun _ _ _ z => z⟩⟩
    rintro cls d σ' H' ⟨C, dd, fs, tag, v, rfl, rfl, ha, xf, ht, hd, lt, hv, h3⟩
    refine ⟨ha, fun a na => ⟨C, dd, fs, tag, v, rfl, rfl, xf, ht, hd, lt, hv, fun l => ?_, fun p H'' l s2 hp => ?_⟩⟩
    · rw [List.length_set] at l
      rw [List.getElem?_set_self (by omega)]
    · rw [List.length_set] at l
      match σ', l with
      | [a0, a1, a2], _ => exact ⟨_, rfl, h3 p H'' s2 hp⟩
end
section
variable {fa : Nat → Addr} {fd : Nat → FuncData}
/-- why(lambda: body) -/
theorem pe_why {X : Cx} (T : Txt X.K X.mg fa fd) {c P : Addr} {k : Nat} {params : Arguments} {body : Expr} {scope : Scope} {t : XK → TE} {p lpos pos : Pos} (TB : LamX.TabB X.base X.mg c P) (hcode : X.env.code = .ref c) (hr : Room (k + 2) X.A) (hg : Gl X "_law_why") (L : LamX.LamS X.env.scope scope)
    (hbody : ∀ (A : Around) (outer : List Env) (s : Shared) (H : Hp) (E : XK) (f c' : Addr), Room k (A.deeper (LamX.lamEnv X scope s.heap.objs.size f c')) → PE (LamX.lamCx X A outer s H E scope f c') body (t E))
    (hdef : defaultsOf params X.env = ([], []) := by rfl) (hbind : ∀ (q : Str) (cl : List (Str × Addr)) (pm cv ctv : Value), bindArgs (PySem.W.kla_fn "<lambda>" q params body scope cl pm cv ctv) ⟨[], []⟩ = pure [] := by intros; rfl) :
    PE X (.Call (.Name "_law_why" p) [.Lambda params body scope lpos] [] pos) (LamX.tLam [(P, X.env.qual ++ "<lambda>")] (TTWhy X.K (fa 2) (fa 6)) t) := by
  obtain ⟨oc, od, kV, doc, pm, an, cdv, ct, osl, e, lk, hcd⟩ := T.F_why.ex
  rw [e] at lk
  have hb := T.b_why
  rw [e] at hb
  refine LamX.pe_lamcall (X := X) (T := [(P, X.env.qual ++ "<lambda>")]) (a := "_law_ask") (Ng := ["_law_ask", "_law_told", "_law_e"]) hg T.g_why T.F_why.kp lk hcd hb sc_why rfl (.inl rfl) (why_gives T hr) TB hcode List.mem_cons_self (fun q hq _ => ?_) hr L hdef hbind hbody
  rw [List.mem_singleton.mp hq]
end
/-! ### more of heaps, data, errors -/
theorem tabs_but {L : List (Addr × Str)} {H H' : Hp} {a c : Addr} (hF : FeedOk H a c) (b : But a H H') (t : LamX.Tabs L H) : LamX.Tabs L H' := fun p hp => by
  obtain ⟨ns, k, big, mark, ha, _⟩ := hF
  obtain ⟨ps, h1, h2, h3⟩ := t p hp
  refine ⟨ps, b _ _ (ne_of h1 ha (by intro z; cases z)) h1, h2, fun pos cv hc => ?_⟩
  obtain ⟨c', e1, e2⟩ := h3 pos cv hc
  exact ⟨c', e1, b _ _ (ne_of e2 ha (by intro z; unfold LamX.CodeO at z; cases z)) e2⟩
theorem FeedOk.ext {H H' : Hp} {a c : Addr} (h : FeedOk H a c) (s : LamX.ExtN H H') : FeedOk H' a c := by
  obtain ⟨ns, k, big, mark, h1, h2, h3⟩ := h
  exact ⟨ns, k, big, mark, s _ _ h1 (by intro ps z; cases z), s _ _ h2 (by intro ps z; cases z), h3⟩
theorem eqd_bl {H : Hp} {n : Nat} (b : Bool) : Eqd H n (.bl b) (.bl b) := Eqd.leaf ⟨rfl, .inr (.inl ⟨b, rfl⟩)⟩
def Fr (H : Hp) (p : Addr) (f : Int × Int) : Prop := H p = some (.tup [.int f.1, .int f.2])
theorem Fr.ext {H H' : Hp} {p : Addr} {f : Int × Int} (h : Fr H p f) (s : LamX.ExtN H H') : Fr H' p f := s _ _ h (by intro ps z; cases z)
theorem Fr.but {H H' : Hp} {a c p : Addr} {f : Int × Int} (hF : FeedOk H a c) (b : But a H H') (h : Fr H p f) : Fr H' p f := by
  obtain ⟨ns, k, big, mark, ha, _⟩ := hF
  exact b _ _ (ne_of h ha (by intro z; cases z)) h
theorem eqd_fr {H : Hp} {p q : Addr} {f : Int × Int} (h1 : Fr H p f) (h2 : Fr H q f) : Eqd H 1 (.ref p) (.ref q) := by
  refine .inr ⟨p, q, _, _, rfl, rfl, .inr ⟨h1, h2⟩, rfl, (by show 2 ≤ 1000; decide), fun i y z e1 e2 => ?_⟩
  have e : y = z := Option.some.inj (e1.symm.trans e2)
  subst e
  match i, e1 with
  | 0, e1 => cases e1; exact ⟨rfl, .inr (.inr (.inl ⟨_, rfl⟩))⟩
  | 1, e1 => cases e1; exact ⟨rfl, .inr (.inr (.inl ⟨_, rfl⟩))⟩
theorem Eqd.up {H : Hp} : ∀ {n : Nat} {v w : V}, Eqd H n v w → Eqd H (n + 1) v w
  | 0, _, _, h => .inl h
  | n + 1, _, _, h => by
    rcases h with h | ⟨a, b, xs, ys, e1, e2, h, l1, l2, r⟩
    · exact .inl h
    · exact .inr ⟨a, b, xs, ys, e1, e2, h, l1, l2, fun i x y h1 h2 => Eqd.up (r i x y h1 h2)⟩
section
variable {P : Program} {w : World} {K : PySem.W.Frag} {mg : Str → Option Value} {base : Heap} {fa : Nat → Addr} {fd : Nat → FuncData}
def tbs (Pt : Addr) : List (Addr × Str) := [(Pt, (("law" : Str) ++ ".<locals>.") ++ "<lambda>")]
theorem fieldOf_ratio : fieldOf "InvalidRatio" = some "given" := by decide +kernel
theorem why_ratio (T : Txt K mg fa fd) {Q : VK} {d : Addr} {H : Hp} (hd : H d = some (.xd [("tag", .str "InvalidRatio"), ("given", .int 0)])) (q : ∀ p H'', Same H H'' → H'' p = some (.tup [.str "InvalidRatio", .int 0]) → Q (.ref p) H'') :
    WhyE K (fa 2) (fa 6) Q (.ref (fa 3)) (some d) H := by
  refine ⟨_, d, _, "InvalidRatio", .int 0, rfl, rfl, T.eInvalidRatio.any, T.eInvalidRatio.xf, T.eInvalidRatio.tag, hd, by decide +kernel, ?_, q⟩
  unfold FldOk
  rw [fieldOf_ratio]
  exact ⟨T.nInvalidRatio_given, by decide +kernel⟩
theorem one_line : 1 ≤ sizeLine := Nat.le_trans (by decide : 1 ≤ 2) two_line
theorem four_line : 4 ≤ sizeLine := Nat.le_trans (by decide : 4 ≤ 1000) (Nat.le_of_lt (small1000 (Nat.le_refl _)))
theorem five_line : 5 ≤ sizeLine := Nat.le_trans (by decide : 5 ≤ 1000) (Nat.le_of_lt (small1000 (Nat.le_refl _)))
end
/-! ### the law -/
def spLaw (K : PySem.W.Frag) (Pt : Addr) : Sp := fun vs H Q _ => ∃ (a : Addr) (ns : List Int), vs = [.ref a] ∧ SqL K H a (ns.map V.int) ∧ ns.length ≤ 63 ∧ LamX.Tabs (tbs Pt) H ∧ ∀ H', Q (.bl true) H'
theorem Dt.ext {z : Addr} {H H' : Hp} {v : V} {d : PyData} (h : Dt z H v d) (x : LamX.ExtN H H') : Dt z H' v d := Dt.via (fun a o e k => x a o e (by
  rcases k with ⟨⟨xs, rfl⟩, _⟩ | ⟨xs, rfl⟩
  · intro ps z; cases z
  · intro ps z; cases z)) d v h
theorem DtAll.ext {z : Addr} {H H' : Hp} {v : List V} {d : List PyData} (h : DtAll z H v d) (x : LamX.ExtN H H') : DtAll z H' v d := DtAll.via (fun a o e k => x a o e (by
  rcases k with ⟨⟨xs, rfl⟩, _⟩ | ⟨xs, rfl⟩
  · intro ps z; cases z
  · intro ps z; cases z)) d v h
theorem shaped_pair {tag : Str} (h : PyData.strOk tag = true) (i : Int) : SeqAt.shaped (.tuple [.str tag, .int i]) = true := by
  unfold SeqAt.shaped
  have e : PyData.canLay0 (.tuple [.str tag, .int i]) = (PyData.strOk tag && (true && true)) := rfl
  have d : (PyData.tuple [.str tag, .int i]).depth = 1 := rfl
  rw [e, h, d]
  decide
theorem eqv_tag (tag : Str) (i : Int) : PyData.eqv (.tuple [.str tag, .int i]) (.tuple [.str tag, .int i]) = true := by
  show (decide _ && (_ && true)) = true
  have e : PyData.eqv (.int i) (.int i) = true := by
    first
      | exact decide_eq_true rfl
      | exact beq_self_eq_true i
      | (unfold PyData.eqv; simp)
      | simp [PyData.eqv]
  rw [e]
  simp
theorem RowsA.ext {a : Addr} {H H' : Hp} {T : List VR} (h : RowsA a H T) (x : LamX.ExtN H H') : RowsA a H' T := fun t m => ⟨(h t m).1.ext x, (h t m).2⟩
def oddOk (d : PyData) : Bool := !rowD d && d.canLay0 && decide (d.depth ≤ 3)
/-- rows, a row that is none at n, and others -/
structure BentA (a : Addr) (H : Hp) (us : List V) (ds : List PyData) (n : Nat) : Prop where
  d : DtAll a H us ds
  l : us.length ≤ 20
  nl : n < us.length
  r : ∀ (i : Nat) (d : PyData), ds[i]? = some d → i ≤ n → rowD d = decide (i < n)
  s : SeqAt.shaped (.list ds) = true
theorem dts_at {a : Addr} {H : Hp} : ∀ {us : List V} {ds : List PyData}, DtAll a H us ds → ∀ {i : Nat} {u : V}, us[i]? = some u → ∃ d, ds[i]? = some d ∧ Dt a H u d
  | _, _, .nil, i, u, h => by cases h
  | _, _, .cons h hs, 0, u, e => by cases e; exact ⟨_, rfl, h⟩
  | _, _, .cons h hs, i + 1, u, e => dts_at hs (i := i) e
theorem BentA.x {a : Addr} {H : Hp} {us : List V} {ds : List PyData} {n : Nat} (h : BentA a H us ds n) : ∀ i u, us[i]? = some u → i ≤ n → ∃ z d, Dt z H u d ∧ rowD d = decide (i < n) := fun i u e l => by
  obtain ⟨d, ed, hd⟩ := dts_at h.d e
  exact ⟨a, d, hd, h.r i d ed l⟩
theorem BentA.same {a : Addr} {H H' : Hp} {us : List V} {ds : List PyData} {n : Nat} (h : BentA a H us ds n) (s : Same H H') : BentA a H' us ds n := ⟨h.d.same s, h.l, h.nl, h.r, h.s⟩
theorem BentA.ext {a : Addr} {H H' : Hp} {us : List V} {ds : List PyData} {n : Nat} (h : BentA a H us ds n) (s : LamX.ExtN H H') : BentA a H' us ds n := ⟨h.d.ext s, h.l, h.nl, h.r, h.s⟩
theorem lay_app : ∀ xs ys : List PyData, PyData.canLayAll0 (xs ++ ys) = (PyData.canLayAll0 xs && PyData.canLayAll0 ys)
  | [], ys => rfl
  | x :: xs, ys => by
    have e1 : PyData.canLayAll0 ((x :: xs) ++ ys) = (x.canLay0 && PyData.canLayAll0 (xs ++ ys)) := rfl
    have e2 : PyData.canLayAll0 (x :: xs) = (x.canLay0 && PyData.canLayAll0 xs) := rfl
    rw [e1, e2, lay_app xs ys, Bool.and_assoc]
theorem dep_app : ∀ xs ys : List PyData, PyData.depthAll (xs ++ ys) = max (PyData.depthAll xs) (PyData.depthAll ys)
  | [], ys => by
    show _ = max 0 (PyData.depthAll ys)
    exact (Nat.zero_max _).symm
  | x :: xs, ys => by
    have e1 : PyData.depthAll ((x :: xs) ++ ys) = max x.depth (PyData.depthAll (xs ++ ys)) := rfl
    have e2 : PyData.depthAll (x :: xs) = max x.depth (PyData.depthAll xs) := rfl
    rw [e1, e2, dep_app xs ys]
    omega
theorem lay_many {xs : List PyData} (h : ∀ d ∈ xs, d.canLay0 = true ∧ d.depth ≤ 3) : PyData.canLayAll0 xs = true ∧ PyData.depthAll xs ≤ 3 := by
  induction xs with
  | nil => exact ⟨rfl, by decide⟩
  | cons x xs ih =>
    obtain ⟨i1, i2⟩ := ih fun d m => h d (.tail _ m)
    obtain ⟨h1, h2⟩ := h x (.head _)
    have e1 : PyData.canLayAll0 (x :: xs) = (x.canLay0 && PyData.canLayAll0 xs) := rfl
    have e2 : PyData.depthAll (x :: xs) = max x.depth (PyData.depthAll xs) := rfl
    rw [e1, e2, h1, i1]
    exact ⟨rfl, by omega⟩
theorem shaped_many {xs : List PyData} (h : ∀ d ∈ xs, d.canLay0 = true ∧ d.depth ≤ 3) : SeqAt.shaped (.list xs) = true := by
  obtain ⟨h1, h2⟩ := lay_many h
  unfold SeqAt.shaped
  rw [Bool.and_eq_true]
  refine ⟨h1, decide_eq_true ?_⟩
  show PyData.depthAll xs + 1 ≤ 64
  omega
theorem DtAll.app {a : Addr} {H : Hp} : ∀ {us vs : List V} {ds es : List PyData}, DtAll a H us ds → DtAll a H vs es → DtAll a H (us ++ vs) (ds ++ es)
  | _, _, _, _, .nil, h => h
  | _, _, _, _, .cons h hs, h2 => .cons h (DtAll.app hs h2)
theorem RowsA.all {a : Addr} {H : Hp} : ∀ {T : List VR}, RowsA a H T → DtAll a H (T.map Prod.fst) (T.map fun t => dR t.2)
  | [], _ => .nil
  | t :: T, h => .cons (h t (.head _)).1 (RowsA.all fun u m => h u (.tail _ m))
theorem rep_all {a : Addr} {H : Hp} {v : V} {d : PyData} (h : Dt a H v d) : ∀ k : Nat, DtAll a H (List.replicate k [v]).flatten (List.replicate k d)
  | 0 => .nil
  | k + 1 => by
    rw [List.replicate_succ, List.replicate_succ, List.flatten_cons]
    exact .cons h (rep_all h k)
theorem BentA.of {a : Addr} {H : Hp} {T : List VR} {n k : Nat} {v : V} {d : PyData} (hT : RowsA a H T) (lT : T.length ≤ 5) (hn : n ≤ T.length) (hk : k ≤ 2) (hd : Dt a H v d) (od : oddOk d = true) :
    ∃ ds, BentA a H (((T.take n).map Prod.fst ++ [v] ++ (T.drop n).map Prod.fst) ++ (List.replicate k [v]).flatten) ds n := by
  unfold oddOk at od
  rw [Bool.and_eq_true, Bool.and_eq_true, Bool.not_eq_true', decide_eq_true_eq] at od
  obtain ⟨⟨o1, o2⟩, o3⟩ := od
  have h1 : RowsA a H (T.take n) := fun t m => hT t (List.mem_of_mem_take m)
  have h2 : RowsA a H (T.drop n) := fun t m => hT t (List.mem_of_mem_drop m)
  have hD := ((h1.all.app (.cons hd .nil)).app h2.all).app (rep_all hd k)
  have l1 : ((T.take n).map fun t => dR t.2).length = n := by rw [List.length_map, List.length_take]; omega
  have lf : ∀ k : Nat, ((List.replicate k [v]).flatten).length = k := fun k => by
    induction k with
    | zero => rfl
    | succ k ih => rw [List.replicate_succ, List.flatten_cons, List.length_append, ih]; show 1 + k = k + 1; omega
  have ll : (((T.take n).map Prod.fst ++ [v] ++ (T.drop n).map Prod.fst) ++ (List.replicate k [v]).flatten).length = T.length + 1 + k := by
    rw [List.length_append, List.length_append, List.length_append, List.length_map, List.length_map, List.length_take, List.length_drop, List.length_singleton, lf]
    omega
  refine ⟨_, hD, by omega, by omega, fun i e he hi => ?_, shaped_many fun e m => ?_⟩
  · rw [List.append_assoc, List.append_assoc] at he
    by_cases c : i < n
    · rw [List.getElem?_append_left (by omega), List.getElem?_map] at he
      obtain ⟨t, ht, rfl⟩ := Option.map_eq_some_iff.mp he
      rw [(h1 t (List.mem_of_getElem? ht)).2.1, decide_eq_true c]
    · have e0 : i = n := by omega
      subst e0
      rw [List.getElem?_append_right (by omega), l1, Nat.sub_self] at he
      cases he
      rw [o1, decide_eq_false c]
  · have rw_ : ∀ t : VR, (dR t.2).canLay0 = true ∧ (dR t.2).depth ≤ 3 := fun t => ⟨rfl, by show (2 : Nat) ≤ 3; decide⟩
    rcases List.mem_append.mp m with m | m
    · rcases List.mem_append.mp m with m | m
      · rcases List.mem_append.mp m with m | m
        · obtain ⟨t, _, rfl⟩ := List.mem_map.mp m
          exact rw_ t
        · rw [List.mem_singleton.mp m]
          exact ⟨o2, o3⟩
      · obtain ⟨t, _, rfl⟩ := List.mem_map.mp m
        exact rw_ t
    · rw [List.eq_of_mem_replicate m]
      exact ⟨o2, o3⟩
def rTupOf (K : PySem.W.Frag) : List V → Hp → VK → Prop := fun xs H Q => ∃ p ys, xs = [V.ref p] ∧ ((SqL K H p ys ∧ ∀ l : Addr, H l = none → Q (.ref l) (upd H l (.tup ys))) ∨ SqT K H p ys ∧ Q (.ref p) H)
theorem call_tupleK {X : Cx} {K : PySem.W.Frag} (h : X.K = K) : CallR X (.type "tuple") (rTupOf K) := h ▸ call_tuple_of
theorem dts_but {a c : Addr} {H H' : Hp} (hF : FeedOk H a c) (b : But a H H') : ∀ {vs : List V} {ds : List PyData}, DtAll a H vs ds → DtAll a H' vs ds
  | _, _, .nil => .nil
  | _, _, .cons h t => .cons (h.but hF b) (dts_but hF b t)
theorem sh_eqv {d : PyData} (h : SeqAt.shaped d = true) : PyData.eqv d d = true := SeqAt.eqv_refl _ (SeqAt.canLay_of_shaped h)
theorem one_rel : ∀ {zs : List V} {ws : List Value}, Vals zs ws → Vals [zs.getD 0 V.non] [ws.getD 0 Value.none]
  | _, _, .nil => .cons rfl .nil
  | _, _, .cons h _ => .cons h .nil
section
variable {P : Program} {w : World} {K : PySem.W.Frag} {mg : Str → Option Value} {base : Heap} {fa : Nat → Addr} {fd : Nat → FuncData}
theorem whyE_row (T : Txt K mg fa fd) {H : Hp} {Q : VK} {n : Nat} {E' : XK} (hE : ∀ cls d H', WhyE K (fa 2) (fa 6) Q cls d H' → E' cls d H') (q : ∀ p H', Same H H' → H' p = some (.tup [.str "InvalidRow", .int (n : Int)]) → Q (.ref p) H') :
    OneE E' (fa 4) H "InvalidRow" "at" (.int (n : Int)) := fun d H' s e => hE _ _ _ ⟨_, d, _, "InvalidRow", .int (n : Int), rfl, rfl, T.eInvalidRow.any, T.eInvalidRow.xf, T.eInvalidRow.tag, e, by rfl, by
    unfold FldOk
    rw [show fieldOf "InvalidRow" = some "at" by decide +kernel]
    exact ⟨T.nInvalidRow_at, by rfl⟩, fun p H'' s' e' => q p H'' (s.trans s') e'⟩
theorem ins_new {H : Hp} {x dx C : Addr} (nx : H x = none) (nd : H dx = none) (ne : dx ≠ x) : Same H (upd (upd H dx (.own x)) x (.ins C dx [])) := (same_upd nd).trans (same_upd ((upd_ne ne.symm).trans nx))
theorem ok_p_law (T : Txt K mg fa fd) {c Pt : Addr} (FL : FunC K "law" s_p_law (fa 77) (fd 77) c) (TB : LamX.TabB base mg c Pt) : FnOk P w K mg base CX0 20 (fa 77) (fd 77) ["_law_script"] (spLaw K Pt) := by
  refine FL.ok sc_p_law (fun vs H Q E h => ?_) (fun A outer s H vs Q E hr h => ?_)
  · obtain ⟨a, ns, rfl, _⟩ := h
    rfl
  · obtain ⟨s0, ns, rfl, hS, hlen, hT0, q⟩ := h
    refine ⟨_, (C8.pss_cut (ps_set (i := 1) sc_p_law.nd rfl (.inl rfl) (pe_call (ok_feed T) (hr.mono (by decide)) (by rfl) T.g_feed T.F_feed.kp T.b_feed .nil pass0 (pa_cons (pv 0) pa_nil)))
      (C8.pss_cut (ps_for PassesOwn.never rfl (pi_range1 (by rfl) T.m_range (pa_cons pe_int pa_nil)) (pg_name (i := 2) sc_p_law.nd rfl (.inl rfl)) (C8.pss_cut (ps_set (i := 8) sc_p_law.nd rfl (.inr rfl) (pe_call (ok_rows T) (hr.mono (by decide)) (by rfl) T.g_rows T.F_rows.kp T.b_rows .nil pass0 (pa_cons (pv 1) (pa_cons pe_int pa_nil))))
      (C8.pss_cut (ps_set (i := 3) sc_p_law.nd rfl (.inl rfl) (pe_lst (pa_cons (pe_tup (pa_cons pe_int (pa_cons pe_int (pa_cons (pe_tup (pa_cons pe_int (pa_cons pe_int pa_nil))) pa_nil)))) (pa_cons (pe_tup (pa_cons pe_int (pa_cons pe_int pa_nil))) (pa_cons (pe_tup (pa_cons pe_int (pa_cons pe_int (pa_cons pe_int pa_nil)))) (pa_cons (pe_tup (pa_cons pe_int (pa_cons pe_int (pa_cons (pe_tup (pa_cons pe_int (pa_cons pe_int pa_nil))) pa_nil)))) (pa_cons (pe_tup (pa_cons pe_bl (pa_cons pe_int (pa_cons (pe_tup (pa_cons pe_int (pa_cons pe_int pa_nil))) pa_nil)))) (pa_cons (pe_tup (pa_cons pe_int (pa_cons pe_bl (pa_cons (pe_tup (pa_cons pe_int (pa_cons pe_int pa_nil))) pa_nil)))) (pa_cons pe_non (pa_cons pe_int (pa_cons (pe_tup pa_nil) (pa_cons pe_str pa_nil))))))))))))
      (C8.pss_cut (ps_set (i := 3) sc_p_law.nd rfl (.inl rfl) (pe_op op_cat (pv 3) (pe_lst (pa_cons (pe_lst (pa_cons pe_int (pa_cons pe_int (pa_cons (pe_tup (pa_cons pe_int (pa_cons pe_int pa_nil))) pa_nil)))) (pa_cons (pe_tup (pa_cons pe_int (pa_cons pe_non (pa_cons (pe_tup (pa_cons pe_int (pa_cons pe_int pa_nil))) pa_nil)))) (pa_cons (pe_tup (pa_cons pe_int (pa_cons pe_int (pa_cons (pe_tup (pa_cons pe_int (pa_cons pe_int pa_nil))) pa_nil)))) (pa_cons (pe_tup (pa_cons pe_int (pa_cons pe_int (pa_cons (pe_tup (pa_cons pe_int (pa_cons pe_int pa_nil))) (pa_cons pe_int pa_nil))))) (pa_cons (pe_tup (pa_cons pe_str (pa_cons pe_int (pa_cons (pe_tup (pa_cons pe_int (pa_cons pe_int pa_nil))) pa_nil)))) (pa_cons (pe_tup (pa_cons pe_int (pa_cons pe_int (pa_cons pe_non pa_nil)))) pa_nil)))))))))
      (C8.pss_cut (ps_par (i := 4) (j := 5) (by rfl) sc_p_law.nd rfl rfl (by decide) rfl rfl (pa_cons (pe_call (ok_draw T) (hr.mono (by decide)) (by rfl) T.g_draw T.F_draw.kp T.b_draw .nil pass0 (pa_cons (pv 1) (pa_cons (pe_op op_add (pe_callB call_len_seq (by rfl) T.m_len PySem.boot_len (pa_cons (pv 8) pa_nil)) pe_int) pa_nil))) (pa_cons (pe_call (ok_any T) (hr.mono (by decide)) (by rfl) T.g_any T.F_any.kp T.b_any .nil pass0 (pa_cons (pv 1) (pa_cons (pv 3) pa_nil))) pa_nil)) (by rfl))
      (C8.pss_cut (ps_set (i := 7) sc_p_law.nd rfl (.inr rfl) (pe_op op_cat (pe_op op_cat (pe_slice sl_list (pv 8) po_none (po_some (pv 4))) (pe_lst (pa_cons (pv 5) pa_nil))) (pe_slice sl_list (pv 8) (po_some (pv 4)) po_none)))
      (C8.pss_cut (ps_set (i := 7) sc_p_law.nd rfl (.inr rfl) (pe_op op_cat (pv 7) (pe_op op_rep (pe_lst (pa_cons (pv 5) pa_nil)) (pe_call (ok_draw T) (hr.mono (by decide)) (by rfl) T.g_draw T.F_draw.kp T.b_draw .nil pass0 (pa_cons (pv 1) (pa_cons pe_int pa_nil))))))
      (C8.pss_cut (ps_set (i := 6) sc_p_law.nd rfl (.inl rfl) (pe_callTy call_list_of (by rfl) T.m_list (by decide +kernel) (pa_cons (pv 7) pa_nil)))
      (C8.pss_cut (ps_if (PW.pt (pw_or (pt_cmpR (op_neD hr.units) (pe_why (k := 16) T TB rfl (hr.mono (by decide)) (by rfl) (LamX.lamS_by (by show LamX.lamSB (defScope s_p_law) _ = true; decide +kernel)) (fun A outer s H E f c2 hr2 => (pe_make T.mk_Figure (ok_p_FigInitX T) (hr2.mono (by decide)) (by rfl) T.g_Figure T.b_FigInit .nil (passes_call (takes_of rfl rfl rfl rfl) (fun _ _ _ _ h => h)) (pa_cons (pv 7) pa_nil)))) (pe_tup (pa_cons pe_str (pa_cons (pv 4) pa_nil))) (nomark _)) (pw_or1 (pt_cmpR (op_neD hr.units) (pv 7) (pv 6) (nomark _))))) (pss_one (ps_ret pe_bl)) pss_nil)
      (pss_one (ps_if (PW.pt (pw_or (pt_cmpR (op_neD hr.units) (pe_why (k := 16) T TB rfl (hr.mono (by decide)) (by rfl) (LamX.lamS_by (by show LamX.lamSB (defScope s_p_law) _ = true; decide +kernel)) (fun A outer s H E f c2 hr2 => (pe_makeK0 T.mk_Figure (ok_p_FigInitX T) (hr2.mono (by decide)) (by rfl) T.g_Figure T.kb_FigInit (passes_call (takes_of rfl rfl rfl rfl) (fun _ _ _ _ h => h)) (pk_cons (pe_callTy (T := "tuple") (call_tupleK (K := K) rfl) (by rfl) T.m_tuple (by decide +kernel) (pa_cons (pv 7) pa_nil)) pk_nil)))) (pe_tup (pa_cons pe_str (pa_cons (pv 4) pa_nil))) (nomark _)) (pw_or1 (pt_cmpR op_ne (pe_ix ix_tup (pe_why (k := 16) T TB rfl (hr.mono (by decide)) (by rfl) (LamX.lamS_by (by show LamX.lamSB (defScope s_p_law) _ = true; decide +kernel)) (fun A outer s H E f c2 hr2 => (pe_make T.mk_Figure (ok_p_FigInit T) (hr2.mono (by decide)) (by rfl) T.g_Figure T.b_FigInit .nil pass0 (pa_cons (pv 8) pa_nil)))) pe_int (fun _ _ => rfl)) pe_str (nomark _))))) (pss_one (ps_ret pe_bl)) pss_nil)))))))))))
      (pss_one (ps_ret pe_bl)))), ?_⟩
    refine ⟨fun σ H1 => ∃ a c, σ = [some (.ref s0), some (.ref a), none, none, none, none, none, none, none] ∧ FeedOk H1 a c ∧ LamX.Tabs (tbs Pt) H1, ⟨_, rfl, s0, ns, rfl, hS, hlen, fun a c H1 _ _ s1 hF => ⟨a, c, rfl, hF, hT0.ext s1⟩⟩, fun σ H1 hM => ?_⟩
    obtain ⟨a, c, rfl, hF, hT1⟩ := hM
    refine ⟨fun σ H2 => True, ?_, fun σ H2 hM => q _⟩
    refine ⟨6, rfl, by decide, by decide, for_range (n := 6) (fun i σ H2 => FeedOk H2 a c ∧ LamX.Tabs (tbs Pt) H2 ∧ ∃ y2 y3 y4 y5 y6 y7 y8, σ = [some (.ref s0), some (.ref a), y2, y3, y4, y5, y6, y7, y8]) ⟨hF, hT1, _, _, _, _, _, _, _, rfl⟩ (fun i σ H2 hi hp => ?_) (fun σ H2 hp => trivial)⟩
    obtain ⟨hF2, hT2, y2, y3, y4, y5, y6, y7, y8, rfl⟩ := hp
    -- lines
    refine ⟨fun σ H3 => FeedOk H3 a c ∧ LamX.Tabs (tbs Pt) H3 ∧ ∃ L T3, H3 L = some (.lst (T3.map Prod.fst)) ∧ L ≠ a ∧ RowsA a H3 T3 ∧ T3.length ≤ 5 ∧ σ = [some (.ref s0), some (.ref a), some (.int (0 + (i : Int))), y3, y4, y5, y6, y7, some (.ref L)], ?_, fun σ H3 hM => ?_⟩
    · exact ⟨_, rfl, a, c, 5, rfl, hF2, by decide, fun L H3 T3 hF3 b3 nL hL hT lT => ⟨hF3, tabs_but hF2 b3 hT2, L, T3, hL, new_ne hF2 nL, hT, lT, rfl⟩⟩
    obtain ⟨hF, hT3, L, ts, hL, nLa, hR, lR, rfl⟩ := hM
    -- what is no row
    refine ⟨fun σ H4 => Same H3 H4 ∧ ∃ O us ds, H4 O = some (.lst us) ∧ O ≠ a ∧ DtAll a H4 us ds ∧ (∀ d ∈ ds, oddOk d = true) ∧ us.length = 10 ∧ σ = [some (.ref s0), some (.ref a), some (.int (0 + (i : Int))), some (.ref O), y4, y5, y6, y7, some (.ref L)], ?_, fun σ H4 hM => ?_⟩
    · skip
      refine ⟨(small_line (by decide : 2 ≤ 1000)), fun op1 on1 => ?_⟩
      obtain ⟨os1, od1⟩ := dnewT (z := a) on1 (.cons (.int 1 (by decide +kernel)) (.cons (.int 1 (by decide +kernel)) .nil))
      refine ⟨(small_line (by decide : 3 ≤ 1000)), fun op2 on2 => ?_⟩
      obtain ⟨os2, od2⟩ := dnewT (z := a) on2 (.cons (.int 0 (by decide +kernel)) (.cons (.int 0 (by decide +kernel)) (.cons od1 .nil)))
      refine ⟨(small_line (by decide : 2 ≤ 1000)), fun op3 on3 => ?_⟩
      obtain ⟨os3, od3⟩ := dnewT (z := a) on3 (.cons (.int 1 (by decide +kernel)) (.cons (.int 2 (by decide +kernel)) .nil))
      refine ⟨(small_line (by decide : 3 ≤ 1000)), fun op4 on4 => ?_⟩
      obtain ⟨os4, od4⟩ := dnewT (z := a) on4 (.cons (.int 1 (by decide +kernel)) (.cons (.int 2 (by decide +kernel)) (.cons (.int 3 (by decide +kernel)) .nil)))
      refine ⟨(small_line (by decide : 2 ≤ 1000)), fun op5 on5 => ?_⟩
      obtain ⟨os5, od5⟩ := dnewT (z := a) on5 (.cons (.int 2 (by decide +kernel)) (.cons (.int 4 (by decide +kernel)) .nil))
      refine ⟨(small_line (by decide : 3 ≤ 1000)), fun op6 on6 => ?_⟩
      obtain ⟨os6, od6⟩ := dnewT (z := a) on6 (.cons (.int 1 (by decide +kernel)) (.cons (.int 2 (by decide +kernel)) (.cons od5 .nil)))
      refine ⟨(small_line (by decide : 2 ≤ 1000)), fun op7 on7 => ?_⟩
      obtain ⟨os7, od7⟩ := dnewT (z := a) on7 (.cons (.int 1 (by decide +kernel)) (.cons (.int 1 (by decide +kernel)) .nil))
      refine ⟨(small_line (by decide : 3 ≤ 1000)), fun op8 on8 => ?_⟩
      obtain ⟨os8, od8⟩ := dnewT (z := a) on8 (.cons (.bl true) (.cons (.int 1 (by decide +kernel)) (.cons od7 .nil)))
      refine ⟨(small_line (by decide : 2 ≤ 1000)), fun op9 on9 => ?_⟩
      obtain ⟨os9, od9⟩ := dnewT (z := a) on9 (.cons (.int 1 (by decide +kernel)) (.cons (.int 1 (by decide +kernel)) .nil))
      refine ⟨(small_line (by decide : 3 ≤ 1000)), fun op10 on10 => ?_⟩
      obtain ⟨os10, od10⟩ := dnewT (z := a) on10 (.cons (.int 1 (by decide +kernel)) (.cons (.bl false) (.cons od9 .nil)))
      refine ⟨(small_line (by decide : 0 ≤ 1000)), fun op11 on11 => ?_⟩
      obtain ⟨os11, od11⟩ := dnewT (z := a) on11 .nil
      refine ⟨(small_line (by decide : 10 ≤ 1000)), fun op12 on12 => ?_⟩
      obtain ⟨os12, oall, ohrw⟩ := drow (z := a) on12 (.cons (od2.same (os3.trans (os4.trans (os5.trans (os6.trans (os7.trans (os8.trans (os9.trans (os10.trans os11))))))))) (.cons (od3.same (os4.trans (os5.trans (os6.trans (os7.trans (os8.trans (os9.trans (os10.trans os11)))))))) (.cons (od4.same (os5.trans (os6.trans (os7.trans (os8.trans (os9.trans (os10.trans os11))))))) (.cons (od6.same (os7.trans (os8.trans (os9.trans (os10.trans os11))))) (.cons (od8.same (os9.trans (os10.trans os11))) (.cons (od10.same os11) (.cons .non (.cons (.int 7 (by decide +kernel)) (.cons od11 (.cons (.str (Str.ofString "row") (by decide +kernel)) .nil))))))))))
      exact ⟨(os1.trans (os2.trans (os3.trans (os4.trans (os5.trans (os6.trans (os7.trans (os8.trans (os9.trans (os10.trans (os11.trans os12))))))))))), op12, _, _, ohrw, new_ne (hF.same (os1.trans (os2.trans (os3.trans (os4.trans (os5.trans (os6.trans (os7.trans (os8.trans (os9.trans (os10.trans os11))))))))))) on12, oall, by decide +kernel, rfl, rfl⟩
    obtain ⟨s4, O, us4, ds4, hO, nOa, hds, hok4, l4, rfl⟩ := hM
    have hF := hF.same s4
    refine ⟨fun σ H5 => Same H4 H5 ∧ ∃ O us ds, H5 O = some (.lst us) ∧ O ≠ a ∧ DtAll a H5 us ds ∧ (∀ d ∈ ds, oddOk d = true) ∧ us.length = 16 ∧ σ = [some (.ref s0), some (.ref a), some (.int (0 + (i : Int))), some (.ref O), y4, y5, y6, y7, some (.ref L)], ?_, fun σ H5 hM => ?_⟩
    · skip
      refine ⟨_, rfl, (small_line (by decide : 2 ≤ 1000)), fun rp1 rn1 => ?_⟩
      obtain ⟨rs1, rd1⟩ := dnewT (z := a) rn1 (.cons (.int 1 (by decide +kernel)) (.cons (.int 1 (by decide +kernel)) .nil))
      refine ⟨(small_line (by decide : 3 ≤ 1000)), fun rp2 rn2 => ?_⟩
      obtain ⟨rs2, rd2⟩ := dnewL (z := a) rn2 (new_ne (hF.same rs1) rn2) (.cons (.int 1 (by decide +kernel)) (.cons (.int 2 (by decide +kernel)) (.cons rd1 .nil)))
      refine ⟨(small_line (by decide : 2 ≤ 1000)), fun rp3 rn3 => ?_⟩
      obtain ⟨rs3, rd3⟩ := dnewT (z := a) rn3 (.cons (.int 1 (by decide +kernel)) (.cons (.int 1 (by decide +kernel)) .nil))
      refine ⟨(small_line (by decide : 3 ≤ 1000)), fun rp4 rn4 => ?_⟩
      obtain ⟨rs4, rd4⟩ := dnewT (z := a) rn4 (.cons (.int 1 (by decide +kernel)) (.cons .non (.cons rd3 .nil)))
      refine ⟨(small_line (by decide : 2 ≤ 1000)), fun rp5 rn5 => ?_⟩
      obtain ⟨rs5, rd5⟩ := dnewT (z := a) rn5 (.cons (.int 1 (by decide +kernel)) (.cons (.int 0 (by decide +kernel)) .nil))
      refine ⟨(small_line (by decide : 3 ≤ 1000)), fun rp6 rn6 => ?_⟩
      obtain ⟨rs6, rd6⟩ := dnewT (z := a) rn6 (.cons (.int 1 (by decide +kernel)) (.cons (.int 2 (by decide +kernel)) (.cons rd5 .nil)))
      refine ⟨(small_line (by decide : 2 ≤ 1000)), fun rp7 rn7 => ?_⟩
      obtain ⟨rs7, rd7⟩ := dnewT (z := a) rn7 (.cons (.int 1 (by decide +kernel)) (.cons (.int 1 (by decide +kernel)) .nil))
      refine ⟨(small_line (by decide : 4 ≤ 1000)), fun rp8 rn8 => ?_⟩
      obtain ⟨rs8, rd8⟩ := dnewT (z := a) rn8 (.cons (.int 1 (by decide +kernel)) (.cons (.int 2 (by decide +kernel)) (.cons rd7 (.cons (.int 0 (by decide +kernel)) .nil))))
      refine ⟨(small_line (by decide : 2 ≤ 1000)), fun rp9 rn9 => ?_⟩
      obtain ⟨rs9, rd9⟩ := dnewT (z := a) rn9 (.cons (.int 1 (by decide +kernel)) (.cons (.int 1 (by decide +kernel)) .nil))
      refine ⟨(small_line (by decide : 3 ≤ 1000)), fun rp10 rn10 => ?_⟩
      obtain ⟨rs10, rd10⟩ := dnewT (z := a) rn10 (.cons (.str (Str.ofString "1") (by decide +kernel)) (.cons (.int 2 (by decide +kernel)) (.cons rd9 .nil)))
      refine ⟨(small_line (by decide : 3 ≤ 1000)), fun rp11 rn11 => ?_⟩
      obtain ⟨rs11, rd11⟩ := dnewT (z := a) rn11 (.cons (.int 1 (by decide +kernel)) (.cons (.int 2 (by decide +kernel)) (.cons .non .nil)))
      refine ⟨(small_line (by decide : 6 ≤ 1000)), fun rp12 rn12 => ?_⟩
      obtain ⟨rs12, rall, rhrw⟩ := drow (z := a) rn12 (.cons (rd2.same (rs3.trans (rs4.trans (rs5.trans (rs6.trans (rs7.trans (rs8.trans (rs9.trans (rs10.trans rs11))))))))) (.cons (rd4.same (rs5.trans (rs6.trans (rs7.trans (rs8.trans (rs9.trans (rs10.trans rs11))))))) (.cons (rd6.same (rs7.trans (rs8.trans (rs9.trans (rs10.trans rs11))))) (.cons (rd8.same (rs9.trans (rs10.trans rs11))) (.cons (rd10.same rs11) (.cons rd11 .nil))))))
      have sR := (rs1.trans (rs2.trans (rs3.trans (rs4.trans (rs5.trans (rs6.trans (rs7.trans (rs8.trans (rs9.trans (rs10.trans (rs11.trans rs12)))))))))))
      refine ⟨O, rp12, _, _, rfl, rfl, sR _ _ hO, rhrw, small_line (by rw [l4]; show (10 + 6 : Nat) ≤ 1000; decide), fun p np => ?_⟩
      have sp := fun o => same_upd (o := o) np
      refine ⟨sR.trans (sp _), p, _, _, upd_same, new_ne (hF.same sR) np, ((hds.same sR).app rall).same (sp _), fun d m => ?_, by rw [List.length_append, l4]; rfl, rfl⟩
      rcases List.mem_append.mp m with m | m
      · exact hok4 d m
      · exact (show ∀ d ∈ (_ : List PyData), oddOk d = true from by decide +kernel) d m
    obtain ⟨s5, O, us5, ds5, hO, nOa, hds, hok5, l5, rfl⟩ := hM
    have hF := hF.same s5
    have s35 := s4.trans s5
    have hT5 := hT3.ext s35
    have hL5 := s35 _ _ hL
    have hR5 := hR.same s35
    -- at, late
    refine ⟨fun σ H6 => ∃ (n : Nat) (v : V) (d : PyData), FeedOk H6 a c ∧ But a H5 H6 ∧ n ≤ ts.length ∧ Dt a H6 v d ∧ oddOk d = true ∧ σ = [some (.ref s0), some (.ref a), some (.int (0 + (i : Int))), some (.ref O), some (.int (n : Int)), some v, y6, y7, some (.ref L)], ?_, fun σ H6 hM => ?_⟩
    · refine ⟨_, rfl, _, rfl, L, _, rfl, .inl (SqL.of hL5), _, _, rfl, rfl, a, c, _, rfl, hF, mid_of (by omega) (by rw [List.length_map]; omega), fun r H6 r0 r1 hF6 b6 => ?_⟩
      obtain ⟨n, rfl⟩ := Int.eq_ofNat_of_zero_le r0
      refine ⟨_, rfl, _, rfl, a, c, O, us5, rfl, hF6, b6 _ _ nOa hO, nOa, by omega, by omega, fun v H7 hv hF7 b7 => ?_⟩
      obtain ⟨d, md, hd⟩ := (dts_but hF6 b7 (dts_but hF b6 hds)).mem hv
      rw [List.length_map] at r1
      exact ⟨_, _, rfl, n, v, d, hF7, b6.trans b7, by omega, hd, hok5 d md, rfl⟩
    obtain ⟨n, v, d, hF6, b6, hn, hv, od, rfl⟩ := hM
    have hT6 := tabs_but hF b6 hT5
    have hL6 := b6 _ _ nLa hL5
    have hR6 := hR5.but hF b6
    -- bent
    refine ⟨fun σ H7 => Same H6 H7 ∧ ∃ B, H6 B = none ∧ H7 B = some (.lst ((ts.take n).map Prod.fst ++ [v] ++ (ts.drop n).map Prod.fst)) ∧ σ = [some (.ref s0), some (.ref a), some (.int (0 + (i : Int))), some (.ref O), some (.int (n : Int)), some v, y6, some (.ref B), some (.ref L)], ?_, fun σ H7 hM => ?_⟩
    · refine ⟨_, rfl, _, rfl, _, rfl, L, _, rfl, SqL.of hL6, fun p1 n1 => ?_⟩
      rw [cut_take _ _ (by rw [List.length_map]; exact hn), ← List.map_take]
      have s1 := same_upd (o := .lst ((ts.take n).map Prod.fst)) n1
      refine ⟨_, rfl, small_line (by show 1 ≤ 1000; decide), fun p2 n2 => ?_⟩
      have s2 := same_upd (o := .lst [v]) n2
      refine ⟨p1, p2, _, _, rfl, rfl, s2 _ _ upd_same, upd_same, small_line (by rw [List.length_map, List.length_take]; show _ + 1 ≤ _; omega), fun p3 n3 => ?_⟩
      have s3 := same_upd (o := .lst ((ts.take n).map Prod.fst ++ [v])) n3
      have s13 := s1.trans (s2.trans s3)
      refine ⟨_, rfl, _, rfl, _, rfl, L, _, rfl, SqL.of (s13 _ _ hL6), fun p4 n4 => ?_⟩
      rw [cut_drop _ _ (by rw [List.length_map]; exact hn), ← List.map_drop]
      have s4' := same_upd (o := .lst ((ts.drop n).map Prod.fst)) n4
      refine ⟨p3, p4, _, _, rfl, rfl, s4' _ _ upd_same, upd_same, small_line (by rw [List.length_append, List.length_map, List.length_map, List.length_take, List.length_drop]; show _ + 1 + _ ≤ _; omega), fun p5 n5 => ?_⟩
      exact ⟨s13.trans (s4'.trans (same_upd n5)), p5, none_of_same (s13.trans s4') n5, upd_same, rfl⟩
    obtain ⟨s7, B7, nB7, hB7, rfl⟩ := hM
    have hF := hF6.same s7
    have hT7 := hT6.ext s7
    have hL7 := s7 _ _ hL6
    have hR7 := hR6.same s7
    have hv7 := hv.same s7
    have nBa : B7 ≠ a := new_ne hF6 nB7
    refine ⟨fun σ H8 => ∃ B us ds, FeedOk H8 a c ∧ But a H7 H8 ∧ H8 B = some (.lst us) ∧ BentA a H8 us ds n ∧ σ = [some (.ref s0), some (.ref a), some (.int (0 + (i : Int))), some (.ref O), some (.int (n : Int)), some v, y6, some (.ref B), some (.ref L)], ?_, fun σ H8 hM => ?_⟩
    · refine ⟨_, rfl, _, rfl, small_line (by show 1 ≤ 1000; decide), fun p6 n6 => ?_⟩
      have s6 := same_upd (o := .lst [v]) n6
      refine ⟨_, rfl, a, c, 2, rfl, hF.same s6, mid_of (by decide) (by decide), fun r H8 r0 r1 hF8 b8 => ?_⟩
      obtain ⟨k, rfl⟩ := Int.eq_ofNat_of_zero_le r0
      have n6a := new_ne hF n6
      refine ⟨p6, _, [v], rfl, rfl, b8 _ _ n6a upd_same, by omega, by omega, ?_, fun p7 n7 => ?_⟩
      · show 1 * _ ≤ _
        rw [Int.toNat_natCast]
        exact small_line (by omega)
      · rw [Int.toNat_natCast]
        have s8 := same_upd (o := .lst (List.replicate k [v]).flatten) n7
        have bb : But a H7 (upd H8 p7 (.lst (List.replicate k [v]).flatten)) := ((But.of s6).trans b8).trans (But.of s8)
        have ll : ((List.replicate k [v]).flatten).length = k := by
          rw [List.length_flatten, List.map_replicate, List.sum_replicate_nat]
          show k * 1 = k
          omega
        refine ⟨B7, p7, _, _, rfl, rfl, bb _ _ nBa hB7, upd_same, small_line (by rw [ll, List.length_append, List.length_append, List.length_map, List.length_map, List.length_take, List.length_drop]; show _ + 1 + _ + _ ≤ _; omega), fun p8 n8 => ?_⟩
        have s9 := same_upd (o := .lst (((ts.take n).map Prod.fst ++ [v] ++ (ts.drop n).map Prod.fst) ++ (List.replicate k [v]).flatten)) n8
        have bb2 := bb.trans (But.of s9)
        obtain ⟨ds, hb⟩ := BentA.of (k := k) (hR7.but hF bb2) lR hn (by omega) (hv7.but hF bb2) od
        exact ⟨p8, _, ds, (hF8.new n7).new n8, bb2, upd_same, hb, rfl⟩
    obtain ⟨B, us, ds, hF8, b8, hB, hb, rfl⟩ := hM
    have hT8 := tabs_but hF b8 hT7
    have hL8 := b8 _ _ nLa hL7
    have hR8 := hR7.but hF b8
    -- kept
    refine ⟨fun σ H9 => Same H8 H9 ∧ ∃ Kp, H9 Kp = some (.lst us) ∧ σ = [some (.ref s0), some (.ref a), some (.int (0 + (i : Int))), some (.ref O), some (.int (n : Int)), some v, some (.ref Kp), some (.ref B), some (.ref L)], ?_, fun σ H9 hM => ?_⟩
    · exact ⟨_, rfl, B, us, rfl, .inl (SqL.of hB), fun l nl => ⟨same_upd nl, l, upd_same, rfl⟩⟩
    obtain ⟨s9, Kp, hK, rfl⟩ := hM
    have hF := hF8.same s9
    have hT9 := hT8.ext s9
    have hB9 := s9 _ _ hB
    have hb9 := hb.same s9
    have hL9 := s9 _ _ hL8
    have hR9 := hR8.same s9
    have told : ∀ {G : Hp} {p q : Addr}, G p = some (.tup [.str "InvalidRow", .int (n : Int)]) → G q = some (.tup [.str "InvalidRow", .int (n : Int)]) → ∀ {C : VK}, C (.bl false) G → rNeD K (.ref p) (.ref q) G C := fun hp hq C k => by
      have sh : SeqAt.shaped (.tuple [.str "InvalidRow", .int (n : Int)]) = true := shaped_pair (by decide +kernel) _
      refine ⟨_, _, .tup (SqT.of hp) (.cons (.str _) (.cons (.int _) .nil)), .tup (SqT.of hq) (.cons (.str _) (.cons (.int _) .nil)), sh, sh, ?_⟩
      rw [eqv_tag]
      exact k
    refine ⟨fun σ G => LamX.ExtN H9 G ∧ LamX.Tabs (tbs Pt) G ∧ σ = [some (.ref s0), some (.ref a), some (.int (0 + (i : Int))), some (.ref O), some (.int (n : Int)), some v, some (.ref Kp), some (.ref B), some (.ref L)], ?_, fun σ G hM => ?_⟩
    · refine ⟨hT9, fun H10 x10 hT10 => fun H11 Q' E' s11 hok hE => ?_⟩
      have hB11 := s11 _ _ (x10 _ _ hB9 (by intro ps z; cases z))
      have hb11 := (hb9.ext x10).same s11
      refine ⟨_, rfl, fun x dx nx nd ne => ?_⟩
      have si := ins_new (C := fa 63) nx nd ne
      refine ⟨x, B, us, n, rfl, .inl (SqL.of (si _ _ hB11)), Nat.le_trans hb.l (by decide), (hb11.same si).x, hb.nl, whyE_row T hE fun p H12 s12 hp => ?_⟩
      have sH := s11.trans (si.trans s12)
      refine ⟨_, rfl, two_line, fun p2 n2 => told (same_upd n2 _ _ hp) upd_same ⟨_, rfl, iteF ?_⟩⟩
      have sE := sH.trans (same_upd (o := .tup [V.str "InvalidRow", .int (n : Int)]) n2)
      have hbE := (hb9.ext x10).same sE
      have hBE := sE _ _ (x10 _ _ hB9 (by intro ps z; cases z))
      have hKE := sE _ _ (x10 _ _ hK (by intro ps z; cases z))
      refine ⟨_, rfl, _, rfl, .list ds, .list ds, .lst (SqL.of hBE) (DtAll.dp _ _ hbE.d), .lst (SqL.of hKE) (DtAll.dp _ _ hbE.d), hb.s, hb.s, _, rfl, ?_⟩
      rw [sh_eqv hb.s]
      exact iteF ⟨fun b o e k => sE _ _ (x10 b o e k), hT10.ext sE, rfl⟩
    obtain ⟨xG, hTG, rfl⟩ := hM
    have hFG := hF.ext xG
    have hBG := xG _ _ hB9 (by intro ps z; cases z)
    have hbG := hb9.ext xG
    have hLG := xG _ _ hL9 (by intro ps z; cases z)
    have hRG := hR9.ext xG
    refine ⟨hTG, fun H10 x10 hT10 => fun H11 Q' E' s11 hok hE => ?_⟩
    have hB11 := s11 _ _ (x10 _ _ hBG (by intro ps z; cases z))
    have hb11 := (hbG.ext x10).same s11
    refine ⟨_, rfl, B, us, rfl, .inl ⟨SqL.of hB11, fun U nU => ⟨rfl, rfl, fun x dx nx nd ne => ?_⟩⟩⟩
    have sU := same_upd (o := .tup us) nU
    have si := ins_new (C := fa 63) nx nd ne
    refine ⟨x, U, us, n, rfl, .inr (SqT.of (si _ _ upd_same)), Nat.le_trans hb.l (by decide), (hb11.same (sU.trans si)).x, hb.nl, whyE_row T hE fun p H12 s12 hp => ?_⟩
    have sH := s11.trans (sU.trans (si.trans s12))
    refine ⟨_, rfl, two_line, fun p2 n2 => told (same_upd n2 _ _ hp) upd_same ⟨_, rfl, iteF ?_⟩⟩
    have sE := sH.trans (same_upd (o := .tup [V.str "InvalidRow", .int (n : Int)]) n2)
    have hT12 := hT10.ext sE
    refine ⟨hT12, fun H13 x13 hT13 => fun H14 Q2 E2 s14 hok2 hE2 => ?_⟩
    have hL14 := s14 _ _ (x13 _ _ (sE _ _ (x10 _ _ hLG (by intro ps z; cases z))) (by intro ps z; cases z))
    have hR14 := (((hRG.ext x10).same sE).ext x13).same s14
    refine ⟨_, rfl, fun x dx nx nd ne => ?_⟩
    have si2 := ins_new (C := fa 63) nx nd ne
    refine ⟨x, L, dx, ts, 40, rfl, upd_same, .inl (SqL.of (si2 _ _ hL14)), fun t m => ⟨a, ((hR14.same si2) t m).1, ((hR14.same si2) t m).2.1⟩, fun t m => ((hR14.same si2) t m).2.2, by decide, by decide, by omega, fun H15 oth _ => ⟨rfl, hok2 _ _ fun p np => ?_⟩⟩
    have sL : Same H14 H15 := fun b o e => oth b o (ne_of_none e nx) (si2 _ _ e)
    have sp := same_upd (o := .tup [V.str "", .ref x]) np
    have sZ := s14.trans (sL.trans sp)
    refine ⟨p, _, _, _, rfl, rfl, SqT.of upd_same, t0, rfl, _, rfl, iteF ⟨(((hFG.ext x10).same sE).ext x13).same sZ, hT13.ext sZ, _, _, _, _, _, _, _, rfl⟩⟩
end
set_option maxHeartbeats 0 in
theorem all_hk {w : World} {K : PySem.W.Frag} {h : Heap} {mg : Str → Option Value} {fl : Addr} (c : SaysY hA hFn hE h K) (G : h.Ns mainGlobals mg) (hfa : mg "law" = some (.ref fl)) :
    LamX.LawAtS PySem.Challenge.rw_tiespan_k12_rows_refused w K CX0 20 63 "_law_script" mg fl h := by
  have KX := c.kin
  have e := hfa.symm.trans (He.glo_ok KX G (c.fact 40 (f := .glo "law") rfl))
  cases e
  obtain ⟨fd13, D13⟩ := c.get 0 (d := hd13) rfl
  have F13 : Fun K "is_whole" "is_whole" s_p_is_whole (He.ga K "is_whole") fd13 := fun_of D13
  obtain ⟨fd15, D15⟩ := c.get 1 (d := hd15) rfl
  have F15 : Fun K "common_divisor" "common_divisor" s_p_common_divisor (He.ga K "common_divisor") fd15 := fun_of D15
  obtain ⟨fd16, D16⟩ := c.get 2 (d := hd16) rfl
  have F16 : FunD K "ratio" "ratio" (defArgs s_p_ratio) (defBody s_p_ratio) (defScope s_p_ratio) [V.int 1] [] (He.ga K "ratio") fd16 := D16
  obtain ⟨fd17, D17⟩ := c.get 3 (d := hd17) rfl
  have F17 : Fun K "is_ratio" "is_ratio" s_p_is_ratio (He.ga K "is_ratio") fd17 := fun_of D17
  obtain ⟨fd18, D18⟩ := c.get 4 (d := hd18) rfl
  have F18 : Fun K "is_less" "is_less" s_p_is_less (He.ga K "is_less") fd18 := fun_of D18
  obtain ⟨fd19, D19⟩ := c.get 5 (d := hd19) rfl
  have F19 : Fun K "least" "least" s_p_least (He.ga K "least") fd19 := fun_of D19
  obtain ⟨fd20, D20⟩ := c.get 6 (d := hd20) rfl
  have F20 : Fun K "greatest" "greatest" s_p_greatest (He.ga K "greatest") fd20 := fun_of D20
  obtain ⟨fd22, D22⟩ := c.get 7 (d := hd22) rfl
  have F22 : Fun K "precedes" "precedes" s_p_precedes (He.ga K "precedes") fd22 := fun_of D22
  obtain ⟨fd23, D23⟩ := c.get 8 (d := hd23) rfl
  have F23 : Fun K "merged" "merged" s_p_merged (He.ga K "merged") fd23 := fun_of D23
  obtain ⟨fd24, D24⟩ := c.get 9 (d := hd24) rfl
  have F24 : Fun K "in_order" "in_order" s_p_in_order (He.ga K "in_order") fd24 := fun_of D24
  obtain ⟨fd26, D26⟩ := c.get 10 (d := hd26) rfl
  have F26 : Fun K "is_row" "is_row" s_p_is_row (He.ga K "is_row") fd26 := fun_of D26
  obtain ⟨fd27, D27⟩ := c.get 11 (d := hd27) rfl
  have F27 : Fun K "cross" "cross" s_p_cross (He.ga K "cross") fd27 := fun_of D27
  obtain ⟨fd28, D28⟩ := c.get 12 (d := hd28) rfl
  have F28 : Fun K "opposite" "opposite" s_p_opposite (He.ga K "opposite") fd28 := fun_of D28
  obtain ⟨fd29, D29⟩ := c.get 13 (d := hd29) rfl
  have F29 : Fun K "loose" "loose" s_p_loose (He.ga K "loose") fd29 := fun_of D29
  obtain ⟨fd30, D30⟩ := c.get 14 (d := hd30) rfl
  have F30 : Fun K "lowest" "lowest" s_p_lowest (He.ga K "lowest") fd30 := fun_of D30
  obtain ⟨fd31, D31⟩ := c.get 15 (d := hd31) rfl
  have F31 : Fun K "tightest" "tightest" s_p_tightest (He.ga K "tightest") fd31 := fun_of D31
  obtain ⟨fd32, D32⟩ := c.get 16 (d := hd32) rfl
  have F32 : Fun K "by_slope" "by_slope" s_p_by_slope (He.ga K "by_slope") fd32 := fun_of D32
  obtain ⟨fd33, D33⟩ := c.get 17 (d := hd33) rfl
  have F33 : Fun K "follows" "follows" s_p_follows (He.ga K "follows") fd33 := fun_of D33
  obtain ⟨fd34, D34⟩ := c.get 18 (d := hd34) rfl
  have F34 : Fun K "chain" "chain" s_p_chain (He.ga K "chain") fd34 := fun_of D34
  obtain ⟨fd35, D35⟩ := c.get 19 (d := hd35) rfl
  have F35 : Fun K "crossing" "crossing" s_p_crossing (He.ga K "crossing") fd35 := fun_of D35
  obtain ⟨fd36, D36⟩ := c.get 20 (d := hd36) rfl
  have F36 : Fun K "wall_stretch" "wall_stretch" s_p_wall_stretch (He.ga K "wall_stretch") fd36 := fun_of D36
  obtain ⟨fd37, D37⟩ := c.get 21 (d := hd37) rfl
  have F37 : Fun K "first_numbers" "first_numbers" s_p_first_numbers (He.ga K "first_numbers") fd37 := fun_of D37
  obtain ⟨fd38, D38⟩ := c.get 22 (d := hd38) rfl
  have F38 : Fun K "second_numbers" "second_numbers" s_p_second_numbers (He.ga K "second_numbers") fd38 := fun_of D38
  obtain ⟨fd39, D39⟩ := c.get 23 (d := hd39) rfl
  have F39 : Fun K "framed" "framed" s_p_framed (He.ga K "framed") fd39 := fun_of D39
  obtain ⟨fd40, D40⟩ := c.get 24 (d := hd40) rfl
  have F40 : Fun K "upright" "upright" s_p_upright (He.ga K "upright") fd40 := fun_of D40
  obtain ⟨fd41, D41⟩ := c.get 25 (d := hd41) rfl
  have F41 : Fun K "wall" "wall" s_p_wall (He.ga K "wall") fd41 := fun_of D41
  obtain ⟨fd42, D42⟩ := c.get 26 (d := hd42) rfl
  have F42 : Fun K "shown" "shown" s_p_shown (He.ga K "shown") fd42 := fun_of D42
  obtain ⟨fd43, D43⟩ := c.get 27 (d := hd43) rfl
  have F43 : Fun K "canonical" "canonical" s_p_canonical (He.ga K "canonical") fd43 := fun_of D43
  obtain ⟨fd65, D65⟩ := c.get 28 (d := hd65) rfl
  have F65 : Fun K "_law_feed" "_law_feed" s_feed (He.ga K "_law_feed") fd65 := fun_of D65
  obtain ⟨fd66, D66⟩ := c.get 29 (d := hd66) rfl
  have F66 : Fun K "_law_draw" "_law_draw" s_draw (He.ga K "_law_draw") fd66 := fun_of D66
  obtain ⟨fd67, D67⟩ := c.get 30 (d := hd67) rfl
  have F67 : Fun K "_law_any" "_law_any" s_any (He.ga K "_law_any") fd67 := fun_of D67
  obtain ⟨fd68, D68⟩ := c.get 31 (d := hd68) rfl
  have F68 : Fun K "_law_field" "_law_field" s_field (He.ga K "_law_field") fd68 := fun_of D68
  obtain ⟨fd69, D69⟩ := c.get 32 (d := hd69) rfl
  have F69 : Fun K "_law_why" "_law_why" s_why (He.ga K "_law_why") fd69 := fun_of D69
  obtain ⟨fd70, D70⟩ := c.get 33 (d := hd70) rfl
  have F70 : Fun K "_law_gcd" "_law_gcd" s_gcd (He.ga K "_law_gcd") fd70 := fun_of D70
  obtain ⟨fd71, D71⟩ := c.get 34 (d := hd71) rfl
  have F71 : Fun K "_law_low" "_law_low" s_low (He.ga K "_law_low") fd71 := fun_of D71
  obtain ⟨fd72, D72⟩ := c.get 35 (d := hd72) rfl
  have F72 : Fun K "_law_plus" "_law_plus" s_plus (He.ga K "_law_plus") fd72 := fun_of D72
  obtain ⟨fd73, D73⟩ := c.get 36 (d := hd73) rfl
  have F73 : Fun K "_law_by" "_law_by" s_by (He.ga K "_law_by") fd73 := fun_of D73
  obtain ⟨fd74, D74⟩ := c.get 37 (d := hd74) rfl
  have F74 : Fun K "_law_part" "_law_part" s_part (He.ga K "_law_part") fd74 := fun_of D74
  obtain ⟨fd75, D75⟩ := c.get 38 (d := hd75) rfl
  have F75 : Fun K "_law_rows" "_law_rows" s_rows (He.ga K "_law_rows") fd75 := fun_of D75
  obtain ⟨fd76, D76⟩ := c.get 39 (d := hd76) rfl
  have F76 : Fun K "_law_spot" "_law_spot" s_spot (He.ga K "_law_spot") fd76 := fun_of D76
  obtain ⟨fd77, D77⟩ := c.get 40 (d := hd77) rfl
  have F77 : Fun K "law" "law" s_p_law (He.ga K "law") fd77 := fun_of D77
  obtain ⟨fd1003, D1003⟩ := c.get 41 (d := hd1003) rfl
  have F1003 : Fun K "__init__" "InvalidRatio.__init__" (inClass (topS 3) 0) (He.ma K (He.ga K "InvalidRatio") "__init__") fd1003 := fun_of D1003
  obtain ⟨fd1004, D1004⟩ := c.get 42 (d := hd1004) rfl
  have F1004 : Fun K "__init__" "InvalidRow.__init__" (inClass (topS 4) 0) (He.ma K (He.ga K "InvalidRow") "__init__") fd1004 := fun_of D1004
  obtain ⟨fd1500, D1500⟩ := c.get 43 (d := hd1500) rfl
  have F1500 : FunD K "__init__" "Figure.__init__" (defArgs s_p_FigInit) (defBody s_p_FigInit) (defScope s_p_FigInit) [V.ref (He.dflAt ("Figure", some "__init__") 0 K)] [] (He.ma K (He.ga K "Figure") "__init__") fd1500 := D1500
  have Bn16 : Binds K fd16 ["top", "under"] [] := by
    obtain ⟨ds, v, b⟩ := F16.binds1 (ps := ["top", "under"]) 2 1 (by simp) rfl fun T kV doc pm an cdv ct us its h1 h2 => match us, its, h1, h2 with | [_, _], [_], _, _ => ⟨_, rfl, rfl⟩
    cases v
    exact b
  have Bd16 := F16.binds1 (ps := ["top", "under"]) 1 0 (by simp) rfl fun T kV doc pm an cdv ct us its h1 h2 => match us, its, h1, h2 with | [_], [_], _, _ => ⟨_, rfl, rfl⟩
  have FC : FunC K "law" s_p_law (He.ga K "law") fd77 (He.cT K lawD).1 := funC_of D77
  have E3 : ErrC K mg "InvalidRatio" (He.ga K "InvalidRatio") (He.ga K "TieError") (He.ga K "Missing") (He.ma K (He.ga K "InvalidRatio") "__init__") := errB_ok KX G (c.own 0 (b := errB "InvalidRatio") rfl)
  have E4 : ErrC K mg "InvalidRow" (He.ga K "InvalidRow") (He.ga K "TieError") (He.ga K "Missing") (He.ma K (He.ga K "InvalidRow") "__init__") := errB_ok KX G (c.own 1 (b := errB "InvalidRow") rfl)
  have Bn1500 : Binds K (fd1500) ["self", "rows"] [] := by
    obtain ⟨ds, v, b⟩ := F1500.binds1 (ps := ["self", "rows"]) 2 1 (by simp) rfl fun T kV doc pm an cdv ct us its h1 h2 => match us, its, h1, h2 with | [_, _], [_], _, _ => ⟨_, rfl, rfl⟩
    cases v
    exact b
  have Bd1500 := F1500.binds1 (ps := ["self", "rows"]) 1 0 (by simp) rfl fun T kV doc pm an cdv ct us its h1 h2 => match us, its, h1, h2 with | [_], [_], _, _ => ⟨_, rfl, rfl⟩
  have KB1500 : KBn K (fd1500) ["self", "rows"] 1 ["rows"] (fun us ws => us ++ [ws.getD 0 Value.none]) (fun vs zs => vs ++ [zs.getD 0 V.non]) := by
    obtain ⟨oc, od, dV, kV, doc, pm, an, cdv, ct, osl, z, lk, hcd, hD, hK⟩ := F1500.ex
    rcases hD with ⟨z2, _⟩ | ⟨_, T, o, its, m, z3, lT, oT, rT⟩
    · cases z2
    · cases rT with
      | cons r1 rT =>
        cases rT
        subst z z3
        exact ⟨fun s us ws X hu hw => match us, ws, hu, hw with | [_], [a], _, _ => BindsTo.of_looks fun M => looks_items X lT oT (.of_pure rfl), fun r1 r2 => r1.append (one_rel r2)⟩
  have T : Txt K mg (fun i => match i with
      | 13 => He.ga K "is_whole"
      | 15 => He.ga K "common_divisor"
      | 16 => He.ga K "ratio"
      | 17 => He.ga K "is_ratio"
      | 18 => He.ga K "is_less"
      | 19 => He.ga K "least"
      | 20 => He.ga K "greatest"
      | 22 => He.ga K "precedes"
      | 23 => He.ga K "merged"
      | 24 => He.ga K "in_order"
      | 26 => He.ga K "is_row"
      | 27 => He.ga K "cross"
      | 28 => He.ga K "opposite"
      | 29 => He.ga K "loose"
      | 30 => He.ga K "lowest"
      | 31 => He.ga K "tightest"
      | 32 => He.ga K "by_slope"
      | 33 => He.ga K "follows"
      | 34 => He.ga K "chain"
      | 35 => He.ga K "crossing"
      | 36 => He.ga K "wall_stretch"
      | 37 => He.ga K "first_numbers"
      | 38 => He.ga K "second_numbers"
      | 39 => He.ga K "framed"
      | 40 => He.ga K "upright"
      | 41 => He.ga K "wall"
      | 42 => He.ga K "shown"
      | 43 => He.ga K "canonical"
      | 65 => He.ga K "_law_feed"
      | 66 => He.ga K "_law_draw"
      | 67 => He.ga K "_law_any"
      | 68 => He.ga K "_law_field"
      | 69 => He.ga K "_law_why"
      | 70 => He.ga K "_law_gcd"
      | 71 => He.ga K "_law_low"
      | 72 => He.ga K "_law_plus"
      | 73 => He.ga K "_law_by"
      | 74 => He.ga K "_law_part"
      | 75 => He.ga K "_law_rows"
      | 76 => He.ga K "_law_spot"
      | 77 => He.ga K "law"
      | 2 => He.ga K "TieError"
      | 6 => He.ga K "Missing"
      | 3 => He.ga K "InvalidRatio"
      | 1003 => He.ma K (He.ga K "InvalidRatio") "__init__"
      | 4 => He.ga K "InvalidRow"
      | 1004 => He.ma K (He.ga K "InvalidRow") "__init__"
      | 2000 => He.ga K "ZERO"
      | 63 => He.ga K "Figure"
      | 1500 => He.ma K (He.ga K "Figure") "__init__"
      | 1502 => He.dflAt ("Figure", some "__init__") 0 K
      | _ => He.ga K "law") (fun i => match i with
      | 13 => fd13
      | 15 => fd15
      | 16 => fd16
      | 17 => fd17
      | 18 => fd18
      | 19 => fd19
      | 20 => fd20
      | 22 => fd22
      | 23 => fd23
      | 24 => fd24
      | 26 => fd26
      | 27 => fd27
      | 28 => fd28
      | 29 => fd29
      | 30 => fd30
      | 31 => fd31
      | 32 => fd32
      | 33 => fd33
      | 34 => fd34
      | 35 => fd35
      | 36 => fd36
      | 37 => fd37
      | 38 => fd38
      | 39 => fd39
      | 40 => fd40
      | 41 => fd41
      | 42 => fd42
      | 43 => fd43
      | 65 => fd65
      | 66 => fd66
      | 67 => fd67
      | 68 => fd68
      | 69 => fd69
      | 70 => fd70
      | 71 => fd71
      | 72 => fd72
      | 73 => fd73
      | 74 => fd74
      | 75 => fd75
      | 76 => fd76
      | 77 => fd77
      | 1003 => fd1003
      | 1004 => fd1004
      | 1500 => fd1500
      | _ => fd77) := {
    F_p_is_whole := F13, g_p_is_whole := He.glo_ok KX G (c.fact 0 (f := .glo "is_whole") rfl)
    b_p_is_whole := F13.binds (ps := ["thing"]) fun _ _ _ _ _ _ us hl => match us, hl with | [_], _ => rfl
    F_p_common_divisor := F15, g_p_common_divisor := He.glo_ok KX G (c.fact 1 (f := .glo "common_divisor") rfl)
    b_p_common_divisor := F15.binds (ps := ["one", "other"]) fun _ _ _ _ _ _ us hl => match us, hl with | [_, _], _ => rfl
    F_p_ratio := F16, g_p_ratio := He.glo_ok KX G (c.fact 2 (f := .glo "ratio") rfl)
    b_p_ratio := Bn16, d_p_ratio := Bd16
    F_p_is_ratio := F17, g_p_is_ratio := He.glo_ok KX G (c.fact 3 (f := .glo "is_ratio") rfl)
    b_p_is_ratio := F17.binds (ps := ["thing"]) fun _ _ _ _ _ _ us hl => match us, hl with | [_], _ => rfl
    F_p_is_less := F18, g_p_is_less := He.glo_ok KX G (c.fact 4 (f := .glo "is_less") rfl)
    b_p_is_less := F18.binds (ps := ["one", "other"]) fun _ _ _ _ _ _ us hl => match us, hl with | [_, _], _ => rfl
    F_p_least := F19, g_p_least := He.glo_ok KX G (c.fact 5 (f := .glo "least") rfl)
    F_p_greatest := F20, g_p_greatest := He.glo_ok KX G (c.fact 6 (f := .glo "greatest") rfl)
    F_p_precedes := F22, g_p_precedes := He.glo_ok KX G (c.fact 7 (f := .glo "precedes") rfl)
    b_p_precedes := F22.binds (ps := ["one", "other"]) fun _ _ _ _ _ _ us hl => match us, hl with | [_, _], _ => rfl
    F_p_merged := F23, g_p_merged := He.glo_ok KX G (c.fact 8 (f := .glo "merged") rfl)
    b_p_merged := F23.binds (ps := ["ones", "others"]) fun _ _ _ _ _ _ us hl => match us, hl with | [_, _], _ => rfl
    F_p_in_order := F24, g_p_in_order := He.glo_ok KX G (c.fact 9 (f := .glo "in_order") rfl)
    b_p_in_order := F24.binds (ps := ["things"]) fun _ _ _ _ _ _ us hl => match us, hl with | [_], _ => rfl
    F_p_is_row := F26, g_p_is_row := He.glo_ok KX G (c.fact 10 (f := .glo "is_row") rfl)
    b_p_is_row := F26.binds (ps := ["thing"]) fun _ _ _ _ _ _ us hl => match us, hl with | [_], _ => rfl
    F_p_cross := F27, g_p_cross := He.glo_ok KX G (c.fact 11 (f := .glo "cross") rfl)
    b_p_cross := F27.binds (ps := ["one", "other"]) fun _ _ _ _ _ _ us hl => match us, hl with | [_, _], _ => rfl
    F_p_opposite := F28, g_p_opposite := He.glo_ok KX G (c.fact 12 (f := .glo "opposite") rfl)
    b_p_opposite := F28.binds (ps := ["row"]) fun _ _ _ _ _ _ us hl => match us, hl with | [_], _ => rfl
    F_p_loose := F29, g_p_loose := He.glo_ok KX G (c.fact 13 (f := .glo "loose") rfl)
    b_p_loose := F29.binds (ps := ["top", "under"]) fun _ _ _ _ _ _ us hl => match us, hl with | [_, _], _ => rfl
    F_p_lowest := F30, g_p_lowest := He.glo_ok KX G (c.fact 14 (f := .glo "lowest") rfl)
    b_p_lowest := F30.binds (ps := ["one"]) fun _ _ _ _ _ _ us hl => match us, hl with | [_], _ => rfl
    F_p_tightest := F31, g_p_tightest := He.glo_ok KX G (c.fact 15 (f := .glo "tightest") rfl)
    b_p_tightest := F31.binds (ps := ["rows"]) fun _ _ _ _ _ _ us hl => match us, hl with | [_], _ => rfl
    F_p_by_slope := F32, g_p_by_slope := He.glo_ok KX G (c.fact 16 (f := .glo "by_slope") rfl)
    b_p_by_slope := F32.binds (ps := ["rows"]) fun _ _ _ _ _ _ us hl => match us, hl with | [_], _ => rfl
    F_p_follows := F33, g_p_follows := He.glo_ok KX G (c.fact 17 (f := .glo "follows") rfl)
    b_p_follows := F33.binds (ps := ["row", "one", "other"]) fun _ _ _ _ _ _ us hl => match us, hl with | [_, _, _], _ => rfl
    F_p_chain := F34, g_p_chain := He.glo_ok KX G (c.fact 18 (f := .glo "chain") rfl)
    b_p_chain := F34.binds (ps := ["rows"]) fun _ _ _ _ _ _ us hl => match us, hl with | [_], _ => rfl
    F_p_crossing := F35, g_p_crossing := He.glo_ok KX G (c.fact 19 (f := .glo "crossing") rfl)
    b_p_crossing := F35.binds (ps := ["one", "other"]) fun _ _ _ _ _ _ us hl => match us, hl with | [_, _], _ => rfl
    F_p_wall_stretch := F36, g_p_wall_stretch := He.glo_ok KX G (c.fact 20 (f := .glo "wall_stretch") rfl)
    b_p_wall_stretch := F36.binds (ps := ["rows"]) fun _ _ _ _ _ _ us hl => match us, hl with | [_], _ => rfl
    F_p_first_numbers := F37, g_p_first_numbers := He.glo_ok KX G (c.fact 21 (f := .glo "first_numbers") rfl)
    b_p_first_numbers := F37.binds (ps := ["rows", "tops", "floors"]) fun _ _ _ _ _ _ us hl => match us, hl with | [_, _, _], _ => rfl
    F_p_second_numbers := F38, g_p_second_numbers := He.glo_ok KX G (c.fact 22 (f := .glo "second_numbers") rfl)
    b_p_second_numbers := F38.binds (ps := ["rows", "x"]) fun _ _ _ _ _ _ us hl => match us, hl with | [_, _], _ => rfl
    F_p_framed := F39, g_p_framed := He.glo_ok KX G (c.fact 23 (f := .glo "framed") rfl)
    b_p_framed := F39.binds (ps := ["low", "top", "tops", "floors"]) fun _ _ _ _ _ _ us hl => match us, hl with | [_, _, _, _], _ => rfl
    F_p_upright := F40, g_p_upright := He.glo_ok KX G (c.fact 24 (f := .glo "upright") rfl)
    b_p_upright := F40.binds (ps := ["rows", "x"]) fun _ _ _ _ _ _ us hl => match us, hl with | [_, _], _ => rfl
    F_p_wall := F41, g_p_wall := He.glo_ok KX G (c.fact 25 (f := .glo "wall") rfl)
    b_p_wall := F41.binds (ps := ["rows", "x"]) fun _ _ _ _ _ _ us hl => match us, hl with | [_, _], _ => rfl
    F_p_shown := F42, g_p_shown := He.glo_ok KX G (c.fact 26 (f := .glo "shown") rfl)
    b_p_shown := F42.binds (ps := ["rows", "low", "top"]) fun _ _ _ _ _ _ us hl => match us, hl with | [_, _, _], _ => rfl
    F_p_canonical := F43, g_p_canonical := He.glo_ok KX G (c.fact 27 (f := .glo "canonical") rfl)
    b_p_canonical := F43.binds (ps := ["rows"]) fun _ _ _ _ _ _ us hl => match us, hl with | [_], _ => rfl
    F_feed := F65, g_feed := He.glo_ok KX G (c.fact 28 (f := .glo "_law_feed") rfl)
    b_feed := F65.binds (ps := ["_law_script"]) fun _ _ _ _ _ _ us hl => match us, hl with | [_], _ => rfl
    F_draw := F66, g_draw := He.glo_ok KX G (c.fact 29 (f := .glo "_law_draw") rfl)
    b_draw := F66.binds (ps := ["_law_feed_here", "_law_many"]) fun _ _ _ _ _ _ us hl => match us, hl with | [_, _], _ => rfl
    F_any := F67, g_any := He.glo_ok KX G (c.fact 30 (f := .glo "_law_any") rfl)
    b_any := F67.binds (ps := ["_law_feed_here", "_law_row"]) fun _ _ _ _ _ _ us hl => match us, hl with | [_, _], _ => rfl
    F_field := F68, g_field := He.glo_ok KX G (c.fact 31 (f := .glo "_law_field") rfl)
    b_field := F68.binds (ps := ["_law_e"]) fun _ _ _ _ _ _ us hl => match us, hl with | [_], _ => rfl
    F_why := F69, g_why := He.glo_ok KX G (c.fact 32 (f := .glo "_law_why") rfl)
    b_why := F69.binds (ps := ["_law_ask"]) fun _ _ _ _ _ _ us hl => match us, hl with | [_], _ => rfl
    F_gcd := F70, g_gcd := He.glo_ok KX G (c.fact 33 (f := .glo "_law_gcd") rfl)
    b_gcd := F70.binds (ps := ["_law_one", "_law_two"]) fun _ _ _ _ _ _ us hl => match us, hl with | [_, _], _ => rfl
    F_low := F71, g_low := He.glo_ok KX G (c.fact 34 (f := .glo "_law_low") rfl)
    b_low := F71.binds (ps := ["_law_upper", "_law_lower"]) fun _ _ _ _ _ _ us hl => match us, hl with | [_, _], _ => rfl
    F_plus := F72, g_plus := He.glo_ok KX G (c.fact 35 (f := .glo "_law_plus") rfl)
    b_plus := F72.binds (ps := ["_law_one", "_law_two"]) fun _ _ _ _ _ _ us hl => match us, hl with | [_, _], _ => rfl
    F_by := F73, g_by := He.glo_ok KX G (c.fact 36 (f := .glo "_law_by") rfl)
    b_by := F73.binds (ps := ["_law_one", "_law_two"]) fun _ _ _ _ _ _ us hl => match us, hl with | [_, _], _ => rfl
    F_part := F74, g_part := He.glo_ok KX G (c.fact 37 (f := .glo "_law_part") rfl)
    b_part := F74.binds (ps := ["_law_feed_here", "_law_size"]) fun _ _ _ _ _ _ us hl => match us, hl with | [_, _], _ => rfl
    F_rows := F75, g_rows := He.glo_ok KX G (c.fact 38 (f := .glo "_law_rows") rfl)
    b_rows := F75.binds (ps := ["_law_feed_here", "_law_many"]) fun _ _ _ _ _ _ us hl => match us, hl with | [_, _], _ => rfl
    F_spot := F76, g_spot := He.glo_ok KX G (c.fact 39 (f := .glo "_law_spot") rfl)
    b_spot := F76.binds (ps := ["_law_a", "_law_b", "_law_point"]) fun _ _ _ _ _ _ us hl => match us, hl with | [_, _, _], _ => rfl
    F_p_law := F77, g_p_law := He.glo_ok KX G (c.fact 40 (f := .glo "law") rfl)
    b_p_law := F77.binds (ps := ["_law_script"]) fun _ _ _ _ _ _ us hl => match us, hl with | [_], _ => rfl
    eInvalidRatio := E3, IInvalidRatio := F1003
    bIInvalidRatio := F1003.binds (ps := ["self", "given"]) fun _ _ _ _ _ _ us hl => match us, hl with | [_, _], _ => rfl
    nInvalidRatio_given := He.noat_ok (c.fact 43 (f := .noat "InvalidRatio" "given") rfl)
    eInvalidRow := E4, IInvalidRow := F1004
    bIInvalidRow := F1004.binds (ps := ["self", "at"]) fun _ _ _ _ _ _ us hl => match us, hl with | [_, _], _ => rfl
    nInvalidRow_at := He.noat_ok (c.fact 44 (f := .noat "InvalidRow" "at") rfl)
    gTieError := He.glo_ok KX G (c.fact 41 (f := .glo "TieError") rfl), gMissing := He.glo_ok KX G (c.fact 42 (f := .glo "Missing") rfl)
    m_int := He.free_ok KX G (c.fact 47 (f := .free "int") rfl)
    m_len := He.free_ok KX G (c.fact 48 (f := .free "len") rfl)
    m_abs := He.free_ok KX G (c.fact 49 (f := .free "abs") rfl)
    m_range := He.free_ok KX G (c.fact 50 (f := .free "range") rfl)
    m_zip := He.free_ok KX G (c.fact 51 (f := .free "zip") rfl)
    m_all := He.free_ok KX G (c.fact 52 (f := .free "all") rfl)
    m_isinstance := He.free_ok KX G (c.fact 53 (f := .free "isinstance") rfl)
    m_bool := He.free_ok KX G (c.fact 54 (f := .free "bool") rfl)
    m_str := He.free_ok KX G (c.fact 55 (f := .free "str") rfl)
    m_tuple := He.free_ok KX G (c.fact 56 (f := .free "tuple") rfl)
    m_list := He.free_ok KX G (c.fact 57 (f := .free "list") rfl)
    m_dict := He.free_ok KX G (c.fact 58 (f := .free "dict") rfl)
    m_sorted := He.free_ok KX G (c.fact 59 (f := .free "sorted") rfl)
    m_set := He.free_ok KX G (c.fact 60 (f := .free "set") rfl)
    m_enumerate := He.free_ok KX G (c.fact 61 (f := .free "enumerate") rfl)
    c_LONG := intC KX G (c.fact 45 rfl)
    c_ZERO := refC KX G (c.fact 46 (f := .glo "ZERO") rfl)
    z_ZERO := fun H => tupY_ok (c.own 2 (b := fun K => tupY K (He.ga K "ZERO") [V.int 0, V.int 1]) rfl) H
    F_FigInit := F1500, b_FigInit := Bn1500, b_FigInit1 := Bd1500, kb_FigInit := KB1500
    z_FigInit := fun H => tupY_ok (c.own 4 (b := fun K => tupY K (He.dflAt ("Figure", some "__init__") 0 K) []) rfl) H
    mk_Figure := mkB_ok (c.own 3 (b := mkB (fun K => He.ga K "Figure") (fun K => He.ma K (He.ga K "Figure") "__init__")) rfl), g_Figure := He.glo_ok KX G (c.fact 62 (f := .glo "Figure") rfl)
    cl_Figure := He.cls_ok (c.fact 63 (f := .cls "Figure") rfl), na_Figure_filled := He.noat_ok (c.fact 64 (f := .noat "Figure" "filled") rfl), na_Figure_sides := He.noat_ok (c.fact 65 (f := .noat "Figure" "sides") rfl)
  }
  refine ⟨_, [He.cT K lawD], spLaw K (He.cT K lawD).2, fun p hp => by rw [List.mem_singleton.mp hp]; exact c.tab, fun p hp => by rw [List.mem_singleton.mp hp]; exact c.out, fun p hp => by rw [List.mem_singleton.mp hp]; exact PySem.W.codeHd_of_K KX c.hd, fun s u => D77.bindsA (ps := ["_law_script"]) (fun _ _ _ _ _ _ us hl => match us, hl with | [_], _ => rfl) s [u] rfl, fun H a ns hl _ hT hS => ⟨a, ns, rfl, hS, hl, fun p hp => by rw [List.mem_singleton.mp hp]; exact LamX.TabS.nil (hT _ List.mem_cons_self), fun _ => rfl⟩, fun base _ _ TB => ok_p_law T FC (TB _ List.mem_cons_self)⟩
end T8
open PySem PySem.W PySem.Calls PyProof.Rows
set_option maxHeartbeats 0 in
theorem PySem.Challenge.cw_tiespan_k12_rows_refused_holds : PySem.Challenge.rw_tiespan_k12_rows_refused.Holds := by
  w_on
  o_law
  refine HandSHeadRun.head_any (r := T8.hR) (q := T8.hQ) (H := T8.hk) (ob := T8.hob) (M := 12000) (loose := T8.hN) (d := HandSHeadRun.topDef T8.hR.prog 77) (kwd := []) T8.hob_eq
    (by kernel_rfl) (fun s => by kernel_rfl) T8.hrun (by kernel_rfl) (by kernel_rfl) (by kernel_rfl) (by rfl) (by first | assumption | decide +kernel) (by decide +kernel) ⟨rfl, rfl, rfl, rfl, rfl, by decide +kernel⟩ ?hw ?hc
  case hw => w_witness2
  case hc =>
    refine LamX.walk_ofTsE (l := PySem.Challenge.rw_tiespan_k12_rows_refused) (n := 63) (k := 20) (x := "_law_script") (CX := fun _ => L2.CX0) rfl (by decide) (by kernel_rfl) ⟨rfl, by decide, by decide⟩ ?F (fun _ _ _ _ _ z => z)
    intro w mg fa h Y G hmg0
    obtain ⟨K, c⟩ := Y
    have hmg : mg ("law" : PySem.Str) = some (.ref fa) := by
      have e : (HandSHeadRun.topDef T8.hR.prog 77).name = ("law" : PySem.Str) := by kernel_rfl
      rw [← e]
      exact hmg0
    exact ⟨K, c.kin, T8.all_hk (w := w) c G hmg⟩
