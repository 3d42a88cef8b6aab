import PyProof.Rows.All
import Wide.All
import OpenK.AllK
import Wide.FinOn
import HandS.ForMost
import HandS.Exc
import HandS.TryOnly
import HandS.ExcOwn
import HandS.WordsExc
import HandS.Evl
import HandS.IsInst
import HandS.ExcIs
import HandS.DictTup
import HandS.SortInts
import HandS.SortRule
import HandS.Wide
import HandS.More
import HandS.Walk
import HandS.Conv
import HandS.TupSets
import HandS.Deep
import KE.SortKeyHeap
import HandS.SortKw
import HandS.List
import PyProof.Rows.RegFStrParts
import HandS.RaiseMore
import KE.KRevSl
import HandS.Text
import HandS.DictComp
import PyProof.StrOps2
import HandS.Comp
import KE.DataMinKey
import HandS.FltList
import PyProof.SeqI3
import PyProof.Methods
import PyProof.ReprReads
import PyProof.ReprLen
import HandS.Set
import HandS.Strs
import HandS.Finally
import HandS.TupAny
import PySem.Challenge.RW_joinside_k10_whole_crowds_and_colours
set_option Elab.async false
set_option maxRecDepth 100000
set_option maxHeartbeats 4000000
set_option linter.all false
namespace Jk
open PySem PySem.Spec PyProof.Rows L2

/-! ## an exception that is kept as a value behind its except suite -/
/-- an exception object of the class cls (own dict d) stands at a -/
def ExK (cls : Value) (d : Option Addr) (a : Addr) : HO := .ext fun h => ∃ (ob : Obj) (fv : Array Value), h.get? a = some ob ∧ Zc cls d ob ∧ ob.data = .fields fv
theorem exK_ok {P : Program} {w : World} {H : Hp} {h : Heap} {a : Addr} {cls : Value} {d : Option Addr} {ob : Obj} {fv : Array Value} (e : h.get? a = some ob) (z : Zc cls d ob) (dd : ob.data = .fields fv) : ObjOk P w H h a (ExK cls d a) :=
  ⟨⟨ob, fv, e, z, dd⟩, ⟨ob, e⟩, fun _ _ ⟨o1, v1, q1, r1⟩ kk => ⟨o1, v1, kk o1 q1, r1⟩⟩

section
variable {X : Cx} {pins : List (Addr × Obj)} {σ : L2.St} {H : Hp} {s : Shared}
/-- an untracked record of ours, new since the entry, is tracked from here on -/
theorem Inv.track {a : Addr} {ob : Obj} {o : HO} (I : Inv X pins σ H s) (ea : s.heap.get? a = some ob) (hn : H a = none) (new : X.s_0.heap.get? a = none) (hex : a ∉ X.ex)
    (nL : a ≠ X.env.locals) (nc : ∀ v, ob.data ≠ .cell v) (np : ∀ p ∈ X.pn ++ pins, p.1 ≠ a) (ok : ObjOk X.prog X.w (upd H a o) s.heap a o) : Inv X pins σ (upd H a o) s := by
  have neT : ∀ {b u}, H b = some u → b ≠ a := fun {b u} q z => by rw [z, hn] at q; cases q
  have neZ : ∀ {b u}, X.s_0.heap.get? b = some u → b ≠ a := fun {b u} q z => by rw [z, new] at q; cases q
  have old := I.base
  refine ⟨I.ok, I.os, I.bare, ⟨old.keep, old.slot, fun b u e1 e2 e3 => ?_, old.there, fun b xs e1 => ?_, fun b u v e1 => ?_, fun b ps e1 => ?_⟩, I.loc, I.cell, ?_, fun x c e1 => ?_, fun p hp => ?_, fun b u e1 => ?_, I.len⟩
  · rw [upd_ne (neZ e1)]; exact old.free b u e1 e2 e3
  · have q := old.tups b xs e1
    rw [upd_ne (neT q)]; exact q
  · have q := old.frzs b u v e1
    rw [upd_ne (neT q)]; exact q
  · obtain ⟨m, q⟩ := old.tbls b ps e1
    exact ⟨m, by rw [upd_ne (neT q)]; exact q⟩
  · rw [upd_ne (Ne.symm nL)]; exact I.free
  · have hc : c ≠ a := fun z => by
      obtain ⟨v, o', q, hd⟩ := I.cell x c e1
      rw [z, ea] at q; cases q
      exact nc v hd
    rw [upd_ne hc]; exact I.freeC x c e1
  · obtain ⟨p1, p2, p3⟩ := I.pin p hp
    exact ⟨p1, by rw [upd_ne (np p hp)]; exact p2, p3⟩
  · by_cases hb : b = a
    · subst hb
      rw [upd_same] at e1; cases e1
      exact ok
    · rw [upd_ne hb] at e1
      refine (I.hok b u e1).stay (fun c v _ q => q) (fun c q => ?_) fun c xs q => ?_
      · rw [upd_ne (neT q)]; exact q
      · rw [upd_ne (neT q)]; exact q
end

/-- what 'except x as n: suite' wishes, where the exception stays a value behind the suite: slot i is n's -/
def wKeep (K : PySem.W.Frag) (c : Value) (i : Nat) (ts : Addr → Value → Option Addr → TS) (Wout : WX) (D : Ends) : WX := fun cls d σ H =>
  ∃ b, PySem.W.exmOne K cls c = some b ∧
    (b = true → ∀ a, H a = none → ts a cls d { nx := fun σ' H' => H' a = none → D.nx (σ'.set i none) (upd H' a (ExK cls d a)), rt := fun _ _ => False, bk := fun _ _ => False, ct := fun _ _ => False } (σ.set i (some (.ref a))) H) ∧
    (b = false → Wout cls d σ H)

section
variable {X : Cx} {x n : Str} {c : Value} {i : Nat} {body suite : List Stmt} {b₀ : Stmt} {np pos pos' : Pos} {tb : WX → TS} {ts : Addr → Value → Option Addr → TS} {Wout : WX}
theorem ps_try_keep (hst : X.stack = X.env :: X.outer) (hfr : X.env.frame = some X.env.locals) (hex : X.ex = []) (hpn : X.pn = []) (hnd : X.N.Nodup) (hi : X.N[i]? = some n) (hln : X.env.kindOf n = some .local) (hc : Names X x c) (tk : Takes X Wout)
    (hb : ∀ (W : WX) (pn : List (Addr × Obj)) (xe : Value → Shared → Prop), Takes (X.tr pn xe) W → PassesOwn (model X.prog X.w) X.A X.env xe → PSs (X.tr pn xe) body (tb W))
    (hsu : ∀ (a : Addr) (oe : Obj) (cls : Value) (d : Option Addr) (pn : List (Addr × Obj)), Zc cls d oe → (∃ vs, oe.data = .fields vs) → PSs (X.suite a ((a, oe) :: pn)) (b₀ :: suite) (ts a cls d)) :
    PS X (.Try body [.ExceptHandler (some (.Name x np)) (some n) (b₀ :: suite) pos'] [] [] pos) (fun D σ H => tb (wKeep X.K c i ts Wout D) D σ H) := by
  refine ⟨fun pins s σ H D I h => ?_⟩
  have good := I.ok
  have hA : X.A.frames = some (X.env :: X.outer) := by rw [good.frames, hst]
  refine wpAny_Try_except ?_
  refine wpAny_mono ((hb (wKeep X.K c i ts Wout D) (X.pn ++ pins) (fun e s₁ => wpAny (model X.prog X.w) X.A (noteFrame e X.env) (fun _ s₂ => wpAny (model X.prog X.w) X.A (setFlight e none) (fun _ s₃ =>
    wpAny (model X.prog X.w) X.A (handleBy e X.env [.ExceptHandler (some (.Name x np)) (some n) (b₀ :: suite) pos']) (SP X pins D) X.xe s₃) X.xe s₂) X.xe s₁) (fun u s' xx => ?_) PassesOwn.looking).run [] s σ H D (I.toTry _) h) (fun f s1 hsp => ?_) (fun e s1 he => he)
  · obtain ⟨a, B, sI, pin1, σ1, H1, cls, d, rfl, J0, nb, up, sky, na, os, ag, b, hbx, hyes, hno⟩ := xx
    have J : Inv X pins σ1 H1 sI := J0.ofTry good
    have sk : Sky B (X.env :: X.outer) a (Zc cls d) X.env.locals s'.heap := by rw [← hst]; exact sky
    -- the exception is none of the entry's objects
    have sIa : sI.heap.get? a = none ∨ a ∈ frs X.stack := by
      cases q : sI.heap.get? a with
      | none => exact .inl rfl
      | some o =>
        by_cases hm : a ∈ frs X.stack
        · exact .inr hm
        · have z := nb a o q hm
          have Ba : B.get? a = none := by
            rcases sk with ⟨_, r, _⟩ | ⟨_, r, _⟩ | ⟨_, r, _⟩ <;> exact r
          rw [Ba] at z; cases z
    show wpAny (model X.prog X.w) X.A (noteFrame (.ref a) X.env) _ _ _
    refine Sky.land Zc.steady hA hfr sk fun h3 fl3 up3 => ?_
    have J3 : Inv X pins σ1 H1 { s' with heap := h3 } := J.landed nb fl3.1 (up.trans up3) os ag
    obtain ⟨oe3, vs3, he3, hz3, hd3⟩ := fl3.there
    have notFr : ∀ {g : Heap} {o : Obj} {vs : Array Value}, g.FunFrames B (X.env :: X.outer) → g.get? a = some o → o.data = .fields vs → a ∉ frs (X.env :: X.outer) := fun {g o vs} ff e dd hm => by
      obtain ⟨_, o', e', hnf⟩ := ff.mem hm
      rw [e] at e'; cases e'
      exact hnf _ dd
    have nfr := notFr fl3.2.2.1 he3 hd3
    have sIn : sI.heap.get? a = none := sIa.resolve_right (by rw [hst]; exact nfr)
    have new0 : X.s_0.heap.get? a = none := by
      cases q : X.s_0.heap.get? a with
      | none => rfl
      | some o =>
        obtain ⟨o', q'⟩ := J.base.there a o q (by rw [hex]; exact fun z => nomatch z)
        rw [sIn] at q'; cases q'
    have nL : a ≠ X.env.locals := fun z => nfr (List.mem_filterMap.mpr ⟨X.env, List.mem_cons_self, by rw [hfr, z]⟩)
    have nF : a ∉ X.fs := fun hm => by
      obtain ⟨e, he, q⟩ := List.mem_filterMap.mp hm
      exact nfr (List.mem_filterMap.mpr ⟨e, List.mem_cons_of_mem _ he, q⟩)
    have npin : ∀ p ∈ X.pn ++ pins, p.1 ≠ a := fun p hp z => by
      have q := (J.pin p hp).1
      rw [z, sIn] at q; cases q
    have S3 := J3.suite he3 hd3 na nL nF
    refine wpAny_handleBy_cons (codeAny_handlers_test ?_) (by intro q; cases q)
    have LT : PySem.W.Looks (model X.prog X.w) h3 (typeOf (.ref a)) cls := fun A Q E s k q => wpAny_typeOf_ref (k _ _ he3) (by rw [hz3.1]; exact q)
    have LM := PySem.W.exm_one (M := model X.prog X.w) (J3.kIn) LT hbx
    have test : ∀ {Q : Value → Shared → Prop} {E : Value → Shared → Prop}, Q c { s' with heap := h3 } → wpAny (model X.prog X.w) (X.A.mark (some (.ref a))) (eval (.Name x np) X.env) Q E { s' with heap := h3 } := fun {Q E} q => by
      obtain ⟨hg, hdbg, hm | ⟨hm, hv, hnn⟩⟩ := hc
      · exact ld_glob (X := X.suite a ((a, oe3) :: (X.pn ++ pins))) S3 hg hm q hdbg
      · exact ld_blt (X := X.suite a ((a, oe3) :: (X.pn ++ pins))) S3 hg hm hv q hnn hdbg
    refine test (LM.here ?_)
    cases b with
    | true =>
      refine codeAny_handlers_suite_as ?_
      refine HandSPX.lands_againZ fl3 fun h4 fl4 up4 => ?_
      have J4 : Inv X pins σ1 H1 { s' with heap := h4 } := J.landed nb fl4.1 ((up.trans up3).trans up4) os ag
      obtain ⟨oe4, vs4, he4, hz4, hd4⟩ := fl4.there
      have S4 := J4.suite he4 hd4 na nL nF
      refine store_ok (X := X.suite a ((a, oe4) :: (X.pn ++ pins))) (v := .ref a) S4 hnd hi (.inl hln) rfl (fun s5 S5 => ?_) (.inr hln)
      refine wpAny_mono ((hsu a oe4 cls d (X.pn ++ pins) hz4 ⟨_, hd4⟩).run [] s5 _ H1 _ S5 (hyes rfl a na)) (fun f s6 hsp => ?_) (fun _ _ z => False.elim z)
      cases f with
      | next =>
        obtain ⟨σ6, H6, S6, q6⟩ := hsp
        have pa := S6.pin (a, oe4) (List.mem_append_left _ List.mem_cons_self)
        have h6a : H6 a = none := pa.2.1
        have T6 : Inv X pins σ6 (upd H6 a (ExK cls d a)) s6 := Inv.track (S6.unsuite good) pa.1 h6a new0 (by rw [hex]; exact fun z => nomatch z) nL (fun v z => by rw [hd4] at z; cases z) npin (exK_ok pa.1 hz4 hd4)
        exact gone_ok T6 hnd hi hln fun s7 J7 => ⟨_, _, J7, q6 h6a⟩
      | brk =>
        obtain ⟨_, _, _, q6⟩ := hsp
        exact q6.elim
      | cont =>
        obtain ⟨_, _, _, q6⟩ := hsp
        exact q6.elim
      | ret u =>
        obtain ⟨_, _, _, _, _, q6⟩ := hsp
        exact q6.elim
    | false =>
      show wpAny _ X.A (handleBy (.ref a) X.env []) _ _ _
      refine wpAny_handleBy_nil ?_
      obtain ⟨k1, k2, k3, oe, vs, T, oT, ts', he, hz, hd, h1, hr⟩ := id fl3
      unfold PySem.passOn
      refine wpAny_bind (wpAny_field he hd h1 ?_)
      rw [if_neg (show ¬ ((Value.ref T == Value.none) = true) from by simp)]
      have fin : wpAny (model X.prog X.w) X.A (setFlight (.ref a) X.env.frame) (fun _ s4 => wpAny (model X.prog X.w) X.A (throw (.ref a) : Sem Flow) (SP X pins D) X.xe s4) X.xe { s' with heap := h3 } := by
        rw [hfr]
        refine HandSPX.setFlight_upZ fl3 fun h4 hh4 up4 => wpAny_throw (tk _ _ ?_)
        exact ⟨a, B, sI, pins, σ1, H1, cls, d, rfl, J, nb, (up.trans up3).trans up4, .inr (.inr (by rw [hst]; exact hh4)), na, os, ag, hno rfl⟩
      first
        | exact wpAny_bind (wpAny_pure (wpAny_bind fin))
        | exact wpAny_bind fin
  · cases f with
    | next =>
      obtain ⟨σ', H', J', q⟩ := hsp
      exact wpAny_execs_nil ⟨σ', H', J'.ofTry good, q⟩
    | brk =>
      obtain ⟨σ', H', J', q⟩ := hsp
      exact ⟨σ', H', J'.ofTry good, q⟩
    | cont =>
      obtain ⟨σ', H', J', q⟩ := hsp
      exact ⟨σ', H', J'.ofTry good, q⟩
    | ret u =>
      obtain ⟨v, σ', H', J', r, q⟩ := hsp
      exact ⟨v, σ', H', J'.ofTry good, r, q⟩
end

/-! ## isinstance of such a value -/
def rIsX (K : PySem.W.Frag) : List V → Hp → VK → Prop := fun xs H Q => ∃ (a D : Addr) (c : V) (cv : Value) (b : Bool), xs = [.ref a, c] ∧ H a = some (ExK (.ref D) none a) ∧ ExcC K D ∧ ClsV c cv ∧ PySem.W.kitOne K (.ref D) cv = some b ∧ Q (.bl b) H
theorem call_isX {X : Cx} : CallR X (.builtin "isinstance") (rIsX X.K) := by
  intro pins s σ H xs us Q I r h
  obtain ⟨a, D, c, cv, b, rfl, ha, C, hcv, e, q⟩ := h
  obtain ⟨u1, u2, rfl, r1, r2⟩ := vals2 r
  have e2 := hcv.eq r2
  subst e2
  cases r1
  obtain ⟨⟨ob, fv, hget, hz, hv⟩, _⟩ := I.hok a _ ha
  have J : PySem.W.InstAt s.heap a ob D none := by
    obtain ⟨oc, od, oda, osl⟩ := ob
    obtain ⟨h1, h2⟩ := hz
    dsimp only at h1 h2 hv
    subst h1 h2 hv
    exact ⟨hget, rfl, rfl, trivial⟩
  exact PySem.W.kia_one (PySem.W.handS_kitx_exc C.hg C.hk C.hs C.hd C.ha C.hn C.ht C.hm) I.kIn J e (fun z => nomatch z) fun tk => ⟨.bl b, H, I.kept (t' := tk) fun _ _ z => z, rfl, q⟩
end Jk

namespace Jk
open PySem PySem.Spec PyProof.Rows L2

/-! ## repr of data, where no repr is under way -/
theorem call_reprD {X : Cx} (hg : X.A.guards = some []) (hu : X.A.units + 64 < cLine) : CallR X (.builtin "repr") (fun xs H Q => ∃ (a : Addr) (d : PyData), xs = [.ref a] ∧ Dp X.K H (.ref a) d ∧ d.showable = true ∧ d.hasDict = false ∧ d.depth < 63 ∧ d.shown.length ≤ sizeLine ∧ Q (.str d.shown) H) := by
  intro pins s σ H xs us Q I r h
  obtain ⟨a, d, rfl, hd, h1, h2, h3, h4, q⟩ := h
  obtain ⟨u, rfl, ru⟩ := vals1 r
  obtain ⟨as, rd⟩ := Dp.reads I d _ _ hd ru
  cases ru
  exact PySem.repr_of_reads' rd h1 (fun z => absurd z (by rw [h2]; decide)) hg (by omega) (fun _ _ z => z) (fun h' u tk k => ⟨.str d.shown, H, I.kept (t' := tk) k, ⟨u, rfl⟩, q⟩) h4

/-! ## a def that is called where no repr is under way -/
structure FnG (P : Program) (w : World) (K : PySem.W.Frag) (mg : Str → Option Value) (base : Heap) (k : Nat) (f : Addr) (fd : FuncData) (ps : List Str) (sp : Sp) : Prop where
  many : ∀ vs H Q E, sp vs H Q E → vs.length = ps.length
  runs : ∀ (A : Around) (outer : List Env) (s : Shared) (H : Hp) (args : Args) (us : List Value) (vs : List V) (Q : VK) (E : XK), A.guards = some [] → Room k A → Env0 P w K mg base A outer s H → BindsTo s fd args (ps.zip us) →
    Vals vs us → sp vs H Q E → codeAny (model P w) A (.call (.ref f) args) (CR CX0 outer P w H s Q E) s
theorem guards_deeper {A : Around} {env : Env} (h : A.guards = some []) : (A.deeper env).guards = some [] := h
section
variable {P : Program} {w : World} {K : PySem.W.Frag} {mg : Str → Option Value} {base : Heap}
theorem _root_.L2.Fun.okG {x qual : Str} {st : Stmt} {f : Addr} {fd : FuncData} {N ps : List Str} {k : Nat} {sp : Sp} (F : Fun K x qual st f fd) (S : FnScope N ps (defScope st)) (many : ∀ vs H Q E, sp vs H Q E → vs.length = ps.length)
    (hb : ∀ (cdv : Value) (A : Around) (outer : List Env) (s : Shared) (H : Hp) (vs : List V) (Q : VK) (E : XK), A.guards = some [] → Room k (A.deeper (envOfC qual (defScope st) s.heap.objs.size f cdv)) → sp vs H Q E →
      ∃ t, PSs (cxOf CX0 P w K mg base N qual (defScope st) f cdv A outer s H E).nox (defBody st) t ∧ t { nx := fun _ H' => Q .non H', rt := Q } (L2.start N vs) H) : FnG P w K mg base (k + 1) f fd ps sp := by
  obtain ⟨oc, od, kV, doc, pm, an, cdv, ct, osl, rfl, lk, hcd⟩ := F.ex
  refine ⟨many, fun A outer s H args us vs Q E hg hr e0 hbi r hsp => ?_⟩
  have one : ∀ (sp1 : Sp), sp1 = (fun vs' H' Q' E' => vs' = vs ∧ H' = H ∧ Q' = Q ∧ E' = E) → True := fun _ _ => trivial
  have hl := many _ _ _ _ hsp
  have KX : K.In s.heap := e0.mod.kin.keeps fun b o e => (e0.bs b o e).1
  have lim : s.heap.NoLimit := e0.mod.nolimit.keeps fun b o e => (e0.bs b o e).1
  have kinds : ∀ y ∈ ps.zip us, (defScope st).names.lookup y.1 = some .local ∨ ((defScope st).names.lookup y.1 = some .cell ∧ ((cellsFrom (s.heap.objs.size + 1) (defScope st).names []).lookup y.1).isSome = true) := fun ⟨n, v⟩ hy => by
    rcases S.par n (List.of_mem_zip hy).1 with q | q
    · exact .inl q
    · exact .inr ⟨q, PySem.W.cellsFrom_some _ _ _ (.inl q)⟩
  refine codeAny_call_function hr.depth (KX _ _ lk) rfl S.co S.gen rfl (PySem.W.codeRec_of KX hcd) (hbi _ _ _ _ ?_)
  refine wpAny_newFunctionEnv_cells S.kind kinds fun env he s1 x => ?_
  subst he
  refine ⟨lim.keeps x.toInCall.keep, codeAny_func ?_⟩
  obtain ⟨t, ht, hq⟩ := hb cdv A outer s H vs Q E hg (hr.deeper _) hsp
  have I : Inv (cxOf CX0 P w K mg base N qual (defScope st) f cdv A outer s H E) [] (L2.start N vs) H s1 := inv_start S hr.hd e0 hl r x
  refine wpAny_mono (ht.nox.run [] s1 (L2.start N vs) H _ I hq) (fun fl s' hs => ?_) fun e s' hs => hs
  have fin : ∀ {σ' : L2.St} {H' : Hp} {v : V} {u : Value}, Inv (cxOf CX0 P w K mg base N qual (defScope st) f cdv A outer s H E) [] σ' H' s' → RelV v u → Q v H' → CE outer P w H s Q u s' :=
    fun {σ' H' v u} J rv q => ⟨v, H', J.os, J.bare, J.base, J.hok, rv, q⟩
  cases fl with
  | ret u =>
    obtain ⟨v, σ', H', J, rv, q⟩ := hs
    exact fin J rv q
  | next =>
    obtain ⟨σ', H', J, q⟩ := hs
    exact fin (v := V.non) (u := Value.none) J rfl q
  | brk =>
    obtain ⟨_, _, _, q⟩ := hs
    exact False.elim q
  | cont =>
    obtain ⟨_, _, _, q⟩ := hs
    exact False.elim q
end
section
variable {X : Cx} {k : Nat} {f : Addr} {fd : FuncData} {ps : List Str} {sp : Sp} {x : Str} {p pos : Pos} {e : Expr} {es : List Expr} {t : TA}
/-- f(..) of such a def -/
theorem pe_callG (F : FnG X.prog X.w X.K X.mg X.base k f fd ps sp) (hg0 : X.A.guards = some []) (hr : Room k X.A) (hg : Gl X x) (hm : X.mg x = some (.ref f)) (hk : PySem.W.keepIn X.K (.ref f) = true) (hb : Binds X.K fd ps [])
    (ha : PA X (e :: es) t) (hdb : (x == ("__debug__" : Str)) = false := by decide) (he : starEach (e :: es) X.env = (false, eval e X.env) :: starEach es X.env := by rfl) (hpl : (backTo pos (starEach es X.env)).any (·.1) = false := by rfl) :
    PE X (.Call (.Name x p) (e :: es) [] pos) (tCall sp [] E0 t) := by
  refine ⟨fun pins s σ H Q I h => ?_⟩
  refine wpAny_Call_Name_kw (ld_glob I hg hm ?_ hdb)
  refine PySem.W.callWith_K (h₀ := X.base) I.ok.mod.kin hk (thn (ha.run pos pins s σ H _ I h) fun us s1 ⟨vs, H1, I1, r, q⟩ => ⟨I1.kIn, ?_⟩) he hpl
  have q : sp vs H1 Q E0 := by have z := q; simp only [List.append_nil] at z; exact z
  have hl : (us ++ []).length = ps.length := by rw [List.append_nil, ← r.length]; exact F.many _ _ _ _ q
  have bt := hb s1 us I1.kIn hl
  rw [List.append_nil] at bt
  refine wpAny_call (codeAny_mono (F.runs X.A X.stack s1 H1 ⟨us, []⟩ us vs Q E0 hg0 hr I1.env0 bt r q) fun r s' hq => ?_)
  cases r with
  | error e => exact False.elim hq
  | ok fl =>
    cases fl with
    | ret u => exact I1.after hq
    | next => exact False.elim hq
    | brk => exact False.elim hq
    | cont => exact False.elim hq
end

/-! ## the law's own call, where its def is one of these -/
section
variable {P : Program} {w : World} {K : PySem.W.Frag} {mg mb : Str → Option Value} {k : Nat} {fa a : Addr} {fd : FuncData} {x : Str} {sp : Sp} {z : Shared} {vs : List Value} {ns : List Int}
theorem law_callG (kin : K.In z.heap) (gl : z.heap.Ns mainGlobals mg) (bl : z.heap.Ns builtinsNs mb) (bb : ∀ y : Str, y ≠ "__name__" → mb y = bootBuiltins y) (lim : z.heap.NoLimit) (gens : z.gens = #[])
    (there : z.heap.get? a = some { cls := .type "list", data := .seq vs.toArray }) (hint : IntsAre vs ns) (few : ns.length ≤ sizeLine) (room : Room k callerA)
    (F : ∀ base : Heap, K.In base → base.Ns mainGlobals mg → FnG P w K mg base k fa fd [x] sp) (bind : ∀ (s : Shared) (u : Value), BindsTo s fd ⟨[u], []⟩ [(x, u)])
    (asked : ∀ H : Hp, Only H → SqL K H a (ns.map V.int) → sp [.ref a] H (fun v _ => v = .bl true) fun _ _ _ => False) :
    codeAny (model P w) callerA (.call (.ref fa) ⟨[.ref a], []⟩) (fun r s' => r = .ok (.ret (.bool true)) ∧ OldK z.heap s'.heap ∧ s'.os = z.os ∧ AllBare s'.gens) z := by
  have rel := vals_ints hint
  have len := hint.length
  have core : ∀ G : Hp, Only G → SqL K G a (ns.map V.int) → HOk P w G z.heap → (∀ b, G b ≠ none → b = a) → (G a ≠ none → K.lookup a = none) →
      codeAny (model P w) callerA (.call (.ref fa) ⟨[.ref a], []⟩) (fun r s' => r = .ok (.ret (.bool true)) ∧ OldK z.heap s'.heap ∧ s'.os = z.os ∧ AllBare s'.gens) z := by
    intro G only sql gok onlyA noK
    have dictFree : ∀ {b : Addr} {u : Obj} {es : Array DictEntry} {ep : Nat}, z.heap.get? b = some u → u.data = .dict es ep → G b = none := fun {b u es ep} e1 e2 => by
      cases q : G b with
      | none => rfl
      | some v =>
        obtain rfl : b = a := onlyA b (by rw [q]; simp)
        rw [there] at e1; cases e1
        have e3 : Data.seq vs.toArray _ = Data.dict es ep := e2
        cases e3
    have nsHid : ∀ {b : Addr} {m : Str → Option Value}, z.heap.Ns b m → (hidT z.heap G).Ns b m := fun {b m} ⟨u, es, ep, e1, e2, e3⟩ => ⟨u, es, ep, hidT_get e1 (dictFree e1 e2), e2, e3⟩
    have kinHid : K.In (hidT z.heap G) := fun b u e1 => hidT_get (kin b u e1) (by
      cases q : G b with
      | none => rfl
      | some v =>
        obtain rfl : b = a := onlyA b (by rw [q]; simp)
        rw [noK (by rw [q]; simp)] at e1; cases e1)
    have modul : Mod K mg (hidT z.heap G) := ⟨kinHid, nsHid gl, ⟨mb, nsHid bl, bb⟩, let ⟨mc, l1, l2⟩ := lim; ⟨mc, nsHid l1, l2⟩⟩
    have env0 : Env0 P w K mg (hidT z.heap G) callerA [] z G := ⟨rfl, modul, fun b u e1 => of_hidT e1, Nat.le_of_eq (hidT_size _ _), trivial, fun b hb => absurd (show b ∈ ([] : List Addr) from hb) (by simp), gok, .of_eq gens⟩
    refine codeAny_mono ((F _ kinHid (nsHid gl)).runs callerA [] z G ⟨[.ref a], []⟩ [.ref a] [.ref a] _ _ rfl room env0 (bind z (.ref a)) (.cons rfl .nil) (asked G only sql)) fun r s' hh => ?_
    cases r with
    | error e => exact False.elim hh
    | ok fl =>
      cases fl with
      | next => exact False.elim hh
      | brk => exact False.elim hh
      | cont => exact False.elim hh
      | ret u =>
        obtain ⟨v, G', os1, bare1, un1, gok', rv, qv⟩ := hh
        obtain rfl : v = .bl true := qv
        obtain rfl : u = Value.bool true := rv
        refine ⟨rfl, OldK.of_keep fun b u e1 => ?_, os1, bare1⟩
        cases q : G b with
        | none => exact un1.keep b u e1 q (by intro y; exact absurd (show b ∈ ([] : List Addr) from y) (by simp)) (by simp)
        | some v =>
          rcases only b with y | ⟨ob, xs, y⟩
          · rw [q] at y; cases y
          · obtain ⟨g1, _⟩ := gok b _ y
            obtain ⟨g2, _⟩ := gok' b _ (un1.frzs b ob _ y)
            rw [e1] at g1; cases g1
            exact g2
  cases hk : K.lookup a with
  | some u =>
    have e1 := kin a u hk
    rw [there] at e1
    cases e1
    exact core (fun _ => none) (fun _ => .inl rfl) (.inr ⟨_, vs.toArray, _, hk, rfl, rfl, rfl, by rw [List.size_toArray, len]; exact few, by simpa using rel⟩) (fun b v y => nomatch (show (none : Option HO) = some v from y)) (fun b y => absurd rfl y) fun y => absurd rfl y
  | none =>
    refine core (fun b => if b = a then some (.frz { cls := .type "list", data := .seq vs.toArray } (.lst (ns.map V.int))) else none) (fun b => ?_) (.inl (.inr ⟨{ cls := .type "list", data := .seq vs.toArray }, if_pos rfl⟩)) (fun b v y => ?_) (fun b y => ?_) fun _ => hk
    · by_cases hb : b = a
      · exact .inr ⟨_, _, if_pos hb⟩
      · exact .inl (if_neg hb)
    · by_cases hb : b = a
      · have y' := (if_pos hb).symm.trans y
        cases y'
        subst hb
        exact ⟨there, by rw [List.length_map]; exact few, vs, _, rel, there⟩
      · have y' := (if_neg hb).symm.trans y
        cases y'
    · by_cases hb : b = a
      · exact hb
      · exact absurd (if_neg hb) y
end
theorem walk_ofG {l : PySem.W.OpenLaw} {n k : Nat} {q : Program} {loose : List Str} {XP : (Str → Option Value) → Heap → Prop} {YP : World → Heap → Prop} {d : DefRec} {K : Params → PySem.W.Frag} {sp : PySem.W.Frag → Sp} {x : Str}
    (most : l.most = some n) (few : n ≤ sizeLine) (nodef : d.params.defaults = []) (room : Room k callerA) (hY : ∀ (w : World) (h : Heap), YP w h → (K w.params).In h)
    (F : ∀ (w : World) (mg : Str → Option Value) (fa : Addr) (h : Heap), (K w.params).In h → h.Ns mainGlobals mg → mg d.name = some (.ref fa) →
      ∃ fd : FuncData, (∀ (s : Shared) (u : Value), BindsTo s fd ⟨[u], []⟩ [(x, u)]) ∧ ∀ base : Heap, (K w.params).In base → base.Ns mainGlobals mg → FnG l.prog w (K w.params) mg base k fa fd [x] (sp (K w.params)))
    (asked : ∀ (K : PySem.W.Frag) (H : Hp) (a : Addr) (ns : List Int), ns.length ≤ n → Only H → SqL K H a (ns.map V.int) → sp K [.ref a] H (fun v _ => v = .bl true) fun _ _ _ => False) :
    PySem.W.WalkO q loose XP YP l.row.toRowW d [] (fun f vs => PySem.call f vs) := by
  refine Att.attach_call most nodef fun w s₀ s₁ mg mb fa o pm cd doc a vs ns G Y ho hd hcd hmg hobj hints hlen hg => ?_
  obtain ⟨fd, b1, b2⟩ := F w mg fa _ (hY w _ Y) G.T.g hmg
  exact law_callG (hY w _ Y) G.T.g G.T.b G.T.builtins G.T.nolimit hg hobj hints (Nat.le_trans hlen few) room b2 b1 fun H hO hS => asked (K w.params) H a ns hlen hO hS

/-! ## methods and new objects whose refusal is wished for at the caller's slots -/
section
variable {X : Cx} {CX : CXT} {k : Nat} {f C : Addr} {fd : FuncData} {ps : List Str} {sp : Sp} {E : L2.St → XK} {x m : Str} {p pos apos : Pos} {e o : Expr} {es : List Expr} {ta : TE} {t : TA}
def jMethS (C : Addr) (m : Str) (sp : Sp) (E : L2.St → XK) (ta : TE) (t : TA) : TE := fun σ H Q => ta σ H fun x H1 => ∃ a dx fs, x = .ref a ∧ H1 a = some (.ins C dx fs) ∧ fs.lookup m = none ∧ t σ H1 fun vs H2 => sp (x :: vs) H2 Q (E σ)
theorem pe_methJ {pl : Sem Bool} (ho : PE X o ta) (cls : Cls X.K C) (met : Meth X.K C m f) (F : FnOk X.prog X.w X.K X.mg X.base CX k f fd ps sp) (room : Room k X.A) (bnd : L2.Binds X.K fd ps []) (hx : ∀ σ, PassesAt CX X σ (E σ)) (ha : PA X (e :: es) t)
    (h1 : starEach (e :: es) X.env = (false, eval e X.env) :: starEach es X.env := by rfl) (h2 : (backTo pos (starEach es X.env)).any (·.1) = false := by rfl)
    (h3 : eval (.Call (.Attribute o m apos) (e :: es) [] pos) X.env = (do
      let ov ← eval o X.env
      standAt apos.atName
      let (f, first) ← holding [ov] (getMethod ov m pl)
      callWith pos f first (backTo pos (starEach (e :: es) X.env)) (backToKw pos (keywordEach [] X.env))) := by rfl) :
    PE X (.Call (.Attribute o m apos) (e :: es) [] pos) (jMethS C m sp E ta t) := by
  refine ⟨fun pins s σ H Q I q => PySem.W.methodCall_KW (pl := pl) (thn (ho.run pins s σ H _ I q) fun u s1 ⟨y, H1, I1, ry, a, dx, fs, ey, at1, nof, q1⟩ => ?_) h3⟩
  subst ey
  obtain rfl : u = Value.ref a := ry
  refine getmeth_ok I1 at1 cls met nof (PySem.W.callWith_K (first := [.ref a]) (h₀ := X.base) I.ok.mod.kin met.kp (thn (ha.run pos pins s1 σ H1 _ I1 q1) fun us s2 ⟨vs, H2, I2, rv, q2⟩ => ⟨I2.kIn, ?_⟩) h1 h2)
  exact run_fnS (us := .ref a :: us) (vs := .ref a :: vs) F room bnd (hx σ) I2 (.cons rfl rv) q2
def jMakeS (C : Addr) (sp : Sp) (E : L2.St → XK) (t : TA) : TE := fun σ H Q => t σ H fun vs H1 => ∀ x dx, H1 x = none → H1 dx = none → dx ≠ x →
  sp (.ref x :: vs) (upd (upd H1 dx (.own x)) x (.ins C dx [])) (fun v H2 => v = .non ∧ Q (.ref x) H2) (E σ)
theorem pe_makeJ (M : Mk X.K C f) (F : FnOk X.prog X.w X.K X.mg X.base CX k f fd ps sp) (room : Room (k + 1) X.A) (hg : Gl X x) (hm : X.mg x = some (.ref C)) (bnd : L2.Binds X.K fd ps []) (hx : ∀ σ, PassesAt CX X σ (E σ))
    (ha : PA X (e :: es) t) (hdb : (x == ("__debug__" : Str)) = false := by decide) (h1 : starEach (e :: es) X.env = (false, eval e X.env) :: starEach es X.env := by rfl) (h2 : (backTo pos (starEach es X.env)).any (·.1) = false := by rfl) :
    PE X (.Call (.Name x p) (e :: es) [] pos) (jMakeS C sp E t) := by
  refine ⟨fun pins s σ H Q I q => wpAny_Call_Name_kw (ld_glob I hg hm ?_ hdb)⟩
  refine PySem.W.callWith_K (h₀ := X.base) I.ok.mod.kin M.kp (thn (ha.run pos pins s σ H _ I q) fun us s1 ⟨vs, H1, I1, r, q1⟩ => ⟨I1.kIn, ?_⟩) h1 h2
  show wpAny _ _ (call (.ref C) us) _ _ s1
  have hq := q1 (s1.heap.objs.size + 1) s1.heap.objs.size (I1.hok.fresh (Nat.le_succ _)) (I1.hok.fresh (Nat.le_refl _)) (Nat.ne_of_lt (Nat.lt_succ_self _))
  have J := Inv.made (C := C) I1
  have rr : Vals (V.ref (s1.heap.objs.size + 1) :: vs) (Value.ref (s1.heap.objs.size + 1) :: us) := .cons rfl r
  have hl : (Value.ref (s1.heap.objs.size + 1) :: us ++ []).length = ps.length := by
    rw [List.append_nil, ← rr.length]
    exact F.len _ _ _ _ hq
  have bt := bnd _ (Value.ref (s1.heap.objs.size + 1) :: us) J.kIn hl
  rw [List.append_nil] at bt
  refine wpAny_call (make_map (f := f) I1.kIn M.makes M.init (beq_iff_eq.mp M.fn) (codeAny_mono (F.run _ X.stack _ _ ⟨Value.ref (s1.heap.objs.size + 1) :: us, []⟩ (Value.ref (s1.heap.objs.size + 1) :: us) _ _ (E σ) (room.make C us []) (J.env0.make C us []) bt rr hq) fun r s' hq' => ?_))
  cases r with
  | error e => exact hx σ pins _ _ e s' J hq'
  | ok fl =>
    cases fl with
    | ret u =>
      obtain ⟨v, H', I3, rv, ev, q3⟩ := J.after hq'
      subst ev
      exact ⟨rv, ⟨V.ref (s1.heap.objs.size + 1), H', I3, rfl, q3⟩⟩
    | next => exact False.elim hq'
    | brk => exact False.elim hq'
    | cont => exact False.elim hq'
end
end Jk

namespace Jk
open PySem PySem.Spec PyProof.Rows L2

/-! ## sorted(d), d a dict whose keys are pairs of ints -/
section
variable {prog : Program} {w : World}
/-- the keys of a dict as it lies -/
theorem rawSrc {d : Addr} {o : Obj} {es : Array DictEntry} {ep : Nat} (lo : (d == sysModules) = false) (hx : o.ExactDict) (hd : o.data = .dict es ep) :
    PySem.W.KdlSrc prog w "dict" d d es.size (fun i v => ∃ en, es[i]? = some en ∧ v = en.key) (fun h => h.get? d = some o) where
  type := fun _ e => ⟨o, e, hx.1⟩
  there := fun _ e => ⟨Heap.lt_size e, Heap.lt_size e⟩
  keep := fun _ _ e k => k d (.inl rfl) o e
  notList := by decide
  notTuple := by decide
  hint := fun _ _ _ _ e q => PySem.W.kdl_hint_dict ⟨o, e, hx.1⟩ q
  iter := fun A s hh e => ⟨{ cls := .type "dict_keyiterator", data := .fields #[.ref d, .int 0 0, .int es.size 0, .int ep 0] }, fun i h => h.IsKeyIter s.heap.objs.size d i es.size ep ∧ h.get? d = some o,
    (fun _ _ hq => iter_keys lo e hx hd hq),
    { sub := fun b hb => by simp at hb; simp [hb]
      frame := fun _ _ _ st k => ⟨st.1.at fun o' e' => k _ (by simp) o' e', k d (by simp) o st.2⟩
      item := fun i s' Q E hi st hQ => by
        have hen : es[i]? = some es[i] := Array.getElem?_eq_getElem hi
        refine next_key_item st.1 st.2 hd rfl hen fun h' hit' hs' => ?_
        have ne : d ≠ s.heap.objs.size := Nat.ne_of_lt (Heap.lt_size e)
        exact hQ _ h' s'.toks ⟨_, hen, rfl⟩ ⟨hit', (hs'.2 d ne).trans st.2⟩ fun b o' hb e' => (hs'.2 b (fun z => hb (by simp [z]))).trans e'
      done := fun s' Q E st hQ => next_key_end hh st.1 st.2 hd rfl (Nat.le_refl _) fun h' he' => hQ h' s'.toks fun b o' hb e' => he' b o' (fun z => hb (by simp [z])) e'
      self := fun i s' Q E st hQ => wpAny_pyIter_keyiter st.1 hQ },
    ⟨⟨_, Heap.get?_push_size _ rfl, rfl, rfl⟩, Heap.get?_push_of_some _ e⟩⟩
end
/-- the pair that a value stands for -/
def pairAt (H : Hp) : Value → Int × Int
  | .ref q => match H q with
    | some (.tup [.int i, .int j]) => (i, j)
    | _ => (0, 0)
  | _ => (0, 0)
def keyP (p : Int × Int) : List Key := [Sum.inl p.1, Sum.inl p.2]
theorem keyP_inj {p q : Int × Int} (h : keyP p = keyP q) : p = q := by
  obtain ⟨a, b⟩ := p
  obtain ⟨c, d⟩ := q
  simp [keyP] at h
  simp [h.1, h.2]
theorem keyP_at {H : Hp} {q : Addr} {p : Int × Int} (h : H q = some (.tup ((keyP p).map kV))) : pairAt H (.ref q) = p := by
  have h' : H q = some (.tup [.int p.1, .int p.2]) := h
  simp [pairAt, h']
def lexLe (p q : Int × Int) : Prop := p.1 < q.1 ∨ (p.1 = q.1 ∧ p.2 ≤ q.2)
theorem paired_ix {α β : Type} {F : α → β → Prop} : ∀ {l : List α} {m : List β}, Paired F l m → ∀ (j : Nat) (y : β), m[j]? = some y → ∃ x, l[j]? = some x ∧ F x y
  | _, _, .nil, j, y, h => by simp at h
  | _, _, .cons f t, 0, y, h => by simp at h; subst h; exact ⟨_, rfl, f⟩
  | _, _, .cons f t, j + 1, y, h => by
    obtain ⟨x, h1, h2⟩ := paired_ix t j y (by simpa using h)
    exact ⟨x, by simpa using h1, h2⟩
def rSortDT : List V → Hp → VK → Prop := fun xs H Q => ∃ (a : Addr) (kvs : List (List Key × V)) (ps : List (Int × Int)), xs = [.ref a] ∧ H a = some (.dT kvs) ∧ kvs.map (·.1) = ps.map keyP ∧
  ∀ (qs : List (Addr × (Int × Int))) (D : Addr), (qs.map (·.2)).Perm ps → (qs.map (·.2)).Pairwise lexLe → (∀ q ∈ qs, H q.1 = some (.tup [.int q.2.1, .int q.2.2])) → H D = none → Q (.ref D) (upd H D (.lst (qs.map fun q => .ref q.1)))
theorem srtd_pairs {k : Value → Int × Int} {out : List Value} (h : SrtO.Srtd (fun v u => SrtO.lexB (k v) (k u)) out) : (out.map k).Pairwise lexLe := by
  rw [List.pairwise_map]
  refine List.Pairwise.imp ?_ h
  intro a b hab
  have z := SrtO.lexB_no.mp hab
  unfold lexLe
  omega
theorem call_sortedDT {X : Cx} (hc : X.calm = true) : CallR X (.builtin "sorted") rSortDT := by
  intro pins s σ H xs us Q I r h
  obtain ⟨a, kvs, ps, rfl, ha, hks, q⟩ := h
  obtain ⟨u, rfl, ru⟩ := vals1 r
  cases ru
  obtain ⟨hz, lo, ks, rel, o, es, ep, ho, hx, hd, hes, his, hnd⟩ := dt_of I.hok ha
  have hsz : es.size = kvs.length := by
    have z := congrArg List.length hes
    rw [List.length_map, Array.length_toList] at z
    rw [z, Paired.length rel]
  refine Calls.call_function_entry PyProof.Rows.kind_sorted PyProof.Rows.plain_sorted PyProof.Rows.entry_sorted (PyProof.Rows.args_sorted1 _) ?_
  unfold Builtin.«sorted»
  refine wpAny_bind (m := checkCount "sorted" 1 1 _) (wpAny_pure ?_)
  refine wpAny_bind (PySem.W.kdu_collect (A := X.A.in1) (rawSrc lo hx hd) (I.ok.hd hc) ho (by rw [hsz]; exact hz) fun h' tk acc hk hacc => ?_)
  have hkey : ∀ (j : Nat) (v : Value), acc.toList[j]? = some v → ∃ (p : Int × Int) (t : Addr), ps[j]? = some p ∧ v = .ref t ∧ H t = some (.tup ((keyP p).map kV)) := fun j v e => by
    obtain ⟨en, e1, rfl⟩ := hacc.2 j v (by rw [← Array.getElem?_toList]; exact e)
    have e2 : (ks.map (entryOfKey (tupleKind (mixKind X.prog X.w))))[j]? = some en := by rw [← hes, Array.getElem?_toList]; exact e1
    rw [List.getElem?_map] at e2
    cases e3 : ks[j]? with
    | none => rw [e3] at e2; cases e2
    | some y =>
      rw [e3] at e2
      obtain rfl : entryOfKey (tupleKind (mixKind X.prog X.w)) y = en := Option.some.inj e2
      obtain ⟨x, g1, g2, g3, _⟩ := paired_ix rel j y e3
      have g4 : (kvs.map (·.1))[j]? = some x.1 := by rw [List.getElem?_map, g1]; rfl
      rw [hks, List.getElem?_map] at g4
      cases g5 : ps[j]? with
      | none => rw [g5] at g4; cases g4
      | some p =>
        rw [g5] at g4
        have g6 : keyP p = x.1 := Option.some.inj g4
        exact ⟨p, y.2.1, rfl, rfl, by rw [g6]; exact g3⟩
  have hlen : acc.toList.length = ps.length := by
    have z := congrArg List.length hks
    rw [List.length_map, List.length_map] at z
    rw [Array.length_toList, hacc.1, hsz, z]
  have hmap : acc.toList.map (pairAt H) = ps := by
    refine List.ext_getElem? fun j => ?_
    rw [List.getElem?_map]
    cases e : acc.toList[j]? with
    | none =>
      have e' : ps[j]? = none := by
        rw [List.getElem?_eq_none_iff] at e ⊢
        omega
      rw [e']; rfl
    | some v =>
      obtain ⟨p, t, e1, rfl, e2⟩ := hkey j v e
      rw [e1]
      show some (pairAt H (.ref t)) = some p
      rw [keyP_at e2]
  have hmem : ∀ v ∈ acc.toList, ∃ t, v = .ref t ∧ H t = some (.tup [.int (pairAt H v).1, .int (pairAt H v).2]) := fun v hv => by
    obtain ⟨j, hj, e⟩ := List.mem_iff_getElem.mp hv
    obtain ⟨p, t, _, rfl, e2⟩ := hkey j v (by rw [List.getElem?_eq_getElem hj, e])
    refine ⟨t, rfl, ?_⟩
    rw [keyP_at e2]
    exact e2
  have I1 : Inv X pins σ H { s with heap := h', toks := tk } := I.kept hk
  have hfit : acc.toList.length ≤ sizeLine := by rw [Array.length_toList, hacc.1, hsz]; exact hz
  refine wpAny_bind (wpAny_newList ?_ hfit)
  have hoL : (h'.push (seqObj "list" acc.toList.toArray 0)).get? h'.objs.size = some (seqObj "list" acc.toList.toArray 0) := Heap.get?_push_size _ rfl
  show wpAny _ _ _ _ _ { s with heap := h'.push (seqObj "list" acc.toList.toArray 0), toks := tk }
  have hpair : ∀ v ∈ acc.toList, Srt.IsPair (h'.push (seqObj "list" acc.toList.toArray 0)) v (pairAt H v).1 (pairAt H v).2 := fun v hv => by
    obtain ⟨t, ev, ht⟩ := hmem v hv
    obtain ⟨_, its, rv, ob, hob, hcl, n, hdt⟩ := I1.hok t _ ht
    obtain ⟨u1, u2, rfl, ri, rj⟩ := vals2 rv
    obtain ⟨t1, rfl⟩ := ri
    obtain ⟨t2, rfl⟩ := rj
    exact ⟨t, ob, t1, t2, n, ev, Heap.get?_push_of_some _ hob, hcl, hdt⟩
  refine wpAny_bind (wpAny_holding (wpAny_call_entry PyProof.Rows.slot_list_sort ⟨_, hoL, rfl⟩ PyProof.Rows.entry_list_sort
    (SrtO.list_sort_ord (s := { s with heap := h'.push (seqObj "list" acc.toList.toArray 0), toks := tk }) (SrtO.swo_lex (pairAt H)) hoL hfit (fun h2 => SrtO.pairs_sortableO (by omega) hpair fun ob e c => ?_) fun out g1 g2 => ⟨_, rfl, ?_⟩) (PyProof.Rows.args_list_sort _)))
  · have e' := e.symm.trans hoL
    cases e'
    exact absurd (Value.type.inj c) (by decide)
  · obtain ⟨e', he'⟩ := PyProof.Rows.sortedHeap_at (vs := acc.toList) (out := out.toArray) hoL
    have hout : ∀ v ∈ out, ∃ t, v = .ref t ∧ H t = some (.tup [.int (pairAt H v).1, .int (pairAt H v).2]) := fun v hv => hmem v (g2.perm.mem_iff.mp hv)
    have hol : out.length = acc.toList.length := g2.perm.length_eq
    let adr : Value → Addr := fun v => match v with | .ref t => t | _ => 0
    have hvals : Vals (out.map fun v => V.ref (adr v)) out := by
      have gen : ∀ l : List Value, (∀ v ∈ l, ∃ t, v = Value.ref t) → Vals (l.map fun v => V.ref (adr v)) l := by
        intro l
        induction l with
        | nil => intro _; exact .nil
        | cons v l ih =>
          intro hl
          obtain ⟨t, rfl⟩ := hl v List.mem_cons_self
          exact .cons rfl (ih fun u hu => hl u (List.mem_cons_of_mem _ hu))
      exact gen out fun v hv => let ⟨t, e, _⟩ := hout v hv; ⟨t, e⟩
    have fin := q (out.map fun v => (adr v, pairAt H v)) h'.objs.size (by
        rw [List.map_map]
        show (out.map fun v => pairAt H v).Perm ps
        rw [← hmap]
        exact g2.perm.map _) (by
        rw [List.map_map]
        exact srtd_pairs g1) (fun z hz' => by
        obtain ⟨v, hv, rfl⟩ := List.mem_map.mp hz'
        obtain ⟨t, rfl, ht⟩ := hout v hv
        exact ht) (I1.hok.fresh (Nat.le_refl _))
    rw [List.map_map] at fin
    refine wpAny_pure ⟨_, rfl, .ref h'.objs.size, upd H h'.objs.size (.lst (out.map fun v => V.ref (adr v))), I1.laid (t' := tk) (fun b u e => ?_) (Nat.le_refl _)
      (show ObjOk X.prog X.w _ _ _ (.lst (out.map fun v => V.ref (adr v))) from ⟨by rw [List.length_map, hol]; exact hfit, out, e', hvals, he'⟩), rfl, fin⟩
    have hb : b < h'.objs.size := Heap.lt_size e
    rw [PyProof.Rows.sortedHeap_old (Nat.ne_of_lt hb) (by rw [size_push']; exact Nat.lt_succ_of_lt hb)]
    exact Heap.get?_push_of_some _ e

/-! ## d.pop(k), k a tuple that is there -/
section
variable {prog : Program} {w : World} {K : Type} [DecidableEq K] {knd : HeapKind prog w K}
theorem meetsPop1 {d b : Addr} {k : K} (lo : (d == sysModules) = false) :
    MeetsIn prog w (Builtin.«dict.pop» ⟨[.ref d, .ref b], []⟩) (fun A R s => ∃ xs p, knd.room A.in1 ∧ knd.is s.heap k b ∧ s.heap.DictOfH knd d xs ∧ xs.length ≤ sizeLine ∧ atKey xs k = some p ∧
      ∀ h' tk, h'.DictOfH knd d (DT.dropH xs k) → Heap.SameBut d s.heap h' → R (.ok (.ret p.2)) { s with heap := h', toks := tk }) :=
  .of_wp fun A R s ⟨xs, p, room, key, dict, few, found, fin⟩ => by
    obtain ⟨o, es, ep, ho, hc, hdat, he, his, hn⟩ := id dict
    have hes : es.size = xs.length := size_of_entries he
    have hpart : (keyPart (Value.ref b)).isSome = false := rfl
    unfold Builtin.«dict.pop»
    refine wpAny_bind ?_
    unfold Builtin.Dict.keyAndDefault
    refine wpAny_bind (wpAny_notOrdered_dict dict.typeIs ?_)
    show wpAny _ _ (pure (d, Value.ref b, none)) _ _ s
    refine wpAny_pure ?_
    simp only [hpart, Bool.false_eq_true, if_false]
    refine wpAny_bind (wpAny_dictEntries ho hdat (wpAny_bind (wpAny_pure ?_)))
    cases hem : es.isEmpty with
    | true =>
      have h0 : xs = [] := by
        have z : es.size = 0 := by simpa using hem
        exact List.length_eq_zero_iff.mp (by omega)
      rw [h0] at found
      cases found
    | false =>
      simp only [Bool.false_eq_true, if_false]
      refine wpAny_bind (DT.takeH room key dict few (fun hno => ?_) fun p' e hp hev h' hm' hs' => ?_)
      · rw [found] at hno; cases hno
      · rw [found] at hp
        cases hp
        simp only [Option.isNone_some, Bool.false_eq_true, if_false]
        exact wpAny_bind (wpAny_letGo (wpAny_pure ⟨e.val, rfl, by rw [hev]; exact fin h' _ hm' hs'⟩))
end
def rPopT1 : V → List V → Hp → VK → Prop := fun x xs H Q => ∃ (a : Addr) (kvs : List (List Key × V)) (k : List Key) (b : Addr) (v : V), x = .ref a ∧ xs = [.ref b] ∧ H a = some (.dT kvs) ∧ H b = some (.tup (k.map kV)) ∧ valV kvs k = some v ∧
  Q v (upd H a (.dT (dropK kvs k)))
theorem mt_popT1 {X : Cx} (hu : X.A.units + 1 < cLine) : MtR X "dict.pop" rPopT1 := by
  intro pins s σ H x xs v us Q I rx rxs h
  obtain ⟨a, kvs, k, b, v0, rfl, rfl, ha, hb, hv, q⟩ := h
  cases rx
  obtain ⟨u1, rfl, r1⟩ := vals1 rxs
  cases r1
  obtain ⟨z, lo, ks, rel, dd⟩ := dt_of I.hok ha
  have few : ks.length ≤ sizeLine := by rw [← Paired.length rel]; exact z
  have r := rel.val k
  rw [hv] at r
  obtain ⟨p, hp, rv⟩ : ∃ p, atKey ks k = some p ∧ RelV v0 p.2 := by
    cases ev : atKey ks k with
    | none => rw [ev] at r; exact (show False from r).elim
    | some p => rw [ev] at r; exact ⟨p, rfl, r⟩
  refine call_meetsIn PySem.F.slot_dict_pop dd.typeIs PySem.F.entry_dict_pop (PySem.F.args_dict_pop_2 _ _) (meetsPop1 (knd := tupleKind (mixKind X.prog X.w)) (k := k) lo)
    ⟨ks, p, tupleKind_room_in1 hu, key_of I.hok hb, dd, few, hp, fun h' tk dd' hs => ?_⟩
  obtain ⟨o, es, ep, hq, h2, h3, h4, _, h5⟩ := dd'
  have I2 : Inv X pins σ (upd H a (.dT (dropK kvs k))) { s with heap := h', toks := tk } :=
    d_write I (by rw [ha]; exact True.intro) hs ⟨o, hq⟩ ⟨Nat.le_trans (dropK_le kvs k) z, lo, _, (DX.KT_drop k rel).keeps (fun c ys ec => (by rw [upd_ne (ne_of ec ha (fun z => nomatch z))]; exact ec)), o, es, ep, hq, h2, h3, h4, h5⟩
  show EP X pins σ Q p.2 _
  exact ⟨v0, _, I2, rv, q⟩
end Jk

namespace Jk
open PySem PySem.Spec L2 Evl

/-! ## readings that simp can run -/
/-- no attribute of that name -/
def NoFld (fs : List (Str × V)) (m : Str) : Prop := fs.lookup m = none
section
variable {σ : L2.St} {H : Hp} {D : Ends} {Q : VK} {QB : Bool → Hp → Prop} {QA : List V → Hp → Prop} {QS : L2.St → Hp → Prop} {t u ts : TS} {ta tb te tv tc : TE} {c c1 c2 : TT} {tr : TA} {g : TG} {gs : TGs} {v x y : V} {r : R2} {K : PySem.W.Frag}
@[simp] theorem j_seq : tSeq t u D σ H = t { D with nx := u D } σ H := rfl
@[simp] theorem j_next : tNext D σ H = D.nx σ H := rfl
@[simp] theorem j_asg : tAsg te g D σ H = te σ H fun x H1 => g x σ H1 D.nx := rfl
@[simp] theorem j_gname {i : Nat} : gName i v σ H QS = QS (σ.set i (some v)) H := rfl
@[simp] theorem j_gnil : gNil [] σ H QS = QS σ H := by simp [gNil]
@[simp] theorem j_gcons {vs : List V} : gCons g gs (v :: vs) σ H QS = g v σ H fun s1 H1 => gs vs s1 H1 QS := propext ⟨fun ⟨_, _, e, q⟩ => by cases e; exact q, fun q => ⟨v, vs, rfl, q⟩⟩
@[simp] theorem j_drop : tDrop te D σ H = te σ H fun _ H1 => D.nx σ H1 := rfl
@[simp] theorem j_ret : tRet te D σ H = te σ H D.rt := rfl
@[simp] theorem j_retN : tRetN D σ H = D.rt .non H := rfl
@[simp] theorem j_if : tIfS c t u D σ H = c σ H fun b H1 => if b = true then t D σ H1 else u D σ H1 := rfl
@[simp] theorem j_brk : tBreak D σ H = D.bk σ H := rfl
@[simp] theorem j_cont : tCont D σ H = D.ct σ H := rfl
@[simp] theorem j_var {i : Nat} : tVar i σ H Q = ∃ v, σ[i]? = some (some v) ∧ Q v H := rfl
@[simp] theorem j_c : tC v σ H Q = Q v H := rfl
@[simp] theorem j_B : tB te σ H QB = te σ H fun x H1 => ∃ c, x = .bl c ∧ QB c H1 := rfl
@[simp] theorem j_test : tTest te σ H QB = te σ H fun x H1 => ∃ c, x = .bl c ∧ QB c H1 := rfl
@[simp] theorem j_and : tAnd c1 c2 σ H QB = c1 σ H fun b H1 => if b = true then c2 σ H1 QB else QB false H1 := rfl
@[simp] theorem j_or : tOr c1 c2 σ H QB = c1 σ H fun b H1 => if b = true then QB true H1 else c2 σ H1 QB := rfl
@[simp] theorem j_not : tNot c σ H QB = c σ H fun b H1 => QB (!b) H1 := rfl
@[simp] theorem j_andV : tAndV ta tb σ H Q = ta σ H fun x H1 => ∃ c, x = .bl c ∧ if c = true then tb σ H1 Q else Q (.bl false) H1 := rfl
@[simp] theorem j_orV : tOrV ta tb σ H Q = ta σ H fun x H1 => ∃ c, x = .bl c ∧ if c = true then Q (.bl true) H1 else tb σ H1 Q := rfl
@[simp] theorem j_notV : tNotV ta σ H Q = ta σ H fun x H1 => ∃ c, x = .bl c ∧ Q (.bl (!c)) H1 := rfl
@[simp] theorem j_ifE : tIf c ta tb σ H Q = c σ H fun b H1 => if b = true then ta σ H1 Q else tb σ H1 Q := rfl
@[simp] theorem j_op : tOp r ta tb σ H Q = ta σ H fun x H1 => tb σ H1 fun y H2 => r x y H2 Q := rfl
@[simp] theorem j_un {r1 : V → Hp → VK → Prop} : tUn r1 ta σ H Q = ta σ H fun x H1 => r1 x H1 Q := rfl
@[simp] theorem j_rI {C : Int → Int → Prop} {f : Int → Int → V} {i j : Int} : rI C f (.int i) (.int j) H Q = (C i j ∧ Q (f i j) H) := by simp [rI]
@[simp] theorem j_rI0 {f : Int → Int → V} {i j : Int} : rI0 f (.int i) (.int j) H Q = Q (f i j) H := by simp [rI0]
@[simp] theorem j_rU {f : Int → V} {i : Int} : rU f (.int i) H Q = Q (f i) H := by simp [rU]
@[simp] theorem j_eq_ii {i j : Int} : rEq (.int i) (.int j) H Q = Q (.bl (decide (i = j))) H := by simp [rEq, scal]
@[simp] theorem j_ne_ii {i j : Int} : rNe (.int i) (.int j) H Q = Q (.bl (!decide (i = j))) H := by simp [rNe, scal]
@[simp] theorem j_eq_ss {i j : Str} : rEq (.str i) (.str j) H Q = Q (.bl (decide (i = j))) H := by simp [rEq, scal]
@[simp] theorem j_ne_ss {i j : Str} : rNe (.str i) (.str j) H Q = Q (.bl (!decide (i = j))) H := by simp [rNe, scal]
@[simp] theorem j_eq_bb {i j : Bool} : rEq (.bl i) (.bl j) H Q = Q (.bl (decide (i = j))) H := by simp [rEq, scal]
@[simp] theorem j_ne_bb {i j : Bool} : rNe (.bl i) (.bl j) H Q = Q (.bl (!decide (i = j))) H := by simp [rNe, scal]
@[simp] theorem j_chain {r' : R2} : tChain r r' ta tb tc σ H Q = ta σ H fun x H1 => tb σ H1 fun y H2 => r x y H2 fun z H3 => ∃ k, z = .bl k ∧ (if k = true then tc σ H3 fun w' H4 => r' y w' H4 Q else Q (.bl false) H3) := rfl
@[simp] theorem j_fld {f : Str} : tFld K ta f σ H Q = ta σ H fun x H1 => ∃ a C dx fs v, x = .ref a ∧ H1 a = some (.ins C dx fs) ∧ Cls K C ∧ NoAttr K C f ∧ fs.lookup f = some v ∧ Q v H1 := rfl
@[simp] theorem j_sfld {f : Str} : sFld K ta tv f D σ H = tv σ H fun y H1 => ta σ H1 fun x H2 => ∃ a C dx fs, x = .ref a ∧ H2 a = some (.ins C dx fs) ∧ Cls K C ∧ NoAttr K C f ∧ fs.length < 1000 ∧ D.nx σ (upd H2 a (.ins C dx (putF f y fs))) := rfl
@[simp] theorem j_nil : tNil σ H QA = QA [] H := rfl
@[simp] theorem j_cons : tCons ta tr σ H QA = ta σ H fun x H1 => tr σ H1 fun xs H2 => QA (x :: xs) H2 := rfl
@[simp] theorem j_cb {r1 : List V → Hp → VK → Prop} : tCB r1 tr σ H Q = tr σ H fun vs H1 => r1 vs H1 Q := rfl
@[simp] theorem j_call {sp : Sp} {E : XK} : tCall sp [] E tr σ H Q = tr σ H fun vs H1 => sp vs H1 Q E := by simp [tCall]
@[simp] theorem j_meth {sp : Sp} {E : XK} {C : Addr} {m : Str} : tMeth C m sp [] E ta tr σ H Q = ta σ H fun x H1 => ∃ a dx fs, x = .ref a ∧ H1 a = some (.ins C dx fs) ∧ NoFld fs m ∧ tr σ H1 fun vs H2 => sp (x :: vs) H2 Q E := by simp [tMeth, NoFld]
@[simp] theorem j_methS {sp : Sp} {E : L2.St → XK} {C : Addr} {m : Str} : jMethS C m sp E ta tr σ H Q = ta σ H fun x H1 => ∃ a dx fs, x = .ref a ∧ H1 a = some (.ins C dx fs) ∧ NoFld fs m ∧ tr σ H1 fun vs H2 => sp (x :: vs) H2 Q (E σ) := rfl
@[simp] theorem j_makeS {sp : Sp} {E : L2.St → XK} {C : Addr} : jMakeS C sp E tr σ H Q = tr σ H fun vs H1 => ∀ x dx, H1 x = none → H1 dx = none → dx ≠ x → sp (.ref x :: vs) (upd (upd H1 dx (.own x)) x (.ins C dx [])) (fun v H2 => v = .non ∧ Q (.ref x) H2) (E σ) := rfl
@[simp] theorem j_make {sp : Sp} {E : XK} {C : Addr} : tMake C sp [] E tr σ H Q = tr σ H fun vs H1 => ∀ x dx, H1 x = none → H1 dx = none → dx ≠ x → sp (.ref x :: vs) (upd (upd H1 dx (.own x)) x (.ins C dx [])) (fun v H2 => v = .non ∧ Q (.ref x) H2) E := by simp [tMake]
@[simp] theorem j_isN {y : V} : (fun (x y : V) (H : Hp) (Q : VK) => y = V.non ∧ Q (.bl (decide (x = .non))) H) x y H Q = (y = V.non ∧ Q (.bl (decide (x = .non))) H) := rfl
@[simp] theorem kV_int {n : Int} {k : Key} : (V.int n = kV k) = (k = Sum.inl n) := by
  cases k with
  | inl i => simp [kV, eq_comm]
  | inr s => simp [kV]
@[simp] theorem kV_str {n : Str} {k : Key} : (V.str n = kV k) = (k = Sum.inr n) := by
  cases k with
  | inl i => simp [kV]
  | inr s => simp [kV, eq_comm]
end

section
variable {X : Cx}
/-- a reading that asks more -/
theorem _root_.L2.PE.by {e : Expr} {t t' : TE} (h : PE X e t) (k : ∀ σ H Q, t' σ H Q → t σ H Q) : PE X e t' := ⟨fun pins s σ H Q I q => h.run pins s σ H Q I (k σ H Q q)⟩
theorem _root_.L2.PG.by {e : Expr} {t t' : TG} (h : PG X e t) (k : ∀ v σ H Q, t' v σ H Q → t v σ H Q) : PG X e t' := ⟨fun pins s σ H v u Q I r q => h.run pins s σ H v u Q I r (k v σ H Q q)⟩
theorem _root_.L2.PS.by {e : Stmt} {t t' : TS} (h : PS X e t) (k : ∀ D σ H, t' D σ H → t D σ H) : PS X e t' := ⟨fun pins s σ H D I q => h.run pins s σ H D I (k D σ H q)⟩
theorem callBy {f : Value} {r r' : List V → Hp → VK → Prop} (h : CallR X f r) (k : ∀ xs H Q, r' xs H Q → r xs H Q) : CallR X f r' := fun pins s σ H xs us Q I rr q => h pins s σ H xs us Q I rr (k xs H Q q)

/-- an attribute, the written part named -/
theorem pe_fldK {K0 : PySem.W.Frag} {e : Expr} {ta : TE} {f : Str} {pos : Pos} (he : PE X e ta) (hb : attributeBase e f X.env (eval e X.env) = eval e X.env := by rfl) (hK : X.K = K0 := by rfl) : PE X (.Attribute e f pos) (tFld K0 ta f) := by
  subst hK
  exact pe_fld he hb
/-! new tuples and lists, what was tracked kept -/
def jTup (tr : TA) : TE := fun σ H Q => tr σ H fun xs H1 => xs.length ≤ 1000 ∧ ∀ p H2, H1 p = none → Ex H1 H2 → H2 p = some (.tup xs) → Q (.ref p) H2
def jLst (tr : TA) : TE := fun σ H Q => tr σ H fun xs H1 => xs.length ≤ 1000 ∧ ∀ p H2, H1 p = none → Ex H1 H2 → H2 p = some (.lst xs) → Q (.ref p) H2
@[simp] theorem j_tup {σ H Q} {tr : TA} : jTup tr σ H Q = tr σ H fun xs H1 => xs.length ≤ 1000 ∧ ∀ p H2, H1 p = none → Ex H1 H2 → H2 p = some (.tup xs) → Q (.ref p) H2 := rfl
@[simp] theorem j_lst {σ H Q} {tr : TA} : jLst tr σ H Q = tr σ H fun xs H1 => xs.length ≤ 1000 ∧ ∀ p H2, H1 p = none → Ex H1 H2 → H2 p = some (.lst xs) → Q (.ref p) H2 := rfl
theorem line1000 {n : Nat} (h : n ≤ 1000) : n ≤ sizeLine := Nat.le_trans h (by decide)
theorem pe_tupJ {es : List Expr} {t : TA} {x1} {pos : Pos} (h : PA X es t) : PE X (.Tuple es x1 pos) (jTup t) := by
  refine ⟨fun pins s σ H Q I hq => ?_⟩
  refine (pe_tup (x1 := x1) (pos := pos) (t := fun σ H Q => ∃ Q', t σ H Q' ∧ ∀ vs H', Q' vs H' → Q vs H') ⟨fun pos pins s σ H Q I q => ?_⟩).run pins s σ H Q I ⟨_, hq, fun xs H1 ⟨z, k⟩ => ⟨line1000 z, fun p hp => k p _ hp (Ex.new hp) upd_same⟩⟩
  obtain ⟨Q', q1, q2⟩ := q
  exact thn (h.run pos pins s σ H Q' I q1) fun us s1 ⟨xs, H1, I1, r, k⟩ => ⟨xs, H1, I1, r, q2 _ _ k⟩
theorem pe_lstJ {es : List Expr} {t : TA} {pos : Pos} (h : PA X es t) : PE X (.List es pos) (jLst t) := by
  refine ⟨fun pins s σ H Q I hq => ?_⟩
  refine (pe_lst (pos := pos) (t := fun σ H Q => ∃ Q', t σ H Q' ∧ ∀ vs H', Q' vs H' → Q vs H') ⟨fun pos pins s σ H Q I q => ?_⟩).run pins s σ H Q I ⟨_, hq, fun xs H1 ⟨z, k⟩ => ⟨line1000 z, fun p hp => k p _ hp (Ex.new hp) upd_same⟩⟩
  obtain ⟨Q', q1, q2⟩ := q
  exact thn (h.run pos pins s σ H Q' I q1) fun us s1 ⟨xs, H1, I1, r, k⟩ => ⟨xs, H1, I1, r, q2 _ _ k⟩
def jDict : TE := fun _ H Q => ∀ p H2, H p = none → Ex H H2 → H2 p = some (.dK []) → Q (.ref p) H2
@[simp] theorem j_dict {σ H Q} : jDict σ H Q = ∀ p H2, H p = none → Ex H H2 → H2 p = some (.dK []) → Q (.ref p) H2 := rfl
theorem pe_dictJ {pos : Pos} : PE X (.Dict [] [] pos) jDict := pe_dnewK.by fun σ H Q q p hp => q p _ hp (Ex.new hp) upd_same

/-! operators -/
theorem opBy {f : Value → Value → Sem Value} {r r' : R2} (h : OpR X f r) (k : ∀ x y H Q, r' x y H Q → r x y H Q) : OpR X f r' := fun pins s σ H x y v u Q I r1 r2 q => h pins s σ H x y v u Q I r1 r2 (k x y H Q q)
def jCat : R2 := fun x y H Q => ∃ l b xs zs, x = .ref l ∧ y = .ref b ∧ H l = some (.lst xs) ∧ H b = some (.lst zs) ∧ xs.length + zs.length ≤ 100000 ∧ ∀ p H2, H p = none → Ex H H2 → H2 p = some (.lst (xs ++ zs)) → Q (.ref p) H2
theorem op_catJ : OpR X (binaryOp .Add) jCat := opBy op_cat fun x y H Q ⟨l, b, xs, zs, e1, e2, h1, h2, z, k⟩ => ⟨l, b, xs, zs, e1, e2, h1, h2, Nat.le_trans z (by decide), fun p hp => k p _ hp (Ex.new hp) upd_same⟩
def jRep : R2 := fun x y H Q => ∃ l k xs, x = .ref l ∧ y = .int k ∧ H l = some (.lst xs) ∧ 0 ≤ k ∧ k ≤ 1000 ∧ xs.length ≤ 1000 ∧ ∀ p H2, H p = none → Ex H H2 → H2 p = some (.lst (List.replicate k.toNat xs).flatten) → Q (.ref p) H2
theorem op_repJ : OpR X (binaryOp .Mult) jRep := opBy op_rep fun x y H Q ⟨l, k, xs, e1, e2, h1, h2, h3, h4, q⟩ => ⟨l, k, xs, e1, e2, h1, by omega, by omega, by
    have z : xs.length * k.toNat ≤ 1000 * 1000 := Nat.mul_le_mul h4 (by omega)
    exact Nat.le_trans z (by decide), fun p hp => q p _ hp (Ex.new hp) upd_same⟩
def jIxL : R2 := fun x y H Q => ∃ p xs i v, x = .ref p ∧ y = .int i ∧ H p = some (.lst xs) ∧ 0 ≤ i ∧ xs[i.toNat]? = some v ∧ Q v H
def jIxT : R2 := fun x y H Q => ∃ p xs i v, x = .ref p ∧ y = .int i ∧ H p = some (.tup xs) ∧ 0 ≤ i ∧ xs[i.toNat]? = some v ∧ Q v H
theorem at_toNat {xs : List V} {i : Int} {v : V} (h : 0 ≤ i) (e : xs[i.toNat]? = some v) : atI xs i = some v := at_of (j := i.toNat) (by omega) e
theorem ix_listJ : IxR X jIxL := fun vl sl pins s σ H x y v u Q I rx ry q hs => ix_list vl sl pins s σ H x y v u Q I rx ry (by
  obtain ⟨p, xs, i, z, e1, e2, h1, h2, h3, k⟩ := q
  exact ⟨p, xs, i, z, e1, e2, .inl (.inl h1), at_toNat h2 h3, k⟩) hs
theorem ix_tupJ : IxR X jIxT := fun vl sl pins s σ H x y v u Q I rx ry q hs => ix_tup vl sl pins s σ H x y v u Q I rx ry (by
  obtain ⟨p, xs, i, z, e1, e2, h1, h2, h3, k⟩ := q
  exact ⟨p, xs, i, z, e1, e2, .inl (.inl h1), at_toNat h2 h3, k⟩) hs

/-! dicts -/
variable {o i value : Expr} {td ty : TE} {pos tpos : Pos}
def jDGet (td ty : TE) : TE := fun σ H Q => td σ H fun x H1 => ty σ H1 fun y H2 => ∃ a kvs k v, x = .ref a ∧ H2 a = some (.dK kvs) ∧ y = kV k ∧ valV kvs k = some v ∧ Q v H2
@[simp] theorem j_dget {σ H Q} : jDGet td ty σ H Q = td σ H fun x H1 => ty σ H1 fun y H2 => ∃ a kvs k v, x = .ref a ∧ H2 a = some (.dK kvs) ∧ y = kV k ∧ valV kvs k = some v ∧ Q v H2 := rfl

/-- a reading that may be weakened behind -/
def cl (t : TE) : TE := fun σ H Q => ∃ Q', t σ H Q' ∧ ∀ v H', Q' v H' → Q v H'
theorem _root_.L2.PE.cl {e : Expr} {t : TE} (h : PE X e t) : PE X e (cl t) := ⟨fun pins s σ H Q I ⟨Q', q1, q2⟩ => thn (h.run pins s σ H Q' I q1) fun u s1 ⟨v, H1, I1, r, k⟩ => ⟨v, H1, I1, r, q2 _ _ k⟩⟩
theorem pe_dgetJ (hu : X.A.units + 1 < cLine) (ho : PE X o td) (hi : PE X i ty) (hs : NoSl i) : PE X (.Subscript o i pos) (jDGet td ty) :=
  (pe_dget hu ho.cl hi.cl hs).by fun σ H Q q => ⟨_, q, fun x H1 k => ⟨_, k, fun y H2 ⟨a, kvs, k, v, e1, h1, e2, e3, q⟩ => ⟨a, v, e1, by rw [e2, ← e3]; exact DGet.k h1, q⟩⟩⟩
def jDIn (ty td : TE) : TE := fun σ H Q => ty σ H fun y H1 => td σ H1 fun x H2 => ∃ a kvs k, x = .ref a ∧ H2 a = some (.dK kvs) ∧ y = kV k ∧ Q (.bl (valV kvs k).isSome) H2
@[simp] theorem j_din {σ : L2.St} {H : Hp} {Q : VK} : jDIn ty td σ H Q = ty σ H fun y H1 => td σ H1 fun x H2 => ∃ a kvs k, x = .ref a ∧ H2 a = some (.dK kvs) ∧ y = kV k ∧ Q (.bl (valV kvs k).isSome) H2 := rfl
theorem pc_dinJ (hu : X.A.units + 1 < cLine) (hi : PE X i ty) (ho : PE X o td) : PC X .In i o (jDIn ty td) := by
  refine ⟨fun pins s σ H Q I q => (pc_din hu hi.cl ho.cl).run pins s σ H Q I ⟨_, q, fun y H1 k => ⟨_, k, fun x H2 ⟨a, kvs, k, e1, h1, e2, q⟩ => ⟨a, _, e1, by rw [e2]; exact DGet.k h1, q⟩⟩⟩⟩
/-- a pair of ints in a dict of such -/
def jDInT (ty td : TE) : TE := fun σ H Q => ty σ H fun y H1 => td σ H1 fun x H2 => ∃ a kvs b m n, x = .ref a ∧ H2 a = some (.dT kvs) ∧ y = .ref b ∧ H2 b = some (.tup [.int m, .int n]) ∧ Q (.bl (valV kvs (keyP (m, n))).isSome) H2
@[simp] theorem j_dinT {σ : L2.St} {H : Hp} {Q : VK} : jDInT ty td σ H Q = ty σ H fun y H1 => td σ H1 fun x H2 => ∃ a kvs b m n, x = .ref a ∧ H2 a = some (.dT kvs) ∧ y = .ref b ∧ H2 b = some (.tup [.int m, .int n]) ∧ Q (.bl (valV kvs (keyP (m, n))).isSome) H2 := rfl
theorem pc_dinT (hu : X.A.units + 1 < cLine) (hi : PE X i ty) (ho : PE X o td) : PC X .In i o (jDInT ty td) := by
  refine ⟨fun pins s σ H Q I q => (pc_din hu hi.cl ho.cl).run pins s σ H Q I ⟨_, q, fun y H1 k => ⟨_, k, fun x H2 ⟨a, kvs, b, m, n, e1, h1, e2, h2, q⟩ => ⟨a, _, e1, by rw [e2]; exact DGet.t (k := keyP (m, n)) h1 h2, q⟩⟩⟩⟩
def jDPut (td ty tv : TE) : TS := fun D σ H => tv σ H fun v H1 => td σ H1 fun x H2 => ty σ H2 fun y H3 => ∃ a kvs k, x = .ref a ∧ H3 a = some (.dK kvs) ∧ y = kV k ∧ kvs.length ≤ 100000 ∧ D.nx σ (upd H3 a (.dK (putK kvs k v)))
@[simp] theorem j_dput {tv : TE} {D : Ends} {σ : L2.St} {H : Hp} : jDPut td ty tv D σ H = tv σ H fun v H1 => td σ H1 fun x H2 => ty σ H2 fun y H3 => ∃ a kvs k, x = .ref a ∧ H3 a = some (.dK kvs) ∧ y = kV k ∧ kvs.length ≤ 100000 ∧ D.nx σ (upd H3 a (.dK (putK kvs k v))) := rfl
theorem lt_line {n : Nat} (h : n ≤ 100000) : n < sizeLine := Nat.lt_of_le_of_lt h (by decide)
theorem ps_dputJ {tv : TE} {pos' : Pos} (hu : X.A.units + 1 < cLine) (ho : PE X o td) (hi : PE X i ty) (hv : PE X value tv) (hs : swapsWith value (some (.Subscript o i pos')) pos.line X.env = pure false) :
    PS X (.Assign [.Subscript o i pos'] value pos) (jDPut td ty tv) :=
  (ps_dput hu ho.cl hi.cl hv.cl hs).by fun D σ H q => ⟨_, q, fun v H1 k => ⟨_, k, fun x H2 k => ⟨_, k, fun y H3 ⟨a, kvs, k, e1, h1, e2, z, q⟩ => ⟨a, _, e1, by rw [e2]; exact DPut.k h1 (lt_line z), q⟩⟩⟩⟩
def jDPutT (td ty tv : TE) : TS := fun D σ H => tv σ H fun v H1 => td σ H1 fun x H2 => ty σ H2 fun y H3 => ∃ a kvs b m n, x = .ref a ∧ H3 a = some (.dT kvs) ∧ y = .ref b ∧ H3 b = some (.tup [.int m, .int n]) ∧ kvs.length ≤ 100000 ∧ D.nx σ (upd H3 a (.dT (putK kvs (keyP (m, n)) v)))
@[simp] theorem j_dputT {tv : TE} {D : Ends} {σ : L2.St} {H : Hp} : jDPutT td ty tv D σ H = tv σ H fun v H1 => td σ H1 fun x H2 => ty σ H2 fun y H3 => ∃ a kvs b m n, x = .ref a ∧ H3 a = some (.dT kvs) ∧ y = .ref b ∧ H3 b = some (.tup [.int m, .int n]) ∧ kvs.length ≤ 100000 ∧ D.nx σ (upd H3 a (.dT (putK kvs (keyP (m, n)) v))) := rfl
theorem ps_dputT {tv : TE} {pos' : Pos} (hu : X.A.units + 1 < cLine) (ho : PE X o td) (hi : PE X i ty) (hv : PE X value tv) (hs : swapsWith value (some (.Subscript o i pos')) pos.line X.env = pure false) :
    PS X (.Assign [.Subscript o i pos'] value pos) (jDPutT td ty tv) :=
  (ps_dput hu ho.cl hi.cl hv.cl hs).by fun D σ H q => ⟨_, q, fun v H1 k => ⟨_, k, fun x H2 k => ⟨_, k, fun y H3 ⟨a, kvs, b, m, n, e1, h1, e2, h2, z, q⟩ => ⟨a, _, e1, by rw [e2]; exact DPut.t (k := keyP (m, n)) h1 h2 (lt_line z), q⟩⟩⟩⟩
@[simp] theorem j_ddel {D : Ends} {σ : L2.St} {H : Hp} : sDDel td ty D σ H = td σ H fun x H1 => ty σ H1 fun y H2 => ∃ a kvs k, x = .ref a ∧ H2 a = some (.dK kvs) ∧ y = kV k ∧ (valV kvs k).isSome = true ∧ D.nx σ (upd H2 a (.dK (dropK kvs k))) := rfl

/-! calls of built-ins by values -/
def tyN (H : Hp) : V → Option String
  | .non => some "NoneType"
  | .bl _ => some "bool"
  | .int _ => some "int"
  | .str _ => some "str"
  | .ref a => match H a with
    | some (.lst _) => some "list"
    | some (.tup _) => some "tuple"
    | some (.dK _) => some "dict"
    | some (.dT _) => some "dict"
    | _ => none
  | _ => none
theorem tyN_of {K : PySem.W.Frag} {H : Hp} {x : V} {n : String} (h : tyN H x = some n) : TyX K H x (.type n) := by
  cases x with
  | non => cases h; exact .base .non
  | bl b => cases h; exact .base (.bl b)
  | int i => cases h; exact .base (.int i)
  | str s => cases h; exact .base (.str s)
  | byt b => cases h
  | flt b => cases h
  | ty n => cases h
  | ref a =>
    unfold tyN at h
    dsimp only at h
    split at h
    · rename_i e; cases h; exact .base (.lst e)
    · rename_i e; cases h; exact .base (.tup e)
    · rename_i e; cases h; exact .base (.dK e)
    · rename_i e; cases h; exact .base (.dT e)
    · cases h
def jIs : List V → Hp → VK → Prop := fun xs H Q => ∃ x n t b, xs = [x, .ty n] ∧ tyN H x = some t ∧ kitB t n = some b ∧ Q (.bl b) H
theorem call_isJ : CallR X (.builtin "isinstance") jIs := callBy call_isi fun xs H Q ⟨x, n, t, b, e1, e2, e3, q⟩ => ⟨x, .ty n, _, _, b, e1, .ty n, tyN_of e2, kit_ty e3, q⟩
def jLen : List V → Hp → VK → Prop := fun vs H Q => ∃ p xs, vs = [.ref p] ∧ H p = some (.lst xs) ∧ Q (.int xs.length) H
theorem call_lenJ : CallR X (.builtin "len") jLen := callBy call_len_seq fun vs H Q ⟨p, xs, e, h, q⟩ => ⟨p, xs, e, .inl (.inl (.inl h)), q⟩
def jLenT : List V → Hp → VK → Prop := fun vs H Q => ∃ p xs, vs = [.ref p] ∧ H p = some (.tup xs) ∧ Q (.int xs.length) H
theorem call_lenT : CallR X (.builtin "len") jLenT := callBy call_len_seq fun vs H Q ⟨p, xs, e, h, q⟩ => ⟨p, xs, e, .inr (.inl (.inl h)), q⟩
def jList : List V → Hp → VK → Prop := fun vs H Q => ∃ p xs, vs = [.ref p] ∧ (H p = some (.lst xs) ∨ H p = some (.tup xs)) ∧ ∀ l H2, H l = none → Ex H H2 → H2 l = some (.lst xs) → Q (.ref l) H2
theorem call_listJ : CallR X (.type "list") jList := callBy call_list_of fun vs H Q ⟨p, xs, e, h, q⟩ => ⟨p, xs, e, h.imp (fun h => .inl (.inl h)) (fun h => .inl (.inl h)), fun l hl => q l _ hl (Ex.new hl) upd_same⟩
@[simp] theorem kb_ii : kitB "int" "int" = some true := by decide +kernel
@[simp] theorem kb_bi : kitB "bool" "int" = some true := by decide +kernel
@[simp] theorem kb_bb : kitB "bool" "bool" = some true := by decide +kernel
@[simp] theorem kb_ib : kitB "int" "bool" = some false := by decide +kernel
@[simp] theorem kb_ni : kitB "NoneType" "int" = some false := by decide +kernel
@[simp] theorem kb_si : kitB "str" "int" = some false := by decide +kernel
@[simp] theorem kb_li : kitB "list" "int" = some false := by decide +kernel
@[simp] theorem kb_ti : kitB "tuple" "int" = some false := by decide +kernel
@[simp] theorem kb_di : kitB "dict" "int" = some false := by decide +kernel
@[simp] theorem kb_nb : kitB "NoneType" "bool" = some false := by decide +kernel
@[simp] theorem kb_sb : kitB "str" "bool" = some false := by decide +kernel
@[simp] theorem kb_lb : kitB "list" "bool" = some false := by decide +kernel
@[simp] theorem kb_tb : kitB "tuple" "bool" = some false := by decide +kernel
@[simp] theorem kb_db : kitB "dict" "bool" = some false := by decide +kernel
@[simp] theorem kb_ll : kitB "list" "list" = some true := by decide +kernel
@[simp] theorem kb_tt : kitB "tuple" "tuple" = some true := by decide +kernel
@[simp] theorem kb_it : kitB "int" "tuple" = some false := by decide +kernel
@[simp] theorem kb_bt : kitB "bool" "tuple" = some false := by decide +kernel
@[simp] theorem kb_nt : kitB "NoneType" "tuple" = some false := by decide +kernel
@[simp] theorem kb_st : kitB "str" "tuple" = some false := by decide +kernel
@[simp] theorem kb_lt : kitB "list" "tuple" = some false := by decide +kernel
@[simp] theorem kb_dt : kitB "dict" "tuple" = some false := by decide +kernel
@[simp] theorem kb_ss : kitB "str" "str" = some true := by decide +kernel
@[simp] theorem tyN_non {H : Hp} : tyN H .non = some "NoneType" := rfl
@[simp] theorem tyN_bl {H : Hp} {b : Bool} : tyN H (.bl b) = some "bool" := rfl
@[simp] theorem tyN_int {H : Hp} {b : Int} : tyN H (.int b) = some "int" := rfl
@[simp] theorem tyN_str {H : Hp} {b : Str} : tyN H (.str b) = some "str" := rfl
theorem tyN_lst {H : Hp} {a : Addr} {xs : List V} (h : H a = some (.lst xs)) : tyN H (.ref a) = some "list" := by simp [tyN, h]
theorem tyN_tup {H : Hp} {a : Addr} {xs : List V} (h : H a = some (.tup xs)) : tyN H (.ref a) = some "tuple" := by simp [tyN, h]
theorem tyN_dK {H : Hp} {a : Addr} {xs : List (Key × V)} (h : H a = some (.dK xs)) : tyN H (.ref a) = some "dict" := by simp [tyN, h]
@[simp] theorem j_is {x : V} {n : String} {H : Hp} {Q : VK} : jIs [x, .ty n] H Q = ∃ t b, tyN H x = some t ∧ kitB t n = some b ∧ Q (.bl b) H := propext ⟨fun ⟨_, _, t, b, e, h⟩ => by cases e; exact ⟨t, b, h⟩, fun ⟨t, b, h⟩ => ⟨_, _, t, b, rfl, h⟩⟩
@[simp] theorem j_len {p : Addr} {H : Hp} {Q : VK} : jLen [.ref p] H Q = ∃ xs, H p = some (.lst xs) ∧ Q (.int xs.length) H := by simp [jLen]
@[simp] theorem j_app {l : Addr} {y : V} {H : Hp} {Q : VK} : rAppend (.ref l) [y] H Q = ∃ xs, H l = some (.lst xs) ∧ xs.length < sizeLine ∧ Q .non (upd H l (.lst (xs ++ [y]))) := by simp [rAppend]
@[simp] theorem j_ixL {p : Addr} {i : Int} {H : Hp} {Q : VK} : jIxL (.ref p) (.int i) H Q = ∃ xs v, H p = some (.lst xs) ∧ 0 ≤ i ∧ xs[i.toNat]? = some v ∧ Q v H := by simp [jIxL]
@[simp] theorem j_ixT {p : Addr} {i : Int} {H : Hp} {Q : VK} : jIxT (.ref p) (.int i) H Q = ∃ xs v, H p = some (.tup xs) ∧ 0 ≤ i ∧ xs[i.toNat]? = some v ∧ Q v H := by simp [jIxT]

/-! methods of lists, targets that are pairs -/
def jBM (r : V → List V → Hp → VK → Prop) (to : TE) (tr : TA) : TE := fun σ H Q => to σ H fun x H1 => (∃ p xs, x = .ref p ∧ H1 p = some (.lst xs)) ∧ tr σ H1 fun vs H2 => r x vs H2 Q
@[simp] theorem j_bm {r : V → List V → Hp → VK → Prop} {to : TE} {tr : TA} {σ : L2.St} {H : Hp} {Q : VK} : jBM r to tr σ H Q = to σ H fun x H1 => (∃ p xs, x = .ref p ∧ H1 p = some (.lst xs)) ∧ tr σ H1 fun vs H2 => r x vs H2 Q := rfl
theorem pe_bmL {o e : Expr} {es : List Expr} {to : TE} {tr : TA} {name : Str} {apos cpos : Pos} {id : String} {r : V → List V → Hp → VK → Prop} (slot : Slot "list" name id) (hty : typeOf (.builtin id) = pure (.type "method_descriptor")) (hm : MtR X id r) (ho : PE X o to) (ha : PA X (e :: es) tr)
    (h1 : attributeBase o name X.env (eval o X.env) = eval o X.env := by rfl)
    (h2 : ((backTo cpos (starEach (e :: es) X.env)).all (fun x => !x.1) && (backToKw cpos (keywordEach [] X.env)).all (fun x => x.1.isSome) && decide ((e :: es).length + ([] : List Keyword).length + (if ([] : List Keyword).isEmpty then 0 else 1) < 30)) = true := by rfl)
    (h3 : (apos.endLine == cpos.line) = true := by rfl) (h4 : starEach (e :: es) X.env = (false, eval e X.env) :: starEach es X.env := by rfl) (h5 : (backTo cpos (starEach es X.env)).any (·.1) = false := by rfl) :
    PE X (.Call (.Attribute o name apos) (e :: es) [] cpos) (jBM r to tr) :=
  (pe_bm PySem.F.plainAttrs_list slot hty hm ho.cl ha h1 h2 h3 h4 h5).by fun σ H Q q => ⟨_, q, fun x H1 ⟨⟨p, xs, e, h⟩, k⟩ => ⟨by rw [e]; exact .inl ⟨rfl, xs, .inl (.inl h)⟩, k⟩⟩
def jBM0 (r : V → List V → Hp → VK → Prop) (to : TE) : TE := fun σ H Q => to σ H fun x H1 => (∃ p xs, x = .ref p ∧ H1 p = some (.lst xs)) ∧ r x [] H1 Q
@[simp] theorem j_bm0 {r : V → List V → Hp → VK → Prop} {to : TE} {σ : L2.St} {H : Hp} {Q : VK} : jBM0 r to σ H Q = to σ H fun x H1 => (∃ p xs, x = .ref p ∧ H1 p = some (.lst xs)) ∧ r x [] H1 Q := rfl
theorem pe_bmL0 {o : Expr} {to : TE} {name : Str} {apos cpos : Pos} {id : String} {r : V → List V → Hp → VK → Prop} (slot : Slot "list" name id) (hty : typeOf (.builtin id) = pure (.type "method_descriptor")) (hm : MtR X id r) (ho : PE X o to)
    (h1 : attributeBase o name X.env (eval o X.env) = eval o X.env := by rfl) (h2 : (apos.endLine == cpos.line) = true := by rfl) : PE X (.Call (.Attribute o name apos) [] [] cpos) (jBM0 r to) :=
  (pe_bm0 PySem.F.plainAttrs_list slot hty hm ho.cl h1 h2).by fun σ H Q q => ⟨_, q, fun x H1 ⟨⟨p, xs, e, h⟩, k⟩ => ⟨by rw [e]; exact .inl ⟨rfl, xs, .inl (.inl h)⟩, k⟩⟩
def jBMD (r : V → List V → Hp → VK → Prop) (to : TE) (tr : TA) : TE := fun σ H Q => to σ H fun x H1 => (∃ p xs, x = .ref p ∧ H1 p = some (.dT xs)) ∧ tr σ H1 fun vs H2 => r x vs H2 Q
@[simp] theorem j_bmd {r : V → List V → Hp → VK → Prop} {to : TE} {tr : TA} {σ : L2.St} {H : Hp} {Q : VK} : jBMD r to tr σ H Q = to σ H fun x H1 => (∃ p xs, x = .ref p ∧ H1 p = some (.dT xs)) ∧ tr σ H1 fun vs H2 => r x vs H2 Q := rfl
theorem pe_popT {o e : Expr} {to : TE} {tr : TA} {apos cpos : Pos} (hu : X.A.units + 1 < cLine) (ho : PE X o to) (ha : PA X [e] tr)
    (h1 : attributeBase o "pop" X.env (eval o X.env) = eval o X.env := by rfl)
    (h2 : ((backTo cpos (starEach [e] X.env)).all (fun x => !x.1) && (backToKw cpos (keywordEach [] X.env)).all (fun x => x.1.isSome) && decide ([e].length + ([] : List Keyword).length + (if ([] : List Keyword).isEmpty then 0 else 1) < 30)) = true := by rfl)
    (h3 : (apos.endLine == cpos.line) = true := by rfl) (h4 : starEach [e] X.env = (false, eval e X.env) :: starEach [] X.env := by rfl) (h5 : (backTo cpos (starEach [] X.env)).any (·.1) = false := by rfl) :
    PE X (.Call (.Attribute o "pop" apos) [e] [] cpos) (jBMD rPopT1 to tr) :=
  (pe_bm PySem.F.plainAttrs_dict PySem.F.slot_dict_pop PySem.F.type_dict_pop (mt_popT1 hu) ho.cl ha h1 h2 h3 h4 h5).by fun σ H Q q => ⟨_, q, fun x H1 ⟨⟨p, xs, e, h⟩, k⟩ => ⟨by rw [e]; exact .inr (.inr (.inl ⟨rfl, .inr ⟨xs, h⟩⟩)), k⟩⟩
def jTupG (n : Nat) (t : TGs) : TG := fun v σ H Q => ∃ a xs, v = .ref a ∧ H a = some (.tup xs) ∧ xs.length = n ∧ t xs σ H Q
@[simp] theorem j_tupG {n : Nat} {t : TGs} {a : Addr} {σ : L2.St} {H : Hp} {Q : L2.St → Hp → Prop} : jTupG n t (.ref a) σ H Q = ∃ xs, H a = some (.tup xs) ∧ xs.length = n ∧ t xs σ H Q := by simp [jTupG]
theorem pg_tupJ {es : List Expr} {k : Nat} {t : TGs} {n : Nat} {pos : Pos} (hc : X.calm = true) (h : PGs X es t) (hn : (assignEach es X.env).length = n := by rfl) (hst : (assignEach es X.env).findIdx? (·.1) = none := by rfl) : PG X (.Tuple es k pos) (jTupG n t) :=
  (pg_tup hc h hn hst).by fun v σ H Q ⟨a, xs, e, h, z, q⟩ => ⟨a, xs, e, .inl (.inl h), z, q⟩
end
/-- the statement ahead is read for any word that follows from Mid -/
theorem seq_by {t u : TS} {D : Ends} {σ : L2.St} {H : Hp} (Mid : L2.St → Hp → Prop) (h : ∀ N : L2.St → Hp → Prop, (∀ s1 H1, Mid s1 H1 → N s1 H1) → t { D with nx := N } σ H) (k : ∀ s1 H1, Mid s1 H1 → u D s1 H1) : tSeq t u D σ H := h (u D) k
/-! ## isinstance's answers from what the top says of the classes -/
theorem kit_ref {K : PySem.W.Frag} {D C : Addr} {b : Bool} (hd : PySem.W.hasDictIn K C = true) (ht : PySem.W.typeIn K (.ref C) = some (.type "type")) (hs : PySem.W.subIn K (.ref C) (.ref C) = some true) (h : PySem.W.subIn K (.ref D) (.ref C) = some b) :
    PySem.W.kitOne K (.ref D) (.ref C) = some b := by
  unfold PySem.W.kitOne
  by_cases e : D = C
  · subst e
    rw [hs] at h
    cases h
    simp
  · rw [if_neg (by simp [e])]
    obtain ⟨cd, hc, _⟩ := PySem.W.any_some hd
    show (if ((PySem.W.clsIn K C).isSome && PySem.W.typeIn K (.ref C) == some (.type "type")) = true then PySem.W.subIn K (.ref D) (.ref C) else none) = some b
    rw [hc, ht, if_pos (by rfl)]
    exact h
theorem kit_tyo {K : PySem.W.Frag} {D : Addr} {n : String} {b : Bool} (hm : PySem.W.kitMeta n = true) (h : PySem.W.subIn K (.ref D) (.type n) = some b) : PySem.W.kitOne K (.ref D) (.type n) = some b := by
  unfold PySem.W.kitOne
  rw [if_neg (by simp)]
  show (if PySem.W.kitMeta n = true then PySem.W.subIn K (.ref D) (.type n) else none) = some b
  rw [if_pos hm]
  exact h
section
variable {CX : CXT} {P : Program} {w : World} {K : PySem.W.Frag} {mg : Str → Option Value} {base : Heap} {N : List Str} {qual : Str} {scope : Scope} {f : Addr} {cd : Value} {A : Around} {outer : List Env} {s : Shared} {H : Hp} {E : XK}
@[simp] theorem cx_K : (cxOf CX P w K mg base N qual scope f cd A outer s H E).K = K := rfl
@[simp] theorem nox_K {X : Cx} : X.nox.K = X.K := rfl
end
end Jk

namespace Jk
open PySem PySem.Spec L2 Evl
@[simp] theorem kc_nl : kitB "NoneType" "list" = some false := by decide +kernel
@[simp] theorem kc_bl : kitB "bool" "list" = some false := by decide +kernel
@[simp] theorem kc_il : kitB "int" "list" = some false := by decide +kernel
@[simp] theorem kc_sl : kitB "str" "list" = some false := by decide +kernel
@[simp] theorem kc_tl : kitB "tuple" "list" = some false := by decide +kernel
@[simp] theorem kc_dl : kitB "dict" "list" = some false := by decide +kernel
@[simp] theorem kc_ns : kitB "NoneType" "str" = some false := by decide +kernel
@[simp] theorem kc_bs : kitB "bool" "str" = some false := by decide +kernel
@[simp] theorem kc_is : kitB "int" "str" = some false := by decide +kernel
@[simp] theorem kc_ls : kitB "list" "str" = some false := by decide +kernel
@[simp] theorem kc_ts : kitB "tuple" "str" = some false := by decide +kernel
@[simp] theorem kc_ds : kitB "dict" "str" = some false := by decide +kernel
/-! ## lists of pairs of ints -/
def TupsAt (H : Hp) (ts : List Addr) (prs : List (Int × Int)) : Prop := ts.length = prs.length ∧ ∀ (k : Nat) (t : Addr) (p : Int × Int), ts[k]? = some t → prs[k]? = some p → H t = some (.tup [.int p.1, .int p.2])
theorem TupsAt.map {H H' : Hp} {ts : List Addr} {prs : List (Int × Int)} (h : TupsAt H ts prs) (e : ∀ t o, H t = some (.tup o) → H' t = some (.tup o)) : TupsAt H' ts prs := ⟨h.1, fun k t p a b => e _ _ (h.2 k t p a b)⟩
theorem TupsAt.up {H H' : Hp} {ts : List Addr} {prs : List (Int × Int)} (h : TupsAt H ts prs) (e : Ex H H') : TupsAt H' ts prs := h.map fun _ _ z => e _ _ z
theorem TupsAt.upd {H : Hp} {ts : List Addr} {prs : List (Int × Int)} {D : Addr} {xs : List V} {o : HO} (h : TupsAt H ts prs) (hD : H D = some (.lst xs)) : TupsAt (L2.upd H D o) ts prs := h.map fun t u z => by
  rw [upd_ne (ne_of z hD (by intro y; cases y))]
  exact z
theorem TupsAt.nil (H : Hp) : TupsAt H [] [] := ⟨rfl, fun k t p a b => by simp at a⟩
theorem TupsAt.snoc {H : Hp} {ts : List Addr} {prs : List (Int × Int)} {t : Addr} {p : Int × Int} (h : TupsAt H ts prs) (ht : H t = some (.tup [.int p.1, .int p.2])) : TupsAt H (ts ++ [t]) (prs ++ [p]) := by
  refine ⟨by simp [h.1], fun k t' p' a b => ?_⟩
  by_cases hk : k < ts.length
  · rw [List.getElem?_append_left hk] at a
    rw [List.getElem?_append_left (by rw [← h.1]; exact hk)] at b
    exact h.2 k t' p' a b
  · rw [List.getElem?_append_right (by omega)] at a
    rw [List.getElem?_append_right (by rw [← h.1]; omega)] at b
    have k0 : k - ts.length = 0 := by
      have := (List.getElem?_eq_some_iff.mp a).1
      simp at this; omega
    rw [k0] at a
    rw [show k - prs.length = 0 by rw [← h.1]; exact k0] at b
    simp at a b
    subst a b
    exact ht
theorem TupsAt.cons {H : Hp} {ts : List Addr} {prs : List (Int × Int)} {t : Addr} {p : Int × Int} : TupsAt H (t :: ts) (p :: prs) ↔ H t = some (.tup [.int p.1, .int p.2]) ∧ TupsAt H ts prs :=
  ⟨fun h => ⟨h.2 0 t p rfl rfl, by have := h.1; simpa using this, fun k t' p' a b => h.2 (k + 1) t' p' (by simpa using a) (by simpa using b)⟩,
    fun ⟨a, b, c⟩ => ⟨by simp [b], fun k t' p' x y => match k, x, y with
      | 0, x, y => by cases x; cases y; exact a
      | k + 1, x, y => c k t' p' (by simpa using x) (by simpa using y)⟩⟩
theorem TupsAt.app {H : Hp} {ts us : List Addr} {prs qrs : List (Int × Int)} (h : TupsAt H ts prs) (g : TupsAt H us qrs) : TupsAt H (ts ++ us) (prs ++ qrs) := by
  induction ts generalizing prs with
  | nil =>
    have : prs = [] := List.length_eq_zero_iff.mp h.1.symm
    subst this
    exact g
  | cons t ts ih =>
    cases prs with
    | nil => have := h.1; simp at this
    | cons p prs =>
      obtain ⟨a, b⟩ := TupsAt.cons.mp h
      exact TupsAt.cons.mpr ⟨a, ih b⟩
def pd (p : Int × Int) : PyData := .tuple [.int p.1, .int p.2]
theorem dpP {K : PySem.W.Frag} {H : Hp} {t : Addr} {p : Int × Int} (h : H t = some (.tup [.int p.1, .int p.2])) : Dp K H (.ref t) (pd p) := .tup (.inl (.inl h)) (.cons (.int _) (.cons (.int _) .nil))
theorem dpPs {K : PySem.W.Frag} {H : Hp} : ∀ {ts : List Addr} {prs : List (Int × Int)}, TupsAt H ts prs → DpAll K H (ts.map V.ref) (prs.map pd)
  | [], [], _ => .nil
  | [], p :: prs, h => by have := h.1; simp at this
  | t :: ts, [], h => by have := h.1; simp at this
  | t :: ts, p :: prs, h => .cons (dpP (TupsAt.cons.mp h).1) (dpPs (TupsAt.cons.mp h).2)
theorem dpL {K : PySem.W.Frag} {H : Hp} {l : Addr} {ts : List Addr} {prs : List (Int × Int)} (h : H l = some (.lst (ts.map V.ref))) (t : TupsAt H ts prs) : Dp K H (.ref l) (.list (prs.map pd)) := .lst (.inl (.inl h)) (dpPs t)
theorem pd_can (p : Int × Int) : (pd p).canLay0 = true := by simp [pd, PyData.canLay0, PyData.canLayAll0]
theorem pd_dep (p : Int × Int) : (pd p).depth = 1 := by simp [pd, PyData.depth, PyData.depthAll]
theorem pds_can : ∀ prs : List (Int × Int), PyData.canLayAll0 (prs.map pd) = true
  | [] => rfl
  | p :: prs => by simp [PyData.canLayAll0, pd_can p, pds_can prs]
theorem pds_dep : ∀ prs : List (Int × Int), PyData.depthAll (prs.map pd) ≤ 1
  | [] => by simp [PyData.depthAll]
  | p :: prs => by
    have h1 := pds_dep prs
    have h2 := pd_dep p
    simp only [List.map_cons, PyData.depthAll]
    omega
theorem pd_shaped (p : Int × Int) : SeqAt.shaped (pd p) = true := by
  show ((pd p).canLay0 && decide ((pd p).depth ≤ 64)) = true
  rw [pd_can, pd_dep]; rfl
theorem pds_shaped (prs : List (Int × Int)) : SeqAt.shaped (.list (prs.map pd)) = true := by
  have h1 := pds_dep prs
  have h2 : PyData.depth (.list (prs.map pd)) ≤ 64 := by simp only [PyData.depth]; omega
  show (PyData.canLay0 (.list (prs.map pd)) && decide (PyData.depth (.list (prs.map pd)) ≤ 64)) = true
  simp [PyData.canLay0, pds_can, h2]
theorem pd_eqv (p q : Int × Int) : PyData.eqv (pd p) (pd q) = decide (p = q) := by
  obtain ⟨a, b⟩ := p
  obtain ⟨c, d⟩ := q
  by_cases h1 : a = c <;> by_cases h2 : b = d <;> simp [pd, PyData.eqv, PyData.eqvAll, h1, h2]
theorem pds_any (prs : List (Int × Int)) (p : Int × Int) : ((prs.map pd).any fun z => PyData.eqv z (pd p)) = decide (p ∈ prs) := by
  induction prs with
  | nil => rfl
  | cons q prs ih =>
    rw [List.map_cons, List.any_cons, ih, pd_eqv]
    by_cases h : q = p
    · simp [h]
    · simp [h, Ne.symm h]
theorem pds_eqv (prs qrs : List (Int × Int)) : PyData.eqv (.list (prs.map pd)) (.list (qrs.map pd)) = decide (prs = qrs) := by
  rw [PyData.eqv]
  induction prs generalizing qrs with
  | nil =>
    cases qrs with
    | nil => simp [PyData.eqvAll]
    | cons q qrs => simp [PyData.eqvAll]
  | cons p prs ih =>
    cases qrs with
    | nil => simp [PyData.eqvAll]
    | cons q qrs =>
      rw [List.map_cons, List.map_cons, PyData.eqvAll, ih, pd_eqv]
      by_cases h : p = q <;> simp [h]
def LsP (H : Hp) (l : Addr) (prs : List (Int × Int)) : Prop := ∃ ts : List Addr, H l = some (.lst (ts.map V.ref)) ∧ TupsAt H ts prs
theorem LsP.up {H H' : Hp} {l : Addr} {prs : List (Int × Int)} (h : LsP H l prs) (e : Ex H H') : LsP H' l prs := let ⟨ts, a, b⟩ := h; ⟨ts, e _ _ a, b.up e⟩
theorem LsP.dp {K : PySem.W.Frag} {H : Hp} {l : Addr} {prs : List (Int × Int)} (h : LsP H l prs) : Dp K H (.ref l) (.list (prs.map pd)) := let ⟨_, a, b⟩ := h; dpL a b
theorem tups_uniq {H : Hp} {ts : List Addr} {prs qrs : List (Int × Int)} (h : TupsAt H ts prs) (g : TupsAt H ts qrs) : prs = qrs := by
  refine List.ext_getElem? fun k => ?_
  by_cases hk : k < ts.length
  · have a := h.2 k _ _ (List.getElem?_eq_getElem hk) (List.getElem?_eq_getElem (by rw [← h.1]; exact hk))
    have b := g.2 k _ _ (List.getElem?_eq_getElem hk) (List.getElem?_eq_getElem (by rw [← g.1]; exact hk))
    rw [a] at b
    rw [List.getElem?_eq_getElem (by rw [← h.1]; exact hk), List.getElem?_eq_getElem (by rw [← g.1]; exact hk)]
    have e := HO.tup.inj (Option.some.inj b)
    simp at e
    exact congrArg some (Prod.ext e.1 e.2)
  · rw [List.getElem?_eq_none (by rw [← h.1]; omega), List.getElem?_eq_none (by rw [← g.1]; omega)]
theorem LsP.uniq {H : Hp} {l : Addr} {prs qrs : List (Int × Int)} (h : LsP H l prs) (g : LsP H l qrs) : qrs = prs := by
  obtain ⟨ts, a, b⟩ := h
  obtain ⟨us, c, d⟩ := g
  rw [a] at c
  have e : ts = us := (List.map_inj_right (fun x y h => by cases h; rfl)).mp (HO.lst.inj (Option.some.inj c))
  subst e
  exact tups_uniq d b
theorem lsP_ex {H : Hp} {l : Addr} {prs : List (Int × Int)} {R : List (Int × Int) → Prop} (h : LsP H l prs) : (∃ qrs, LsP H l qrs ∧ R qrs) ↔ R prs := ⟨fun ⟨_, a, b⟩ => by rw [← h.uniq a]; exact b, fun r => ⟨prs, h, r⟩⟩
def PrA (H : Hp) (t : Addr) (p : Int × Int) : Prop := H t = some (.tup [.int p.1, .int p.2])
theorem PrA.of {H : Hp} {t : Addr} {a b : Int} (h : H t = some (.tup [.int a, .int b])) : PrA H t (a, b) := h
theorem prA_ex {H : Hp} {t : Addr} {p : Int × Int} {R : Int × Int → Prop} (h : PrA H t p) : (∃ q, PrA H t q ∧ R q) ↔ R p := ⟨fun ⟨q, a, b⟩ => by
  unfold PrA at h a
  rw [h] at a
  have e := HO.tup.inj (Option.some.inj a)
  simp at e
  have : p = q := Prod.ext e.1 e.2
  rw [this]; exact b, fun r => ⟨p, h, r⟩⟩
section
variable {X : Cx}
def jInP : R2 := fun x y H Q => ∃ t l, x = .ref t ∧ y = .ref l ∧ ∃ p, PrA H t p ∧ ∃ prs, LsP H l prs ∧ Q (.bl (decide (p ∈ prs))) H
def jNotInP : R2 := fun x y H Q => ∃ t l, x = .ref t ∧ y = .ref l ∧ ∃ p, PrA H t p ∧ ∃ prs, LsP H l prs ∧ Q (.bl (!decide (p ∈ prs))) H
def jEqP : R2 := fun x y H Q => ∃ t l, x = .ref t ∧ y = .ref l ∧ ∃ prs, LsP H t prs ∧ ∃ qrs, LsP H l qrs ∧ Q (.bl (decide (prs = qrs))) H
def jNeP : R2 := fun x y H Q => ∃ t l, x = .ref t ∧ y = .ref l ∧ ∃ prs, LsP H t prs ∧ ∃ qrs, LsP H l qrs ∧ Q (.bl (!decide (prs = qrs))) H
theorem op_inP (hu : X.A.units + 65 < cLine) : OpR X (compareOp .In) jInP := opBy (op_inD hu) fun x y H Q ⟨t, l, e1, e2, p, h1, prs, h2, q⟩ => ⟨pd p, prs.map pd, by rw [e1]; exact dpP h1, by rw [e2]; exact h2.dp, pd_shaped p, pds_shaped prs, by rw [pds_any]; exact q⟩
theorem op_notInP (hu : X.A.units + 65 < cLine) : OpR X (compareOp .NotIn) jNotInP := opBy (op_notInD hu) fun x y H Q ⟨t, l, e1, e2, p, h1, prs, h2, q⟩ => ⟨pd p, prs.map pd, by rw [e1]; exact dpP h1, by rw [e2]; exact h2.dp, pd_shaped p, pds_shaped prs, by rw [pds_any]; exact q⟩
theorem op_eqP (hu : X.A.units + 64 < cLine) : OpR X (compareOp .Eq) jEqP := opBy (op_eqD hu) fun x y H Q ⟨t, l, e1, e2, prs, h1, qrs, h2, q⟩ => ⟨_, _, by rw [e1]; exact h1.dp, by rw [e2]; exact h2.dp, pds_shaped prs, pds_shaped qrs, by rw [pds_eqv]; exact q⟩
theorem op_neP (hu : X.A.units + 64 < cLine) : OpR X (compareOp .NotEq) jNeP := opBy (op_neD hu) fun x y H Q ⟨t, l, e1, e2, prs, h1, qrs, h2, q⟩ => ⟨_, _, by rw [e1]; exact h1.dp, by rw [e2]; exact h2.dp, pds_shaped prs, pds_shaped qrs, by rw [pds_eqv]; exact q⟩
@[simp] theorem j_inP {t l : Addr} {H : Hp} {Q : VK} : jInP (.ref t) (.ref l) H Q = ∃ p, PrA H t p ∧ ∃ prs, LsP H l prs ∧ Q (.bl (decide (p ∈ prs))) H := by simp [jInP]
@[simp] theorem j_notInP {t l : Addr} {H : Hp} {Q : VK} : jNotInP (.ref t) (.ref l) H Q = ∃ p, PrA H t p ∧ ∃ prs, LsP H l prs ∧ Q (.bl (!decide (p ∈ prs))) H := by simp [jNotInP]
@[simp] theorem j_eqP {t l : Addr} {H : Hp} {Q : VK} : jEqP (.ref t) (.ref l) H Q = ∃ prs, LsP H t prs ∧ ∃ qrs, LsP H l qrs ∧ Q (.bl (decide (prs = qrs))) H := by simp [jEqP]
@[simp] theorem j_neP {t l : Addr} {H : Hp} {Q : VK} : jNeP (.ref t) (.ref l) H Q = ∃ prs, LsP H t prs ∧ ∃ qrs, LsP H l qrs ∧ Q (.bl (!decide (prs = qrs))) H := by simp [jNeP]
/-! lists of ints -/
def LsI (H : Hp) (l : Addr) (ns : List Int) : Prop := H l = some (.lst (ns.map V.int))
theorem LsI.uniq {H : Hp} {l : Addr} {ns ms : List Int} (h : LsI H l ns) (g : LsI H l ms) : ms = ns := by
  unfold LsI at h g
  rw [h] at g
  exact ((List.map_inj_right (fun x y h => by cases h; rfl)).mp (HO.lst.inj (Option.some.inj g))).symm
theorem lsI_ex {H : Hp} {l : Addr} {ns : List Int} {R : List Int → Prop} (h : LsI H l ns) : (∃ ms, LsI H l ms ∧ R ms) ↔ R ns := ⟨fun ⟨_, a, b⟩ => by rw [← h.uniq a]; exact b, fun r => ⟨ns, h, r⟩⟩
theorem dpIs {K : PySem.W.Frag} {H : Hp} : ∀ ns : List Int, DpAll K H (ns.map V.int) (ns.map PyData.int)
  | [] => .nil
  | n :: ns => .cons (.int n) (dpIs ns)
theorem dpI {K : PySem.W.Frag} {H : Hp} {l : Addr} {ns : List Int} (h : LsI H l ns) : Dp K H (.ref l) (.list (ns.map .int)) := .lst (.inl (.inl h)) (dpIs ns)
theorem is_can : ∀ ns : List Int, PyData.canLayAll0 (ns.map PyData.int) = true
  | [] => rfl
  | n :: ns => by simp [PyData.canLayAll0, PyData.canLay0, is_can ns]
theorem is_dep : ∀ ns : List Int, PyData.depthAll (ns.map PyData.int) = 0
  | [] => rfl
  | n :: ns => by simp [PyData.depthAll, PyData.depth, is_dep ns]
theorem is_shaped (ns : List Int) : SeqAt.shaped (.list (ns.map PyData.int)) = true := by
  show (PyData.canLay0 (.list (ns.map PyData.int)) && decide (PyData.depth (.list (ns.map PyData.int)) ≤ 64)) = true
  simp [PyData.canLay0, is_can, PyData.depth, is_dep]
theorem is_eqv (ns ms : List Int) : PyData.eqv (.list (ns.map PyData.int)) (.list (ms.map PyData.int)) = decide (ns = ms) := by
  rw [PyData.eqv]
  induction ns generalizing ms with
  | nil => cases ms <;> simp [PyData.eqvAll]
  | cons n ns ih =>
    cases ms with
    | nil => simp [PyData.eqvAll]
    | cons m ms =>
      rw [List.map_cons, List.map_cons, PyData.eqvAll, ih]
      by_cases h : n = m <;> simp [PyData.eqv, h]
def jEqI : R2 := fun x y H Q => ∃ t l, x = .ref t ∧ y = .ref l ∧ ∃ prs, LsI H t prs ∧ ∃ qrs, LsI H l qrs ∧ Q (.bl (decide (prs = qrs))) H
def jNeI : R2 := fun x y H Q => ∃ t l, x = .ref t ∧ y = .ref l ∧ ∃ prs, LsI H t prs ∧ ∃ qrs, LsI H l qrs ∧ Q (.bl (!decide (prs = qrs))) H
theorem op_eqI (hu : X.A.units + 64 < cLine) : OpR X (compareOp .Eq) jEqI := opBy (op_eqD hu) fun x y H Q ⟨t, l, e1, e2, prs, h1, qrs, h2, q⟩ => ⟨_, _, by rw [e1]; exact dpI h1, by rw [e2]; exact dpI h2, is_shaped prs, is_shaped qrs, by rw [is_eqv]; exact q⟩
theorem op_neI (hu : X.A.units + 64 < cLine) : OpR X (compareOp .NotEq) jNeI := opBy (op_neD hu) fun x y H Q ⟨t, l, e1, e2, prs, h1, qrs, h2, q⟩ => ⟨_, _, by rw [e1]; exact dpI h1, by rw [e2]; exact dpI h2, is_shaped prs, is_shaped qrs, by rw [is_eqv]; exact q⟩
@[simp] theorem j_eqI {t l : Addr} {H : Hp} {Q : VK} : jEqI (.ref t) (.ref l) H Q = ∃ prs, LsI H t prs ∧ ∃ qrs, LsI H l qrs ∧ Q (.bl (decide (prs = qrs))) H := by simp [jEqI]
@[simp] theorem j_neI {t l : Addr} {H : Hp} {Q : VK} : jNeI (.ref t) (.ref l) H Q = ∃ prs, LsI H t prs ∧ ∃ qrs, LsI H l qrs ∧ Q (.bl (!decide (prs = qrs))) H := by simp [jNeI]
/-! sorted(xs), xs a list of pairs -/
def pOf (H : Hp) : V → Int × Int
  | .ref q => match H q with
    | some (.tup [.int i, .int j]) => (i, j)
    | _ => (0, 0)
  | _ => (0, 0)
theorem pOf_at {H : Hp} {t : Addr} {p : Int × Int} (h : H t = some (.tup [.int p.1, .int p.2])) : pOf H (.ref t) = p := by simp [pOf, h]
theorem pOf_map {H : Hp} : ∀ {ts : List Addr} {prs : List (Int × Int)}, TupsAt H ts prs → (ts.map V.ref).map (pOf H) = prs
  | [], [], _ => rfl
  | [], p :: prs, h => by have := h.1; simp at this
  | t :: ts, [], h => by have := h.1; simp at this
  | t :: ts, p :: prs, h => by
    rw [List.map_cons, List.map_cons, pOf_at (TupsAt.cons.mp h).1, pOf_map (TupsAt.cons.mp h).2]
theorem tups_of {H : Hp} : ∀ {ts : List Addr}, (∀ t ∈ ts, H t = some (.tup [.int (pOf H (.ref t)).1, .int (pOf H (.ref t)).2])) → TupsAt H ts ((ts.map V.ref).map (pOf H))
  | [], _ => TupsAt.nil H
  | t :: ts, h => TupsAt.cons.mpr ⟨h t (by simp), tups_of fun u hu => h u (by simp [hu])⟩
def jSortP : List V → Hp → VK → Prop := fun vs H Q => ∃ l, vs = [.ref l] ∧ ∃ prs, LsP H l prs ∧ ∀ qrs D H', qrs.Perm prs → qrs.Pairwise lexLe → H D = none → Ex H H' → LsP H' D qrs → Q (.ref D) H'
@[simp] theorem j_sortP {l : Addr} {H : Hp} {Q : VK} : jSortP [.ref l] H Q = ∃ prs, LsP H l prs ∧ ∀ qrs D H', qrs.Perm prs → qrs.Pairwise lexLe → H D = none → Ex H H' → LsP H' D qrs → Q (.ref D) H' := by simp [jSortP]
theorem tup_at {H : Hp} {ts : List Addr} {prs : List (Int × Int)} (h : TupsAt H ts prs) {x : V} (hx : x ∈ ts.map V.ref) : ∃ t, x = .ref t ∧ t ∈ ts ∧ H t = some (.tup [.int (pOf H x).1, .int (pOf H x).2]) := by
  obtain ⟨t, ht, rfl⟩ := List.mem_map.mp hx
  obtain ⟨k, hk, e⟩ := List.mem_iff_getElem.mp ht
  have hk' : k < prs.length := by rw [← h.1]; exact hk
  have z := h.2 k t prs[k] (by rw [List.getElem?_eq_getElem hk, e]) (List.getElem?_eq_getElem hk')
  exact ⟨t, rfl, ht, by rw [pOf_at z]; exact z⟩
theorem call_sortP : CallR X (.builtin "sorted") jSortP := callBy cr_sortedPO fun vs H Q ⟨l, e, prs, ⟨ts, h1, h2⟩, q⟩ => by
  refine ⟨l, ts.map V.ref, pOf H, e, .inl (.inl h1), fun x hx => ?_, fun ys D s1 s2 hD => ?_⟩
  · obtain ⟨t, a, _, b⟩ := tup_at h2 hx
    exact ⟨t, a, b⟩
  · have hall : ∀ y ∈ ys, ∃ t, y = V.ref t ∧ t ∈ ts ∧ H t = some (.tup [.int (pOf H y).1, .int (pOf H y).2]) := fun y hy => tup_at h2 (s2.perm.mem_iff.mp hy)
    let adr : V → Addr := fun v => match v with | .ref t => t | _ => 0
    have ey : ys = (ys.map adr).map V.ref := by
      rw [List.map_map]
      refine List.ext_getElem (by simp) fun i h1 h2 => ?_
      obtain ⟨t, a, _⟩ := hall ys[i] (List.getElem_mem h1)
      simp [a, adr]
    have ex : Ex H (L2.upd H D (.lst ys)) := Ex.new hD
    refine q (ys.map (pOf H)) D _ ?_ ?_ hD ex ⟨ys.map adr, by rw [← ey]; exact upd_same, ?_⟩
    · rw [← pOf_map h2]
      exact s2.perm.map _
    · rw [List.pairwise_map]
      refine List.Pairwise.imp ?_ s1
      intro a b hab
      have z := SrtO.lexB_no.mp hab
      unfold lexLe
      omega
    · have h3 : TupsAt H (ys.map adr) (((ys.map adr).map V.ref).map (pOf H)) := tups_of fun t ht => by
        obtain ⟨y, hy, rfl⟩ := List.mem_map.mp ht
        obtain ⟨t, rfl, _, b⟩ := hall y hy
        exact b
      rw [← ey] at h3
      exact h3.up ex
/-! list(range(n)), l.pop(i), l.clear(), slices -/
def jLstR (ta : TE) : TE := fun σ H Q => ta σ H fun x H1 => ∃ n : Nat, x = .int n ∧ n ≤ 10000 ∧ ∀ q H2, H1 q = none → Ex H1 H2 → LsI H2 q ((List.range n).map fun (i : Nat) => (i : Int)) → Q (.ref q) H2
@[simp] theorem j_lstR {ta : TE} {σ : L2.St} {H : Hp} {Q : VK} : jLstR ta σ H Q = ta σ H fun x H1 => ∃ n : Nat, x = .int n ∧ n ≤ 10000 ∧ ∀ q H2, H1 q = none → Ex H1 H2 → LsI H2 q ((List.range n).map fun (i : Nat) => (i : Int)) → Q (.ref q) H2 := rfl
theorem pe_lstR {e : Expr} {ta : TE} {p pos p2 pos2 : Pos} (hc : X.calm = true) (hg : Gl X "list") (hm : X.mg "list" = none) (hg2 : Gl X "range") (hm2 : X.mg "range" = none) (he : PE X e ta) (na : starEach [e] X.env = (false, eval e X.env) :: starEach [] X.env := by rfl)
    (nb : starEach [.Call (.Name "range" p2) [e] [] pos2] X.env = (false, eval (.Call (.Name "range" p2) [e] [] pos2) X.env) :: starEach [] X.env := by rfl) : PE X (.Call (.Name "list" p) [.Call (.Name "range" p2) [e] [] pos2] [] pos) (jLstR ta) :=
  (pe_listRg hc hg hm (prg_1 hg2 hm2 he.cl na) nb).by fun σ H Q q => ⟨_, q, fun x H1 ⟨n, e, hn, k⟩ => by
    refine ⟨n, e, RgOk.of_le (by omega) (by omega) (by omega) (by omega), fun z hz => k z _ hz (Ex.new hz) ?_⟩
    unfold LsI
    rw [upd_same]
    unfold rgV
    rw [List.map_map, show ((n : Int) - 0).toNat = n by omega]
    congr 2
    refine List.map_congr_left fun i _ => ?_
    show V.int (0 + (i : Int)) = V.int i
    rw [Int.zero_add]⟩
def jPopA : V → List V → Hp → VK → Prop := fun x vs H Q => ∃ l i xs y, x = .ref l ∧ vs = [.int i] ∧ H l = some (.lst xs) ∧ 0 ≤ i ∧ xs[i.toNat]? = some y ∧ xs.length ≤ 100000 ∧ Q y (L2.upd H l (.lst (xs.eraseIdx i.toNat)))
@[simp] theorem j_popA {l : Addr} {i : Int} {H : Hp} {Q : VK} : jPopA (.ref l) [.int i] H Q = ∃ xs y, H l = some (.lst xs) ∧ 0 ≤ i ∧ xs[i.toNat]? = some y ∧ xs.length ≤ 100000 ∧ Q y (L2.upd H l (.lst (xs.eraseIdx i.toNat))) := by simp [jPopA]
theorem mt_popA : MtM X "list.pop" jPopA := fun pins s σ H x vs v us Q I rx rv ⟨l, i, xs, y, e1, e2, h, h0, hy, hl, q⟩ => mt_popAt pins s σ H x vs v us Q I rx rv (by
  have hlt : i.toNat < xs.length := (List.getElem?_eq_some_iff.mp hy).1
  have hi : i < (xs.length : Int) := by omega
  refine ⟨l, xs, i, i.toNat, y, e1, e2, h, by omega, by omega, ?_, hy, q⟩
  simp [seqIndex?, show ¬ i < 0 by omega, h0, hi])
@[simp] theorem j_clear {l : Addr} {H : Hp} {Q : VK} : rClear (.ref l) [] H Q = ∃ xs, H l = some (.lst xs) ∧ Q .non (L2.upd H l (.lst [])) := by simp [rClear]
def loN : Option Int → Nat
  | some i => i.toNat
  | none => 0
def hiT (xs : List V) : Option Int → List V
  | some i => xs.take i.toNat
  | none => xs
@[simp] theorem loN_some (i : Int) : loN (some i) = i.toNat := rfl
@[simp] theorem loN_none : loN none = 0 := rfl
@[simp] theorem hiT_some (xs : List V) (i : Int) : hiT xs (some i) = xs.take i.toNat := rfl
@[simp] theorem hiT_none (xs : List V) : hiT xs none = xs := rfl
/-- xs[lo:hi], its bounds whole numbers from 0 on or none -/
def jSlL : V → Option Int → Option Int → Hp → VK → Prop := fun x lo hi H Q => ∃ a xs, x = .ref a ∧ H a = some (.lst xs) ∧ (∀ i, lo = some i → 0 ≤ i) ∧ (∀ i, hi = some i → 0 ≤ i) ∧
  ∀ p H2, H p = none → Ex H H2 → H2 p = some (.lst ((hiT xs hi).drop (loN lo))) → Q (.ref p) H2
@[simp] theorem j_slL {a : Addr} {lo hi : Option Int} {H : Hp} {Q : VK} : jSlL (.ref a) lo hi H Q = ∃ xs, H a = some (.lst xs) ∧ (∀ i, lo = some i → 0 ≤ i) ∧ (∀ i, hi = some i → 0 ≤ i) ∧
  ∀ p H2, H p = none → Ex H H2 → H2 p = some (.lst ((hiT xs hi).drop (loN lo))) → Q (.ref p) H2 := by simp [jSlL]
theorem cut_eq (xs : List V) (lo hi : Option Int) (h1 : ∀ i, lo = some i → 0 ≤ i) (h2 : ∀ i, hi = some i → 0 ≤ i) : cutV xs lo hi = (hiT xs hi).drop (loN lo) := by
  unfold cutV HT.sIx
  cases lo with
  | none =>
    cases hi with
    | none => simp
    | some j =>
      have := h2 j rfl
      simp only
      rw [if_neg (by omega)]
      simp
  | some i =>
    have a := h1 i rfl
    cases hi with
    | none =>
      simp only [loN_some, hiT_none]
      rw [if_neg (by omega)]
      by_cases h : i.toNat ≤ xs.length
      · rw [Nat.min_eq_left h, ← List.length_drop, List.take_length]
      · rw [Nat.min_eq_right (by omega), Nat.sub_self, List.take_zero, List.drop_eq_nil_of_le (by omega)]
    | some j =>
      have b := h2 j rfl
      simp only [loN_some, hiT_some]
      rw [if_neg (by omega), if_neg (by omega)]
      by_cases h : i.toNat ≤ xs.length
      · rw [Nat.min_eq_left h, List.drop_take]
        by_cases g : j.toNat ≤ xs.length
        · rw [Nat.min_eq_left g]
        · rw [Nat.min_eq_right (by omega), List.take_of_length_le (by rw [List.length_drop]; exact Nat.le_refl _), List.take_of_length_le (by rw [List.length_drop]; omega)]
      · rw [show min i.toNat xs.length = xs.length by omega, List.drop_eq_nil_of_le (Nat.le_refl _), List.take_nil, List.drop_eq_nil_of_le]
        rw [List.length_take]; omega
theorem sl_lstJ : SlR X jSlL := fun pins s σ H x v vl vu lo hi sl Q I rx hs pl pu ⟨a, xs, e, h, h1, h2, k⟩ => sl_list pins s σ H x v vl vu lo hi sl Q I rx hs pl pu ⟨a, xs, e, .inl (.inl h), fun p hp => by
  have z := k p (L2.upd H p (.lst (cutV xs lo hi))) hp (Ex.new hp) (by rw [upd_same, cut_eq xs lo hi h1 h2])
  exact z⟩
def jSlice (te : TE) (tl th : TO) : TE := tSl jSlL te tl th
@[simp] theorem j_slice {te : TE} {tl th : TO} {σ : L2.St} {H : Hp} {Q : VK} : tSl jSlL te tl th σ H Q = te σ H fun x H1 => tl σ H1 fun l H2 => th σ H2 fun u H3 => jSlL x l u H3 Q := rfl
@[simp] theorem j_noPart {σ : L2.St} {H : Hp} {Q : Option Int → Hp → Prop} : tNoPart σ H Q = Q none H := rfl
@[simp] theorem j_part {t : TE} {σ : L2.St} {H : Hp} {Q : Option Int → Hp → Prop} : tPart t σ H Q = t σ H fun x H1 => ∃ i, x = .int i ∧ Q (some i) H1 := rfl
end
theorem _root_.L2.Room.u65 {A : Around} {k : Nat} (hr : Room k A) : A.units + 65 < cLine := by have := hr.un; omega
end Jk

namespace Jk
open PySem PySem.Spec PyProof.Rows L2 Evl
/-! ## len(set(xs)), xs a list of ints, some of them alike perhaps -/
theorem met_len (f : Nat → Int) : ∀ n : Nat, (PyProof.Rows.firstMet f n).length ≤ n ∧ (¬ ((List.range n).map f).Nodup → (PyProof.Rows.firstMet f n).length < n) ∧ (((List.range n).map f).Nodup → (PyProof.Rows.firstMet f n).length = n)
  | 0 => ⟨Nat.le_refl _, fun h => absurd List.nodup_nil h, fun _ => rfl⟩
  | n + 1 => by
    obtain ⟨i1, i2, i3⟩ := met_len f n
    have hd : ((List.range (n + 1)).map f).Nodup ↔ ((List.range n).map f).Nodup ∧ ¬ f n ∈ (List.range n).map f := by
      rw [List.range_succ, List.map_append]
      show ((List.range n).map f ++ [f n]).Nodup ↔ _
      rw [List.nodup_append]
      constructor
      · rintro ⟨a, _, c⟩
        exact ⟨a, fun z => c _ z _ (by simp) rfl⟩
      · rintro ⟨a, b⟩
        exact ⟨a, by simp, fun x hx y hy e => b (by simp at hy; rw [← hy, ← e]; exact hx)⟩
    have ha : (PyProof.Rows.firstMet f n).any (· == f n) = decide (f n ∈ (List.range n).map f) := by
      rw [PyProof.Rows.firstMet_any]
      rw [Bool.eq_iff_iff]
      rw [List.any_eq_true, decide_eq_true_iff]
      constructor
      · rintro ⟨x, hx, e⟩
        rw [← eq_of_beq e]; exact hx
      · exact fun h => ⟨_, h, beq_self_eq_true _⟩
    rw [PyProof.Rows.firstMet_succ]
    unfold PyProof.Rows.step_dedup
    rw [ha]
    by_cases hm : f n ∈ (List.range n).map f
    · rw [if_pos (decide_eq_true hm)]
      exact ⟨by omega, fun _ => by omega, fun z => absurd hm (hd.mp z).2⟩
    · rw [if_neg (by simp only [decide_eq_true_eq]; exact hm), List.length_append]
      refine ⟨by simp; omega, fun z => ?_, fun z => ?_⟩
      · have : ¬ ((List.range n).map f).Nodup := fun y => z (hd.mpr ⟨y, hm⟩)
        have := i2 this
        simp; omega
      · have := i3 (hd.mp z).1
        simp; omega
theorem met_list (ns : List Int) : (List.range ns.length).map (fun i => ns.getD i 0) = ns := by
  refine List.ext_getElem (by simp) fun i h1 h2 => ?_
  rw [List.getElem_map, List.getElem_range, List.getD_eq_getElem?_getD, List.getElem?_eq_getElem h2]
  rfl
def jLenSet (ta : TE) : TE := fun σ H Q => ta σ H fun x H1 => ∃ (l : Addr), x = .ref l ∧ ∃ (ns : List Int), LsI H1 l ns ∧ ns.length ≤ 1000 ∧ ∀ m : Nat, (m = ns.length ↔ ns.Nodup) → Q (.int m) H1
@[simp] theorem j_lenSet {ta : TE} {σ : L2.St} {H : Hp} {Q : VK} : jLenSet ta σ H Q = ta σ H fun x H1 => ∃ (l : Addr), x = .ref l ∧ ∃ (ns : List Int), LsI H1 l ns ∧ ns.length ≤ 1000 ∧ ∀ m : Nat, (m = ns.length ↔ ns.Nodup) → Q (.int m) H1 := rfl
theorem pe_lenSetJ {X : Cx} {a : Expr} {ta : TE} {p p2 pos pos2 : Pos} (hc : X.calm = true) (g1 : Gl X "len") (m1 : X.mg "len" = none) (g2 : Gl X "set") (m2 : X.mg "set" = none) (ha : PE X a ta)
    (na : starEach [a] X.env = (false, eval a X.env) :: starEach [] X.env := by rfl) : PE X (.Call (.Name "len" p) [.Call (.Name "set" p2) [a] [] pos2] [] pos) (jLenSet ta) := by
  refine ⟨fun pins s σ H Q I h => Call_ (ld_blt I g1 m1 PySem.boot_len (PyProof.Rows.callWith_builtin1 (PyProof.Rows.args_cons (Call_ (ld_blt I g2 m2 PyProof.Rows.boot_set ?_)) rfl) rfl rfl))⟩
  refine PyProof.Rows.callWith_type1 (PyProof.Rows.args_cons (thn (ha.run pins s σ H _ I h) ?_) na) na rfl
  rintro v s1 ⟨x, H1, I1, r1, l, rfl, ns, hq, hlen, q1⟩
  refine PyProof.Rows.args_nil ?_
  cases r1
  obtain ⟨its, r, pl, hz⟩ := I1.list (.inl (.inl hq))
  have en : its.toArray.size = ns.length := by simpa using r.length.symm
  refine call_set_list (I1.ok.hd hc) pl.isList (ns := ns) (by simpa using r.ints) (by unfold scanBound; omega) fun h2 tk hS hk => PyProof.Rows.args_nil ?_
  rw [en] at hS
  obtain ⟨o, es, ep, t, ho, hex, hd, _, _, _, hf, hn⟩ := hS
  obtain ⟨k1, k2, k3⟩ := met_len (fun i => ns.getD i 0) ns.length
  rw [met_list] at k2 k3
  have J : Inv X pins σ H1 { s1 with heap := h2, toks := tk } := I1.kept fun b o e => hk b o (Heap.lt_size e) e
  refine call_len_set ho hex hd hf (by rw [hn]; omega) ⟨.int (PyProof.Rows.firstMet (fun i => ns.getD i 0) ns.length).length, H1, J.tok _, ⟨_, by rw [hn]⟩, q1 _ ⟨fun e => ?_, k3⟩⟩
  by_cases hh : ns.Nodup
  · exact hh
  · have := k2 hh; omega
theorem erase_perm {α : Type} : ∀ (l : List α) (i : Nat) (x : α), l[i]? = some x → (x :: l.eraseIdx i).Perm l
  | [], i, x, h => by simp at h
  | a :: l, 0, x, h => by
    simp at h
    subst h
    exact List.Perm.refl _
  | a :: l, i + 1, x, h => (List.Perm.swap a x _).trans ((erase_perm l i x (by simpa using h)).cons a)
/-! isinstance(x, C), x an object made by C -/
structure IsC (K : PySem.W.Frag) (C : Addr) : Prop where
  ha : PySem.W.findIn K (.ref C) "__class__" = some (some (.builtin "object.__class__"))
  hn : PySem.W.specialIn K (.builtin "object.__class__") "__get__" = some (some (.builtin "getset_descriptor.__get__"))
  ht : PySem.W.takesIn K (.builtin "object.__class__") = some true
  hm : PySem.W.mroIn K C (.type "object") = some true
def jIsC (K : PySem.W.Frag) : List V → Hp → VK → Prop := fun xs H Q => ∃ a C, xs = [.ref a, .ref C] ∧ (∃ dx fs, H a = some (.ins C dx fs)) ∧ Cls K C ∧ IsC K C ∧ Q (.bl true) H
@[simp] theorem j_isC {K : PySem.W.Frag} {a C : Addr} {H : Hp} {Q : VK} : jIsC K [.ref a, .ref C] H Q = ((∃ dx fs, H a = some (.ins C dx fs)) ∧ Cls K C ∧ IsC K C ∧ Q (.bl true) H) := propext ⟨fun ⟨_, _, e, r⟩ => by cases e; exact r, fun r => ⟨_, _, rfl, r⟩⟩
theorem call_isC {X : Cx} {K0 : PySem.W.Frag} (hK : X.K = K0 := by rfl) : CallR X (.builtin "isinstance") (jIsC K0) := by
  subst hK
  exact callBy call_isi fun xs H Q ⟨a, C, e, ⟨dx, fs, h⟩, cl, ic, q⟩ => ⟨.ref a, .ref C, .ref C, .ref C, true, e, .own C, .base (.ins h cl ic.ha ic.hn ic.ht ic.hm), if_pos (beq_self_eq_true _), q⟩
@[simp] theorem j_callS {sp : Sp} {E : L2.St → XK} {tr : TA} {σ : L2.St} {H : Hp} {Q : VK} : tCallS sp E tr σ H Q = tr σ H fun vs H1 => sp vs H1 Q (E σ) := rfl
@[simp] theorem j_cat {l b : Addr} {H : Hp} {Q : VK} : jCat (.ref l) (.ref b) H Q = ∃ xs, H l = some (.lst xs) ∧ ∃ zs, H b = some (.lst zs) ∧ xs.length + zs.length ≤ 100000 ∧ ∀ p H2, H p = none → Ex H H2 → H2 p = some (.lst (xs ++ zs)) → Q (.ref p) H2 := by
  unfold jCat
  refine propext ⟨fun ⟨l', b', xs, zs, e1, e2, h1, h2, h3, k⟩ => ?_, fun ⟨xs, h1, zs, h2, h3, k⟩ => ⟨l, b, xs, zs, rfl, rfl, h1, h2, h3, k⟩⟩
  cases e1
  cases e2
  exact ⟨xs, h1, zs, h2, h3, k⟩
def jTupL : List V → Hp → VK → Prop := fun vs H Q => ∃ p, vs = [.ref p] ∧ ∃ xs, H p = some (.lst xs) ∧ ∀ l H2, H l = none → Ex H H2 → H2 l = some (.tup xs) → Q (.ref l) H2
@[simp] theorem j_tupL {p : Addr} {H : Hp} {Q : VK} : jTupL [.ref p] H Q = ∃ xs, H p = some (.lst xs) ∧ ∀ l H2, H l = none → Ex H H2 → H2 l = some (.tup xs) → Q (.ref l) H2 := by simp [jTupL]
theorem call_tupJ {X : Cx} : CallR X (.type "tuple") jTupL := callBy call_tuple_of fun vs H Q ⟨p, e, xs, h, q⟩ => ⟨p, xs, e, .inl ⟨.inl (.inl h), fun l hl => q l _ hl (Ex.new hl) upd_same⟩⟩
@[simp] theorem j_list {p : Addr} {H : Hp} {Q : VK} {xs : List V} : (jList [.ref p] H Q ∧ H p = some (.lst xs)) = ((∀ l H2, H l = none → Ex H H2 → H2 l = some (.lst xs) → Q (.ref l) H2) ∧ H p = some (.lst xs)) := by
  unfold jList
  refine propext ⟨fun ⟨⟨p', ys, e, h, q⟩, h'⟩ => ?_, fun ⟨q, h'⟩ => ⟨⟨p, xs, rfl, .inl h', q⟩, h'⟩⟩
  cases e
  rcases h with h | h
  · rw [h'] at h
    cases h
    exact ⟨q, h'⟩
  · rw [h'] at h
    cases h
end Jk

namespace Jk
open PySem PySem.Spec PySem.Calls PyProof.Rows L2 Evl
/-! ## sorted(xs, key=f), f a def of the program: a new list, sorted by whole numbers -/
/-- two raw objects of ours have changed, and one of them is tracked from now on -/
theorem inv_take2 {X : Cx} {pins : List (Addr × Obj)} {σ : L2.St} {H : Hp} {s : Shared} {h2 : Heap} {tk : Nat} {a b : Addr} {o : HO} (I : L2.Inv X pins σ H s) (k : ∀ c ob, c ≠ a → c ≠ b → s.heap.get? c = some ob → h2.get? c = some ob)
    (fa : FpOk X pins H a) (fb : FpOk X pins H b) (new : ObjOk X.prog X.w (upd H a o) h2 a o) : L2.Inv X pins σ (upd H a o) { s with heap := h2, toks := tk } := by
  obtain ⟨an, aL, _, a1, a2, a3⟩ := fa
  obtain ⟨bn, bL, _, b1, b2, b3⟩ := fb
  have na : ∀ c u, H c = some u → c ≠ a := fun c u e z => by rw [z, an] at e; cases e
  have nb : ∀ c u, H c = some u → c ≠ b := fun c u e z => by rw [z, bn] at e; cases e
  have up : ∀ c u, H c = some u → upd H a o c = some u := fun c u e => by rw [upd_ne (na c u e)]; exact e
  refine I.step (g' := s.gens) (d' := s.drawn) (ch := [a, b]) (fun c hc => ?_) (fun c ob _ _ hc e _ => ?_) (fun c ob _ _ hc e _ => ?_) (fun c ob hc _ n => ?_) (fun c ob hc e => ?_) (fun c _ e => up c _ e) (fun c _ _ e => up c _ e) (fun c ps e => ⟨#[], by rw [up c _ e]; simp⟩) (fun m hm => ?_) (fun c u e => ?_) I.bare
  · rcases List.mem_cons.mp hc with rfl | hc
    · exact ⟨a1, aL, a2, a3⟩
    · rw [List.mem_singleton.mp hc]
      exact ⟨b1, bL, b2, b3⟩
  · exact k c ob (fun z => hc (by simp [z])) (fun z => hc (by simp [z])) e
  · exact ⟨ob.slots, k c ob (fun z => hc (by simp [z])) (fun z => hc (by simp [z])) e⟩
  · rw [upd_ne (fun z => hc (by simp [z]))]; exact n
  · exact ⟨ob, k c ob (fun z => hc (by simp [z])) (fun z => hc (by simp [z])) e⟩
  · obtain ⟨ob, es, ep, ho, r⟩ := hm
    exact ⟨ob, es, ep, k _ ob (Ne.symm aL) (Ne.symm bL) ho, r⟩
  · by_cases hc : c = a
    · rw [hc, upd_same] at e
      cases e
      rw [hc]
      exact new
    · rw [upd_ne hc] at e
      refine (I.hok c u e).stay (fun d v hd q => ?_) (fun d q => up d _ q) fun d _ q => up d _ q
      rcases hd with z | z
      · rw [z] at q ⊢
        exact k c v hc (nb c u e) q
      · exact k d v (na d _ z) (nb d _ z) q
theorem fp_frs {X : Cx} {pins : List (Addr × Obj)} {σ : L2.St} {H : Hp} {s : Shared} (I : L2.Inv X pins σ H s) {b : Addr} (f : FpOk X pins H b) : b ∉ frs X.stack := by
  obtain ⟨_, f1, f2, _⟩ := f
  rcases I.ok.stk with e | ⟨e, e2⟩
  · rw [e]; exact f2
  · rw [e]
    intro hb
    have f2 : b ∉ frs X.outer := f2
    unfold frs at hb f2
    rw [List.filterMap_cons, e2] at hb
    rcases List.mem_cons.mp hb with z | z
    · exact f1 z
    · exact f2 z
def rSortKF (K : PySem.W.Frag) (spf : Sp) : List V → Hp → VK → Prop := fun vs H Q => ∃ (l : Addr) (xs : List V) (ks : List Int), vs = [.ref l] ∧ SqL K H l xs ∧ ks.length = xs.length ∧
  (∀ (j : Nat) (x : V) (k : Int), xs[j]? = some x → ks[j]? = some k → spf [x] H (fun v H1 => v = .int k ∧ H1 = H) fun _ _ _ => False) ∧
  ∀ (zs : List (V × Int)) (D : Addr) (H2 : Hp), zs.Perm (xs.zip ks) → zs.Pairwise (fun p q => p.2 ≤ q.2) → H D = none → Ex H H2 → H2 D = some (.lst (zs.map (·.1))) → Q (.ref D) H2
section
variable {X : Cx} {k : Nat} {f : Addr} {fd : FuncData} {ps : List Str} {spf : Sp} {pins : List (Addr × Obj)} {σ : L2.St} {H : Hp}
/-- the state while the keys are made -/
def KeyS (X : Cx) (pins : List (Addr × Obj)) (σ : L2.St) (H : Hp) (a kS : Addr) (e1 : Nat) (ks : List Int) (i : Nat) (s : Shared) : Prop :=
  L2.Inv X pins σ H s ∧ s.heap.get? a = some (seqObj "list" #[] e1) ∧ ∃ (kA : Array Value) (e : Nat), s.heap.get? kS = some (seqObj "list" kA e) ∧ Vals ((ks.take i).map V.int) kA.toList
theorem call_key (F : FnOk X.prog X.w X.K X.mg X.base CX0 k f fd ps spf) (room : Room (k + 2) X.A) (bnd : L2.Binds X.K fd ps []) {s : Shared} {x : V} {u : Value} {n : Int} (I : L2.Inv X pins σ H s) (r : RelV x u) (h : spf [x] H (fun v H1 => v = .int n ∧ H1 = H) fun _ _ _ => False) {Q : Value → Shared → Prop} {E : Value → Shared → Prop}
    (q : ∀ (s2 : Shared) (t : Tok), L2.Inv X pins σ H s2 → (∀ b o, FpOk X pins H b → s.heap.get? b = some o → s2.heap.get? b = some o) → Q (.int n t) s2) : wpAny (model X.prog X.w) X.A.in1.in1 (call (.ref f) [u]) Q E s := by
  have rv : Vals [x] [u] := .cons r .nil
  have hl : ([u] ++ []).length = ps.length := by
    rw [List.append_nil, ← rv.length]
    exact F.len _ _ _ _ h
  have bt := bnd s [u] I.kIn hl
  rw [List.append_nil] at bt
  refine wpAny_call (codeAny_mono (F.run X.A.in1.in1 X.stack s H ⟨[u], []⟩ [u] [x] _ _ room.in1.in1 I.env0.in1.in1 bt rv h) fun rr s2 hq => ?_)
  cases rr with
  | error e => exact False.elim hq
  | ok fl =>
    cases fl with
    | next => exact False.elim hq
    | brk => exact False.elim hq
    | cont => exact False.elim hq
    | ret w =>
      have ce : CE X.stack X.prog X.w H s (fun v H1 => v = .int n ∧ H1 = H) w s2 := hq
      obtain ⟨v, H1, J, rv2, ev, eH⟩ := I.after ce
      obtain ⟨_, H3, _, _, un, _, _, _, e3⟩ := ce
      subst ev eH
      obtain ⟨t, rfl⟩ := rv2
      exact q s2 t J fun b o fb e => un.keep b o e fb.1 (fp_frs I fb) (by simp)
theorem call_sortKF (F : FnOk X.prog X.w X.K X.mg X.base CX0 k f fd ps spf) (room : Room (k + 2) X.A) (bnd : L2.Binds X.K fd ps []) {s : Shared} {vs : List V} {us : List Value} {Q : VK} (I : L2.Inv X pins σ H s) (r : Vals vs us) (h : rSortKF X.K spf vs H Q) :
    wpAny (model X.prog X.w) X.A (call (.builtin "sorted") us [(Str.ofString "key", .ref f)]) (EP X pins σ Q) X.xe s := by
  obtain ⟨l, xs, ks, rfl, hs, hlen, hk, q⟩ := h
  obtain ⟨its, rv, hl, hz⟩ := I.list hs
  obtain ⟨u, rfl, ru⟩ := vals1 r
  obtain rfl : u = Value.ref l := ru
  have lv : xs.length = its.length := rv.length
  have hZ : its.length ≤ sizeLine := by rw [← lv]; exact hz
  refine PySem.W.sorted_of_sort hl.isList hZ (ksk_s1 _ _) (fun _ => ksk_l1 _ _) fun E' => ?_
  rw [ksk_t1]
  have ho := PySem.W.copyHeap_at s.heap its
  obtain ⟨e1, ho1⟩ : ∃ e1, ((PySem.W.copyHeap s.heap its).update (s.heap.objs.size + 1) (Obj.mapSeq fun _ => (#[] : Array Value))).get? (s.heap.objs.size + 1) = some (seqObj "list" #[] e1) := ⟨_, get?_update_seq ho fun _ => #[]⟩
  have ca : s.heap.objs.size + 1 < (PySem.W.copyHeap s.heap its).objs.size := Heap.lt_size ho
  unfold ksk_tree
  refine wpAny_bind (listItems_at ho rfl (wpAny_bind (listUpdate_at ho rfl ?_ (by rw [List.size_toArray]; exact hZ) (Nat.zero_le _))))
  refine wpAny_bind (seqEpoch_at ho1 rfl (wpAny_bind (wpAny_newTuple ?_ (by show its.length ≤ _; exact hZ))))
  refine wpAny_bind (wpAny_newList (wpAny_holding ?_) (Nat.zero_le _))
  generalize hkS : (((PySem.W.copyHeap s.heap its).update (s.heap.objs.size + 1) (Obj.mapSeq fun _ => (#[] : Array Value))).push (seqObj "tuple" its.toArray 0)).objs.size = kS
  have kSsz : kS = (PySem.W.copyHeap s.heap its).objs.size + 1 := by rw [← hkS, size_push', Heap.size_update]
  have a1 : s.heap.objs.size ≤ s.heap.objs.size + 1 := Nat.le_succ _
  have a2 : s.heap.objs.size ≤ kS := by omega
  have hka : kS ≠ s.heap.objs.size + 1 := by omega
  have fa : FpOk X pins H (s.heap.objs.size + 1) := I.fpOk a1 (I.hok.fresh a1)
  have fk : FpOk X pins H kS := I.fpOk a2 (I.hok.fresh a2)
  have keep0 : ∀ b o, s.heap.get? b = some o → (((PySem.W.copyHeap s.heap its).update (s.heap.objs.size + 1) (Obj.mapSeq fun _ => (#[] : Array Value))).push (seqObj "tuple" its.toArray 0)).get? b = some o := fun b o e => by
    have hb : b < s.heap.objs.size := Heap.lt_size e
    refine Heap.get?_push_of_some _ ?_
    exact ((Heap.SameBut.update (PySem.W.copyHeap s.heap its) (s.heap.objs.size + 1) (Obj.mapSeq fun _ => (#[] : Array Value))).2 b (Nat.ne_of_lt (Nat.lt_succ_of_lt hb))).trans (PySem.W.copyHeap_old e)
  have S0 : KeyS X pins σ H (s.heap.objs.size + 1) kS e1 ks 0 { s with heap := (((PySem.W.copyHeap s.heap its).update (s.heap.objs.size + 1) (Obj.mapSeq fun _ => (#[] : Array Value))).push (seqObj "tuple" its.toArray 0)).push (seqObj "list" #[] 0) } := by
    refine ⟨I.kept (t' := s.toks) fun b o e => Heap.get?_push_of_some _ (keep0 b o e), Heap.get?_push_of_some _ (Heap.get?_push_of_some _ ho1), #[], 0, ?_, .nil⟩
    rw [← hkS]
    exact Heap.get?_push_size _ rfl
  unfold ksk_rest
  refine wpAny_bind (wpAny_rule ?_)
  rw [← Array.forIn_toList]
  simp only [List.toList_toArray]
  refine wpAny_bind (ksk_fold (fun i s2 => KeyS X pins σ H (s.heap.objs.size + 1) kS e1 ks i s2) its 0 _ S0 ?step ?done)
  case step =>
    rintro j v s2 hx ⟨J, na, kA, e, nk, hv⟩
    simp only [Nat.zero_add] at hv ⊢
    have hj : j < its.length := (List.getElem?_eq_some_iff.mp hx).1
    have hxj : xs[j]? = some xs[j] := List.getElem?_eq_getElem (by omega)
    have hkj : ks[j]? = some ks[j] := List.getElem?_eq_getElem (by omega)
    obtain ⟨v2, hv2, rx⟩ := rv.get hxj
    obtain rfl : v2 = v := Option.some.inj (hv2.symm.trans hx)
    have kz : kA.size ≤ its.length := by
      have z := hv.length
      have z2 : kA.toList.length = kA.size := Array.length_toList
      rw [List.length_map, List.length_take] at z
      omega
    refine wpAny_bind (wpAny_attempt (call_key F room bnd J rx (hk j _ _ hxj hkj) fun s3 t J3 keep3 => ?_))
    try dsimp only
    have nk3 := keep3 _ _ fk nk
    have na3 := keep3 _ _ fa na
    have sb := Heap.SameBut.update s3.heap kS (Obj.mapSeq (·.push (Value.int ks[j] t)))
    obtain ⟨c2, hc2⟩ : ∃ c2, (s3.heap.update kS (Obj.mapSeq (·.push (Value.int ks[j] t)))).get? kS = some (seqObj "list" (kA.push (Value.int ks[j] t)) c2) := ⟨_, get?_update_seq nk3 (·.push (Value.int ks[j] t))⟩
    refine wpAny_bind (listUpdate_at nk3 rfl ?_ (Nat.le_trans kz hZ) (Nat.le_trans (Nat.le_of_eq (Array.size_push ..)) (Nat.succ_le_succ (Nat.le_trans kz hZ))))
    obtain ⟨f1, f2, _, f4, f5, f6⟩ := fk
    have J4 : L2.Inv X pins σ H { s3 with heap := s3.heap.update kS (Obj.mapSeq (·.push (Value.int ks[j] t))) } := J3.turned (t' := s3.toks) (it := kS) (fun b o hb ee => (sb.2 b hb).trans ee) f1 f2 f4 f5 f6
    refine wpAny_pure ⟨rfl, J4, (sb.2 _ hka.symm).trans na3, kA.push (Value.int ks[j] t), c2, hc2, ?_⟩
    have et : ks.take (j + 1) = ks.take j ++ [ks[j]] := by rw [List.take_add_one, hkj]; rfl
    have ea : (kA.push (Value.int ks[j] t)).toList = kA.toList ++ [Value.int ks[j] t] := by simp
    rw [et, ea, List.map_append]
    exact hv.append (.cons ⟨t, rfl⟩ .nil)
  case done =>
    rintro s2 ⟨J, na, kA, e, nk, hv⟩
    rw [Nat.zero_add, List.take_of_length_le (by omega)] at hv
    have ksz : kA.size = its.length := by
      have z := hv.length
      have z2 : kA.toList.length = kA.size := Array.length_toList
      rw [List.length_map] at z
      omega
    try dsimp only
    refine wpAny_bind (listItems_at nk rfl ?_)
    have each : PySem.W.EachIs (fun v d => ∃ as, Reads s2.heap v d as) kA.toList (ks.map PyData.int) := by
      have gen : ∀ (ks : List Int) (l : List Value), Vals (ks.map V.int) l → PySem.W.EachIs (fun v d => ∃ as, Reads s2.heap v d as) l (ks.map PyData.int) := by
        intro ks
        induction ks with
        | nil => intro l hl; cases hl; exact .nil
        | cons n ks ih =>
          intro l hl
          cases hl with
          | cons r1 r2 =>
            obtain ⟨t, rfl⟩ := r1
            exact .cons ⟨_, Reads.int n t⟩ (ih _ r2)
      exact gen ks _ hv
    have alk : PySem.W.AllAlike (ks.map PyData.int) := by
      intro d hd d' hd'
      obtain ⟨n, _, rfl⟩ := List.mem_map.mp hd
      obtain ⟨m, _, rfl⟩ := List.mem_map.mp hd'
      rfl
    have srt : PySem.W.Sortable (ks.map PyData.int) := .inr fun d hd => by
      obtain ⟨n, _, rfl⟩ := List.mem_map.mp hd
      exact ⟨by simp, by simp⟩
    let G : Hp := fun b => if b = kS then some (.lst []) else none
    refine PySem.W.keyH_end (κ := PySem.W.dataKind s2.heap (ks.map .int)) (h₁ := hidT s2.heap G) (fun b o _ ee => (of_hidT ee).1) ?_ nk na hka (PySem.W.SortsAt.data each alk srt fun d hd => ?_) ksz hZ fun h3 tk c kb n3 => ⟨rfl, ?_⟩
    · cases z : (hidT s2.heap G).get? kS with
      | none => rfl
      | some o =>
        have y := (of_hidT z).2
        rw [show G kS = some (.lst []) from if_pos rfl] at y
        cases y
    · obtain ⟨n, _, rfl⟩ := List.mem_map.mp hd
      have := room.un
      show X.A.units + 1 + 1 + (PyData.int n).depth < cLine
      simp only [PyData.depth]
      omega
    · have eachP : PySem.W.EachIs (fun v (p : V × Int) => RelV p.1 v) its (xs.zip ks) := by
        have gen : ∀ (xs : List V) (ks : List Int) (l : List Value), Vals xs l → ks.length = xs.length → PySem.W.EachIs (fun v (p : V × Int) => RelV p.1 v) l (xs.zip ks) := by
          intro xs
          induction xs with
          | nil => intro ks l hl _; cases hl; exact .nil
          | cons x xs ih =>
            intro ks l hl hh
            cases hl with
            | cons r1 r2 =>
              cases ks with
              | nil => simp at hh
              | cons n ks => exact .cons r1 (ih ks _ r2 (by simpa using hh))
        exact gen xs ks its rv hlen
      have ekz : (xs.zip ks).map (fun p => PyData.int p.2) = ks.map PyData.int := by
        have e0 : (xs.zip ks).map Prod.snd = ks := List.map_snd_zip (by omega)
        have e1 : (xs.zip ks).map (fun p => PyData.int p.2) = ((xs.zip ks).map Prod.snd).map PyData.int := by rw [List.map_map]; rfl
        rw [e1, e0]
      have ko : PySem.W.KeyedOut false ((xs.zip ks).map fun p => PyData.int p.2) its (PySem.W.sortVals (PySem.W.dataKind s2.heap (ks.map .int)) false kA.toList its) := by
        rw [ekz]
        exact ⟨s2.heap, kA.toList, alk, rfl, each⟩
      have eo := PySem.W.keyedOut_each (fun p : V × Int => PyData.int p.2) ko eachP
      rw [PySem.W.dataLe_int (fun p : V × Int => p.2)] at eo
      generalize hzs : (xs.zip ks).mergeSort (fun a b => decide (a.2 ≤ b.2)) = zs at eo
      have hperm : zs.Perm (xs.zip ks) := by rw [← hzs]; exact List.mergeSort_perm _ _
      have hsort : zs.Pairwise (fun p q => p.2 ≤ q.2) := by
        have z := List.pairwise_mergeSort (le := fun a b : V × Int => decide (a.2 ≤ b.2)) (fun a b c h1 h2 => decide_eq_true (Int.le_trans (of_decide_eq_true h1) (of_decide_eq_true h2))) (fun a b => by
          by_cases h : a.2 ≤ b.2
          · simp [h]
          · simp [show b.2 ≤ a.2 by omega]) (xs.zip ks)
        rw [hzs] at z
        exact z.imp fun h => of_decide_eq_true h
      have vz : Vals (zs.map (·.1)) (PySem.W.sortVals (PySem.W.dataKind s2.heap (ks.map .int)) false kA.toList its) := by
        have gen : ∀ (l : List Value) (zs : List (V × Int)), PySem.W.EachIs (fun v (p : V × Int) => RelV p.1 v) l zs → Vals (zs.map (·.1)) l := by
          intro l zs h
          induction h with
          | nil => exact .nil
          | cons r _ ih => exact .cons r ih
        exact gen _ _ eo
      have zlen : zs.length = xs.length := by rw [hperm.length_eq, List.length_zip]; omega
      have keep2 : ∀ b o, b ≠ s.heap.objs.size + 1 → b ≠ kS → s2.heap.get? b = some o → h3.get? b = some o := fun b o h1 h2 ee => kb b o h1 (hidT_get ee (if_neg h2))
      refine ⟨.ref (s.heap.objs.size + 1), upd H (s.heap.objs.size + 1) (.lst (zs.map (·.1))), inv_take2 J (fun b o h1 h2 ee => keep2 b o h1 h2 ee) fa fk ?_, rfl, q zs _ _ hperm hsort fa.1 (Ex.new fa.1) upd_same⟩
      exact (show ObjOk X.prog X.w (upd H (s.heap.objs.size + 1) (.lst (zs.map (·.1)))) h3 (s.heap.objs.size + 1) (.lst (zs.map (·.1))) from ⟨by rw [List.length_map, zlen]; exact hz, _, c, vz, n3⟩)
/-- sorted(e, key=f) in the text -/
def jSortKF (spf : Sp) (ta : TE) : TE := fun σ H Q => ta σ H fun x H1 => ∃ l, x = .ref l ∧ ∃ xs, H1 l = some (.lst xs) ∧ ∃ ks : List Int, ks.length = xs.length ∧
  (∀ (j : Nat) (x : V) (k : Int), xs[j]? = some x → ks[j]? = some k → spf [x] H1 (fun v H2 => v = .int k ∧ H2 = H1) fun _ _ _ => False) ∧
  ∀ (zs : List (V × Int)) (D : Addr) (H2 : Hp), zs.Perm (xs.zip ks) → zs.Pairwise (fun p q => p.2 ≤ q.2) → H1 D = none → Ex H1 H2 → H2 D = some (.lst (zs.map (·.1))) → Q (.ref D) H2
@[simp] theorem j_sortKF {spf : Sp} {ta : TE} {σ : L2.St} {H : Hp} {Q : VK} : jSortKF spf ta σ H Q = ta σ H fun x H1 => ∃ l, x = .ref l ∧ ∃ xs, H1 l = some (.lst xs) ∧ ∃ ks : List Int, ks.length = xs.length ∧
  (∀ (j : Nat) (x : V) (k : Int), xs[j]? = some x → ks[j]? = some k → spf [x] H1 (fun v H2 => v = .int k ∧ H2 = H1) fun _ _ _ => False) ∧
  ∀ (zs : List (V × Int)) (D : Addr) (H2 : Hp), zs.Perm (xs.zip ks) → zs.Pairwise (fun p q => p.2 ≤ q.2) → H1 D = none → Ex H1 H2 → H2 D = some (.lst (zs.map (·.1))) → Q (.ref D) H2 := rfl
theorem cr_sortKF (F : FnOk X.prog X.w X.K X.mg X.base CX0 k f fd ps spf) (room : Room (k + 2) X.A) (bnd : L2.Binds X.K fd ps []) : CallRK X (.builtin "sorted") [Str.ofString "key"] (fun vs zs H Q => zs = [.ref f] ∧ rSortKF X.K spf vs H Q) := by
  intro pins s σ H vs zs us ws Q I r rz h
  obtain ⟨rfl, h⟩ := h
  obtain ⟨w1, rfl, e1⟩ := vals1 rz
  obtain rfl : w1 = Value.ref f := e1
  exact call_sortKF F room bnd I r h
theorem pe_sortKF {e : Expr} {te : TE} {x : Str} {p p2 pos kpos : Pos} (F : FnOk X.prog X.w X.K X.mg X.base CX0 k f fd ps spf) (room : Room (k + 2) X.A) (bnd : L2.Binds X.K fd ps []) (g1 : Gl X "sorted") (m1 : X.mg "sorted" = none) (g2 : Gl X x) (m2 : X.mg x = some (.ref f))
    (he : PE X e te) (hdb : (x == ("__debug__" : Str)) = false := by decide +kernel) (w0 : starEach [e] X.env = (false, eval e X.env) :: starEach [] X.env := by rfl)
    (w1 : backTo pos (starEach [e] X.env) = (false, eval e X.env) :: backTo pos (starEach [] X.env) := by rfl) (w2 : (backTo pos (starEach [e] X.env)).any (·.1) = false := by rfl)
    (w3 : (backToKw pos (keywordEach [⟨some "key", .Name x p2, kpos⟩] X.env)).all (·.1.isSome) = true := by rfl) (w4 : (backToKw pos (keywordEach [⟨some "key", .Name x p2, kpos⟩] X.env)).any (·.1.isNone) = false := by rfl)
    (w5 : (backToKw pos (keywordEach [⟨some "key", .Name x p2, kpos⟩] X.env)).filterMap (·.1) = [Str.ofString "key"] := by rfl) : PE X (.Call (.Name "sorted" p) [e] [⟨some "key", .Name x p2, kpos⟩] pos) (jSortKF spf te) :=
  (pe_callBK (cr_sortKF F room bnd) g1 m1 (by decide +kernel) (pa_cons he.cl pa_nil w0) (pk_cons (pe_glob (v := .ref f) g2 m2 rfl hdb) pk_nil) (by decide +kernel) (by decide +kernel) w1 w2 w3 w4 w5).by fun σ H Q q => ⟨_, q, fun v H1 ⟨l, e, xs, hl, ks, h1, h2, h3⟩ => ⟨rfl, l, xs, ks, by rw [e], .inl (.inl hl), h1, h2, h3⟩⟩
end
end Jk

namespace Jk
open PySem L2 Evl
/-! ## trees -/
inductive Tr where
  | pt (n : Int)
  | nd (j : Bool) (ts : List Tr)
mutual
def Tr.pts : Tr → List Int
  | .pt n => [n]
  | .nd _ ts => ptsL ts
def ptsL : List Tr → List Int
  | [] => []
  | t :: ts => t.pts ++ ptsL ts
end
mutual
def Tr.dep : Tr → Nat
  | .pt _ => 0
  | .nd _ ts => depL ts + 1
def depL : List Tr → Nat
  | [] => 0
  | t :: ts => max t.dep (depL ts)
end
mutual
def Tr.least : Tr → Int
  | .pt n => n
  | .nd _ ts => leastL ts
def leastL : List Tr → Int
  | [] => 0
  | t :: _ => t.least
end
/-- the word of a node, and none of a point -/
def Tr.wd : Tr → Option Bool
  | .pt _ => none
  | .nd j _ => some j
mutual
/-- two parts at least, told in the order of their least points, no word right within the same -/
def Tr.form : Tr → Prop
  | .pt _ => True
  | .nd j ts => 2 ≤ ts.length ∧ (ts.map Tr.least).Pairwise (· < ·) ∧ formL j ts
def formL (j : Bool) : List Tr → Prop
  | [] => True
  | t :: ts => t.form ∧ t.wd ≠ some j ∧ formL j ts
end
theorem formL_iff {j : Bool} {ts : List Tr} : formL j ts ↔ ∀ t ∈ ts, t.form ∧ t.wd ≠ some j := by
  induction ts with
  | nil => simp [formL]
  | cons t ts ih =>
    rw [formL, ih]
    simp only [List.mem_cons, forall_eq_or_imp]
    exact ⟨fun ⟨a, b, c⟩ => ⟨⟨a, b⟩, c⟩, fun ⟨⟨a, b⟩, c⟩ => ⟨a, b, c⟩⟩
theorem ptsL_flat (ts : List Tr) : ptsL ts = ts.flatMap Tr.pts := by
  induction ts with
  | nil => rfl
  | cons t ts ih => rw [ptsL, ih]; rfl
theorem ptsL_app (as bs : List Tr) : ptsL (as ++ bs) = ptsL as ++ ptsL bs := by rw [ptsL_flat, ptsL_flat, ptsL_flat, List.flatMap_append]
theorem depL_le {ts : List Tr} {t : Tr} (h : t ∈ ts) : t.dep ≤ depL ts := by
  induction ts with
  | nil => cases h
  | cons u ts ih =>
    rw [depL]
    rcases List.mem_cons.mp h with rfl | h
    · omega
    · have := ih h; omega
theorem depL_bound {ts : List Tr} {n : Nat} (h : ∀ t ∈ ts, t.dep ≤ n) : depL ts ≤ n := by
  induction ts with
  | nil => exact Nat.zero_le _
  | cons u ts ih =>
    rw [depL]
    have := h u (by simp)
    have := ih fun t ht => h t (by simp [ht])
    omega
/-- a tree has more points than words within one another -/
theorem Tr.dep_lt : ∀ t : Tr, t.form → t.dep + 1 ≤ t.pts.length
  | .pt n, _ => by simp [Tr.dep, Tr.pts]
  | .nd j ts, h => by
    rw [Tr.form] at h
    obtain ⟨h1, _, h3⟩ := h
    rw [Tr.dep, Tr.pts]
    have gen : ∀ ts : List Tr, (∀ t ∈ ts, t.dep + 1 ≤ t.pts.length) → ts.length ≤ (ptsL ts).length ∧ (1 ≤ ts.length → depL ts + ts.length ≤ (ptsL ts).length) := by
      intro ts
      induction ts with
      | nil => intro _; exact ⟨Nat.le_refl _, fun z => by simp at z⟩
      | cons t ts ih =>
        intro hh
        obtain ⟨i1, i2⟩ := ih fun u hu => hh u (by simp [hu])
        have h0 := hh t (by simp)
        rw [ptsL, depL, List.length_append, List.length_cons]
        refine ⟨by omega, fun _ => ?_⟩
        by_cases hz : 1 ≤ ts.length
        · have := i2 hz; omega
        · have e : ts = [] := List.length_eq_zero_iff.mp (by omega)
          subst e
          simp [ptsL, depL]
          omega
    have := (gen ts fun t ht => t.dep_lt (formL_iff.mp h3 t ht).1).2 (by omega)
    omega
def wdS (j : Bool) : Str := if j = true then "join" else "side"
/-! ## told trees in the heap -/
mutual
def ToldAt (H : Hp) : V → Tr → Prop
  | v, .pt n => v = .int n
  | v, .nd j ts => ∃ a b vs, v = .ref a ∧ H a = some (.tup [.str (wdS j), .ref b]) ∧ H b = some (.tup vs) ∧ ToldL H vs ts
def ToldL (H : Hp) : List V → List Tr → Prop
  | [], [] => True
  | v :: vs, t :: ts => ToldAt H v t ∧ ToldL H vs ts
  | [], _ :: _ => False
  | _ :: _, [] => False
end
theorem toldL_nil {H : Hp} {ts : List Tr} : ToldL H [] ts ↔ ts = [] := by cases ts <;> simp [ToldL]
theorem toldL_cons {H : Hp} {v : V} {vs : List V} {ts : List Tr} : ToldL H (v :: vs) ts ↔ ∃ t us, ts = t :: us ∧ ToldAt H v t ∧ ToldL H vs us := by
  cases ts with
  | nil => simp [ToldL]
  | cons t us => rw [ToldL]; exact ⟨fun h => ⟨t, us, rfl, h⟩, fun ⟨_, _, e, h⟩ => by cases e; exact h⟩
theorem toldL_iff {H : Hp} {vs : List V} {ts : List Tr} : ToldL H vs ts ↔ vs.length = ts.length ∧ ∀ (k : Nat) (v : V) (t : Tr), vs[k]? = some v → ts[k]? = some t → ToldAt H v t := by
  induction vs generalizing ts with
  | nil =>
    rw [toldL_nil]
    constructor
    · rintro rfl; exact ⟨rfl, fun k v t h => by simp at h⟩
    · exact fun h => List.length_eq_zero_iff.mp h.1.symm
  | cons v vs ih =>
    rw [toldL_cons]
    constructor
    · rintro ⟨t, us, rfl, h1, h2⟩
      obtain ⟨e, h⟩ := ih.mp h2
      refine ⟨by simp [e], fun k v' t' a b => ?_⟩
      cases k with
      | zero => cases a; cases b; exact h1
      | succ k => exact h k v' t' (by simpa using a) (by simpa using b)
    · rintro ⟨e, h⟩
      cases ts with
      | nil => simp at e
      | cons t us => exact ⟨t, us, rfl, h 0 v t rfl rfl, ih.mpr ⟨by simpa using e, fun k v' t' a b => h (k + 1) v' t' (by simpa using a) (by simpa using b)⟩⟩
mutual
theorem ToldAt.map {H H' : Hp} (k : ∀ a o, H a = some (.tup o) → H' a = some (.tup o)) : ∀ (t : Tr) (v : V), ToldAt H v t → ToldAt H' v t
  | .pt n, v, h => by rw [ToldAt] at h ⊢; exact h
  | .nd j ts, v, h => by
    rw [ToldAt] at h ⊢
    obtain ⟨a, b, vs, e, h1, h2, h3⟩ := h
    exact ⟨a, b, vs, e, k _ _ h1, k _ _ h2, ToldL.map k ts vs h3⟩
theorem ToldL.map {H H' : Hp} (k : ∀ a o, H a = some (.tup o) → H' a = some (.tup o)) : ∀ (ts : List Tr) (vs : List V), ToldL H vs ts → ToldL H' vs ts
  | [], [], _ => by simp [ToldL]
  | [], v :: vs, h => by simp [ToldL] at h
  | t :: ts, [], h => by simp [ToldL] at h
  | t :: ts, v :: vs, h => by
    rw [ToldL] at h ⊢
    exact ⟨ToldAt.map k t v h.1, ToldL.map k ts vs h.2⟩
end
theorem ToldAt.up {H H' : Hp} {t : Tr} {v : V} (h : ToldAt H v t) (e : Ex H H') : ToldAt H' v t := ToldAt.map (fun _ _ z => e _ _ z) t v h
theorem ToldL.up {H H' : Hp} {ts : List Tr} {vs : List V} (h : ToldL H vs ts) (e : Ex H H') : ToldL H' vs ts := ToldL.map (fun _ _ z => e _ _ z) ts vs h
theorem ToldL.snoc {H : Hp} {vs : List V} {ts : List Tr} {v : V} {t : Tr} (h : ToldL H vs ts) (ht : ToldAt H v t) : ToldL H (vs ++ [v]) (ts ++ [t]) := by
  rw [toldL_iff] at h ⊢
  refine ⟨by simp [h.1], fun k v' t' a b => ?_⟩
  by_cases hk : k < vs.length
  · rw [List.getElem?_append_left hk] at a
    rw [List.getElem?_append_left (by rw [← h.1]; exact hk)] at b
    exact h.2 k v' t' a b
  · rw [List.getElem?_append_right (by omega)] at a
    rw [List.getElem?_append_right (by rw [← h.1]; omega)] at b
    have k0 : k - vs.length = 0 := by
      have := (List.getElem?_eq_some_iff.mp a).1
      simp at this; omega
    rw [k0] at a
    rw [show k - ts.length = 0 by rw [← h.1]; exact k0] at b
    simp at a b
    subst a b
    exact ht
theorem ToldL.len {H : Hp} {vs : List V} {ts : List Tr} (h : ToldL H vs ts) : vs.length = ts.length := (toldL_iff.mp h).1
theorem ToldL.get {H : Hp} {vs : List V} {ts : List Tr} (h : ToldL H vs ts) {k : Nat} {v : V} (e : vs[k]? = some v) : ∃ t, ts[k]? = some t ∧ ToldAt H v t := by
  have hk : k < ts.length := by rw [← h.len]; exact (List.getElem?_eq_some_iff.mp e).1
  exact ⟨_, List.getElem?_eq_getElem hk, (toldL_iff.mp h).2 k v _ e (List.getElem?_eq_getElem hk)⟩
/-- the type of a told tree -/
theorem told_ty {H : Hp} {v : V} {t : Tr} (h : ToldAt H v t) : tyN H v = some (if t.wd = none then "int" else "tuple") := by
  cases t with
  | pt n => rw [ToldAt] at h; subst h; rfl
  | nd j ts =>
    rw [ToldAt] at h
    obtain ⟨a, b, vs, rfl, h1, _, _⟩ := h
    rw [tyN_tup h1]
    rfl
/-! told alike, alike -/
mutual
theorem told_uniq {H : Hp} : ∀ (t u : Tr) (v : V), ToldAt H v t → ToldAt H v u → t = u
  | .pt n, .pt m, v, h, g => by
    rw [ToldAt] at h; rw [ToldAt] at g
    rw [h] at g
    cases g; rfl
  | .pt n, .nd j us, v, h, g => by
    rw [ToldAt] at h; rw [ToldAt] at g
    obtain ⟨a, b, vs, e, _⟩ := g
    rw [h] at e; cases e
  | .nd j ts, .pt n, v, h, g => by
    rw [ToldAt] at h; rw [ToldAt] at g
    obtain ⟨a, b, vs, e, _⟩ := h
    rw [g] at e; cases e
  | .nd j ts, .nd i us, v, h, g => by
    rw [ToldAt] at h; rw [ToldAt] at g
    obtain ⟨a, b, vs, e, h1, h2, h3⟩ := h
    obtain ⟨a', b', vs', e', g1, g2, g3⟩ := g
    rw [e] at e'
    cases e'
    rw [h1] at g1
    have z := HO.tup.inj (Option.some.inj g1)
    simp at z
    obtain ⟨z1, rfl⟩ := z
    rw [h2] at g2
    obtain rfl : vs = vs' := HO.tup.inj (Option.some.inj g2)
    have ej : j = i := by
      cases j <;> cases i <;> first | rfl | exact absurd z1 (by decide +kernel)
    subst ej
    rw [toldL_uniq ts us vs h3 g3]
theorem toldL_uniq {H : Hp} : ∀ (ts us : List Tr) (vs : List V), ToldL H vs ts → ToldL H vs us → ts = us
  | [], us, vs, h, g => by
    cases vs with
    | nil => exact (toldL_nil.mp g).symm
    | cons v vs => simp [ToldL] at h
  | t :: ts, us, vs, h, g => by
    cases vs with
    | nil => simp [ToldL] at h
    | cons v vs =>
      obtain ⟨u, us', rfl, g1, g2⟩ := toldL_cons.mp g
      rw [ToldL] at h
      rw [told_uniq t u v h.1 g1, toldL_uniq ts us' vs h.2 g2]
end
theorem told_ex {H : Hp} {v : V} {t : Tr} {R : Tr → Prop} (h : ToldAt H v t) : (∃ u, ToldAt H v u ∧ R u) ↔ R t := ⟨fun ⟨u, a, r⟩ => by rw [told_uniq t u v h a]; exact r, fun r => ⟨t, h, r⟩⟩
/-! as data -/
mutual
def Tr.data : Tr → PyData
  | .pt n => .int n
  | .nd j ts => .tuple [.str (wdS j), .tuple (dataL ts)]
def dataL : List Tr → List PyData
  | [] => []
  | t :: ts => t.data :: dataL ts
end
mutual
theorem told_dp {K : PySem.W.Frag} {H : Hp} : ∀ (t : Tr) (v : V), ToldAt H v t → Dp K H v t.data
  | .pt n, v, h => by
    rw [ToldAt] at h
    rw [h, Tr.data]
    exact .int n
  | .nd j ts, v, h => by
    rw [ToldAt] at h
    obtain ⟨a, b, vs, rfl, h1, h2, h3⟩ := h
    rw [Tr.data]
    exact .tup (.inl (.inl h1)) (.cons (.str _) (.cons (.tup (.inl (.inl h2)) (toldL_dp ts vs h3)) .nil))
theorem toldL_dp {K : PySem.W.Frag} {H : Hp} : ∀ (ts : List Tr) (vs : List V), ToldL H vs ts → DpAll K H vs (dataL ts)
  | [], vs, h => by
    cases vs with
    | nil => exact .nil
    | cons v vs => simp [ToldL] at h
  | t :: ts, vs, h => by
    cases vs with
    | nil => simp [ToldL] at h
    | cons v vs =>
      rw [ToldL] at h
      exact .cons (told_dp t v h.1) (toldL_dp ts vs h.2)
end
end Jk

namespace Jk
/-! ## how a tree is grown: nodes by number, the node above each, the leaves -/
inductive Nd where
  | leaf (k : Nat)
  | inner (j : Bool) (cs : List Nat)
structure Grown (ns : List Nd) (ab : List (Option Nat)) (lv : List Nat) (dp : List Nat) : Prop where
  la : ab.length = ns.length
  ld : dp.length = ns.length
  one : 1 ≤ lv.length
  cnt : ns.length + 1 ≤ 2 * lv.length
  le : lv.length ≤ ns.length
  lf : ∀ (k l : Nat), lv[k]? = some l → ns[l]? = some (Nd.leaf k)
  fl : ∀ (l k : Nat), ns[l]? = some (Nd.leaf k) → lv[k]? = some l
  inn : ∀ (i : Nat) (j : Bool) (cs : List Nat), ns[i]? = some (Nd.inner j cs) → 2 ≤ cs.length ∧ cs.Nodup ∧ ∀ c ∈ cs, ab[c]? = some (some i) ∧ (∃ d, dp[i]? = some d ∧ dp[c]? = some (d + 1)) ∧ ∀ cs', ns[c]? ≠ some (Nd.inner j cs')
  par : ∀ (i p : Nat), ab[i]? = some (some p) → ∃ j cs, ns[p]? = some (Nd.inner j cs) ∧ i ∈ cs
  root : ab[0]? = some none
  top : ∀ i : Nat, ab[i]? = some none → i = 0 ∧ dp[0]? = some 0
  dpb : ∀ (i d : Nat), dp[i]? = some d → d + lv.length ≤ ns.length
theorem grown_start : Grown [Nd.leaf 0] [none] [0] [0] := by
  refine ⟨rfl, rfl, by simp, by simp, by simp, fun k l h => ?_, fun l k h => ?_, fun i j cs h => ?_, fun i p h => ?_, rfl, fun i h => ?_, fun i d h => ?_⟩
  · match k, h with
    | 0, h => cases h; rfl
    | k + 1, h => simp at h
  · match l, h with
    | 0, h => cases h; rfl
    | l + 1, h => simp at h
  · match i, h with
    | 0, h => cases h
    | i + 1, h => simp at h
  · match i, h with
    | 0, h => cases h
    | i + 1, h => simp at h
  · match i, h with
    | 0, h => exact ⟨rfl, rfl⟩
    | i + 1, h => simp at h
  · match i, h with
    | 0, h => cases h; simp
    | i + 1, h => simp at h
theorem app_get {α : Type} {l : List α} {x y : α} {i : Nat} (h : (l ++ [x])[i]? = some y) : (i < l.length ∧ l[i]? = some y) ∨ (i = l.length ∧ y = x) := by
  by_cases hi : i < l.length
  · rw [List.getElem?_append_left hi] at h
    exact .inl ⟨hi, h⟩
  · rw [List.getElem?_append_right (by omega)] at h
    have hz : i - l.length = 0 := by
      have := (List.getElem?_eq_some_iff.mp h).1
      simp at this; omega
    rw [hz] at h
    simp at h
    exact .inr ⟨by omega, h.symm⟩
theorem get_app {α : Type} {l : List α} {x y : α} {i : Nat} (h : l[i]? = some y) : (l ++ [x])[i]? = some y := by
  rw [List.getElem?_append_left (List.getElem?_eq_some_iff.mp h).1]; exact h
theorem get_new {α : Type} {l : List α} {x : α} : (l ++ [x])[l.length]? = some x := by simp
theorem lt_of_get {α : Type} {l : List α} {x : α} {i : Nat} (h : l[i]? = some x) : i < l.length := (List.getElem?_eq_some_iff.mp h).1
/-- a further point beside the others of its kind -/
theorem grown_more {ns : List Nd} {ab : List (Option Nat)} {lv dp : List Nat} (G : Grown ns ab lv dp) {p : Nat} {j : Bool} {cs : List Nat} {d : Nat} (hp : ns[p]? = some (Nd.inner j cs)) (hd : dp[p]? = some d) :
    Grown ((ns ++ [Nd.leaf lv.length]).set p (Nd.inner j (cs ++ [ns.length]))) (ab ++ [some p]) (lv ++ [ns.length]) (dp ++ [d + 1]) := by
  have pl := lt_of_get hp
  obtain ⟨c2, cnd, call⟩ := G.inn p j cs hp
  have at' : ∀ i x, ((ns ++ [Nd.leaf lv.length]).set p (Nd.inner j (cs ++ [ns.length])))[i]? = some x → (i = p ∧ x = Nd.inner j (cs ++ [ns.length])) ∨ (i ≠ p ∧ i < ns.length ∧ ns[i]? = some x) ∨ (i = ns.length ∧ x = Nd.leaf lv.length) := fun i x h => by
    by_cases e : i = p
    · subst e
      rw [List.getElem?_set_self (by simp; omega)] at h
      cases h
      exact .inl ⟨rfl, rfl⟩
    · rw [List.getElem?_set_ne (Ne.symm e)] at h
      rcases app_get h with ⟨a, b⟩ | ⟨a, b⟩
      · exact .inr (.inl ⟨e, a, b⟩)
      · exact .inr (.inr ⟨a, b⟩)
  have old : ∀ i x, i ≠ p → ns[i]? = some x → ((ns ++ [Nd.leaf lv.length]).set p (Nd.inner j (cs ++ [ns.length])))[i]? = some x := fun i x e h => by
    rw [List.getElem?_set_ne (Ne.symm e)]; exact get_app h
  have atp : ((ns ++ [Nd.leaf lv.length]).set p (Nd.inner j (cs ++ [ns.length])))[p]? = some (Nd.inner j (cs ++ [ns.length])) := List.getElem?_set_self (by simp; omega)
  have atn : ((ns ++ [Nd.leaf lv.length]).set p (Nd.inner j (cs ++ [ns.length])))[ns.length]? = some (Nd.leaf lv.length) := by
    rw [List.getElem?_set_ne (by omega)]; exact get_new
  have la := G.la
  have ld := G.ld
  have le := G.le
  have cnt := G.cnt
  refine ⟨by simp [la], by simp [ld], by simp, by simp; omega, by simp; omega, fun k l h => ?_, fun l k h => ?_, fun i j' cs' h => ?_, fun i q h => ?_, get_app G.root, fun i h => ?_, fun i e h => ?_⟩
  · rcases app_get h with ⟨_, b⟩ | ⟨a, b⟩
    · have z := G.lf k l b
      exact old l _ (fun e => by rw [e, hp] at z; cases z) z
    · rw [a, b]; exact atn
  · rcases at' l _ h with ⟨_, b⟩ | ⟨_, _, b⟩ | ⟨a, b⟩
    · cases b
    · exact get_app (G.fl l k b)
    · cases b; rw [a]; exact get_new
  · rcases at' i _ h with ⟨rfl, b⟩ | ⟨ne, hi, b⟩ | ⟨_, b⟩
    · cases b
      refine ⟨by simp; omega, ?_, fun c hc => ?_⟩
      · rw [List.nodup_append]
        refine ⟨cnd, by simp, fun x hx y hy e => ?_⟩
        rw [List.mem_singleton.mp hy] at e
        have := lt_of_get (call x hx).1
        omega
      · rcases List.mem_append.mp hc with hc | hc
        · obtain ⟨x1, ⟨d', x2, x3⟩, x4⟩ := call c hc
          refine ⟨get_app x1, ⟨d', get_app x2, get_app x3⟩, fun cs' z => ?_⟩
          rcases at' c _ z with ⟨e, _⟩ | ⟨_, _, z⟩ | ⟨_, z⟩
          · have y := x2
            rw [e, x2] at x3
            have := Option.some.inj x3
            omega
          · exact x4 cs' z
          · cases z
        · rw [List.mem_singleton.mp hc]
          refine ⟨by rw [← la]; exact get_new, ⟨d, get_app hd, by rw [← ld]; exact get_new⟩, fun cs' z => ?_⟩
          rw [atn] at z; cases z
    · obtain ⟨x1, x2, x3⟩ := G.inn i j' cs' b
      refine ⟨x1, x2, fun c hc => ?_⟩
      obtain ⟨y1, ⟨d', y2, y3⟩, y4⟩ := x3 c hc
      refine ⟨get_app y1, ⟨d', get_app y2, get_app y3⟩, fun cs2 z => ?_⟩
      rcases at' c _ z with ⟨e, z⟩ | ⟨_, _, z⟩ | ⟨_, z⟩
      · have ej : j' = j := by cases z; rfl
        rw [e] at y4
        exact y4 cs (by rw [ej]; exact hp)
      · exact y4 cs2 z
      · cases z
    · cases b
  · rcases app_get h with ⟨_, b⟩ | ⟨a, b⟩
    · obtain ⟨j', cs', x1, x2⟩ := G.par i q b
      by_cases e : q = p
      · subst e
        rw [hp] at x1
        cases x1
        exact ⟨_, _, atp, by simp [x2]⟩
      · exact ⟨_, _, old q _ e x1, x2⟩
    · cases b
      exact ⟨_, _, atp, by rw [a, la]; simp⟩
  · rcases app_get h with ⟨_, b⟩ | ⟨_, b⟩
    · obtain ⟨x1, x2⟩ := G.top i b
      exact ⟨x1, get_app x2⟩
    · cases b
  · rcases app_get h with ⟨_, b⟩ | ⟨_, b⟩
    · have := G.dpb i e b
      simp; omega
    · obtain ⟨c, hc⟩ : ∃ c, c ∈ cs := by cases cs with | nil => simp at c2 | cons c _ => exact ⟨c, by simp⟩
      obtain ⟨_, ⟨d', y2, y3⟩, _⟩ := call c hc
      rw [hd] at y2
      cases y2
      have := G.dpb c _ y3
      subst b
      simp; omega
/-- a leaf becomes a node of two leaves: it itself, told as the last, and a further one -/
theorem grown_split {ns : List Nd} {ab : List (Option Nat)} {lv dp : List Nat} (G : Grown ns ab lv dp) {old k d : Nat} {j : Bool} (hk : lv[k]? = some old) (hd : dp[old]? = some d)
    (hw : ∀ p, ab[old]? = some (some p) → ∀ cs, ns[p]? ≠ some (Nd.inner j cs)) :
    Grown ((ns ++ [Nd.leaf lv.length] ++ [Nd.leaf k]).set old (Nd.inner j [ns.length + 1, ns.length])) (ab ++ [some old] ++ [some old]) ((lv ++ [ns.length]).set k (ns.length + 1)) (dp ++ [d + 1] ++ [d + 1]) := by
  have ho := G.lf k old hk
  have ol := lt_of_get ho
  have kl := lt_of_get hk
  have la := G.la
  have ld := G.ld
  have le := G.le
  have cnt := G.cnt
  have at' : ∀ i x, ((ns ++ [Nd.leaf lv.length] ++ [Nd.leaf k]).set old (Nd.inner j [ns.length + 1, ns.length]))[i]? = some x → (i = old ∧ x = Nd.inner j [ns.length + 1, ns.length]) ∨ (i ≠ old ∧ i < ns.length ∧ ns[i]? = some x) ∨ (i = ns.length ∧ x = Nd.leaf lv.length) ∨ (i = ns.length + 1 ∧ x = Nd.leaf k) := fun i x h => by
    by_cases e : i = old
    · subst e
      rw [List.getElem?_set_self (by simp; omega)] at h
      cases h
      exact .inl ⟨rfl, rfl⟩
    · rw [List.getElem?_set_ne (Ne.symm e)] at h
      rcases app_get h with ⟨_, b⟩ | ⟨a, b⟩
      · rcases app_get b with ⟨a, b⟩ | ⟨a, b⟩
        · exact .inr (.inl ⟨e, a, b⟩)
        · exact .inr (.inr (.inl ⟨a, b⟩))
      · exact .inr (.inr (.inr ⟨by simpa using a, b⟩))
  have oldk : ∀ i x, i ≠ old → ns[i]? = some x → ((ns ++ [Nd.leaf lv.length] ++ [Nd.leaf k]).set old (Nd.inner j [ns.length + 1, ns.length]))[i]? = some x := fun i x e h => by
    rw [List.getElem?_set_ne (Ne.symm e)]; exact get_app (get_app h)
  have ato : ((ns ++ [Nd.leaf lv.length] ++ [Nd.leaf k]).set old (Nd.inner j [ns.length + 1, ns.length]))[old]? = some (Nd.inner j [ns.length + 1, ns.length]) := List.getElem?_set_self (by simp; omega)
  have atn : ((ns ++ [Nd.leaf lv.length] ++ [Nd.leaf k]).set old (Nd.inner j [ns.length + 1, ns.length]))[ns.length]? = some (Nd.leaf lv.length) := by
    rw [List.getElem?_set_ne (by omega)]; exact get_app get_new
  have atm : ((ns ++ [Nd.leaf lv.length] ++ [Nd.leaf k]).set old (Nd.inner j [ns.length + 1, ns.length]))[ns.length + 1]? = some (Nd.leaf k) := by
    rw [List.getElem?_set_ne (by omega)]
    have := get_new (l := ns ++ [Nd.leaf lv.length]) (x := Nd.leaf k)
    simpa using this
  have abn : (ab ++ [some old] ++ [some old])[ns.length]? = some (some old) := by rw [← la]; exact get_app get_new
  have abm : (ab ++ [some old] ++ [some old])[ns.length + 1]? = some (some old) := by
    have := get_new (l := ab ++ [some old]) (x := some old)
    rw [← la]; simpa using this
  have dpn : (dp ++ [d + 1] ++ [d + 1])[ns.length]? = some (d + 1) := by rw [← ld]; exact get_app get_new
  have dpm : (dp ++ [d + 1] ++ [d + 1])[ns.length + 1]? = some (d + 1) := by
    have := get_new (l := dp ++ [d + 1]) (x := d + 1)
    rw [← ld]; simpa using this
  have lvk : ((lv ++ [ns.length]).set k (ns.length + 1))[k]? = some (ns.length + 1) := List.getElem?_set_self (by simp; omega)
  have lvo : ∀ m l, m ≠ k → lv[m]? = some l → ((lv ++ [ns.length]).set k (ns.length + 1))[m]? = some l := fun m l e h => by
    rw [List.getElem?_set_ne (Ne.symm e)]; exact get_app h
  have lvn : ((lv ++ [ns.length]).set k (ns.length + 1))[lv.length]? = some ns.length := by
    rw [List.getElem?_set_ne (by omega)]; exact get_new
  have nochild : ∀ i j' cs, ns[i]? = some (Nd.inner j' cs) → old ∈ cs → j' ≠ j := fun i j' cs h hc e => by
    obtain ⟨_, _, x⟩ := G.inn i j' cs h
    exact hw i (x old hc).1 cs (by rw [← e]; exact h)
  refine ⟨by simp [la], by simp [ld], by simp, by simp; omega, by simp; omega, fun m l h => ?_, fun l m h => ?_, fun i j' cs' h => ?_, fun i q h => ?_, get_app (get_app G.root), fun i h => ?_, fun i e h => ?_⟩
  · by_cases e : m = k
    · subst e
      rw [lvk] at h
      cases h
      exact atm
    · rw [List.getElem?_set_ne (Ne.symm e)] at h
      rcases app_get h with ⟨_, b⟩ | ⟨a, b⟩
      · have z := G.lf m l b
        refine oldk l _ (fun e' => ?_) z
        rw [e', ho] at z
        have : k = m := by cases z; rfl
        exact e this.symm
      · rw [a, b]; exact atn
  · rcases at' l _ h with ⟨_, b⟩ | ⟨ne, _, b⟩ | ⟨a, b⟩ | ⟨a, b⟩
    · cases b
    · have z := G.fl l m b
      refine lvo m l (fun e => ?_) z
      rw [e, hk] at z
      cases z
      exact ne rfl
    · cases b; rw [a]; exact lvn
    · cases b; rw [a]; exact lvk
  · rcases at' i _ h with ⟨rfl, b⟩ | ⟨ne, hi, b⟩ | ⟨_, b⟩ | ⟨_, b⟩
    · cases b
      refine ⟨by simp, by simp, fun c hc => ?_⟩
      simp only [List.mem_cons, List.not_mem_nil, or_false] at hc
      rcases hc with rfl | rfl
      · exact ⟨abm, ⟨d, get_app (get_app hd), dpm⟩, fun cs2 z => by rw [atm] at z; cases z⟩
      · exact ⟨abn, ⟨d, get_app (get_app hd), dpn⟩, fun cs2 z => by rw [atn] at z; cases z⟩
    · obtain ⟨x1, x2, x3⟩ := G.inn i j' cs' b
      refine ⟨x1, x2, fun c hc => ?_⟩
      obtain ⟨y1, ⟨d', y2, y3⟩, y4⟩ := x3 c hc
      refine ⟨get_app (get_app y1), ⟨d', get_app (get_app y2), get_app (get_app y3)⟩, fun cs2 z => ?_⟩
      rcases at' c _ z with ⟨e, z⟩ | ⟨_, _, z⟩ | ⟨_, z⟩ | ⟨_, z⟩
      · have ej : j' = j := by cases z; rfl
        rw [e] at hc
        exact nochild i j' cs' b hc ej
      · exact y4 cs2 z
      · cases z
      · cases z
    · cases b
    · cases b
  · rcases app_get h with ⟨_, b⟩ | ⟨a, b⟩
    · rcases app_get b with ⟨_, b⟩ | ⟨a, b⟩
      · obtain ⟨j', cs', x1, x2⟩ := G.par i q b
        refine ⟨_, _, oldk q _ (fun e => ?_) x1, x2⟩
        rw [e, ho] at x1; cases x1
      · cases b
        exact ⟨_, _, ato, by rw [a, la]; simp⟩
    · cases b
      exact ⟨_, _, ato, by rw [a]; simp [la]⟩
  · rcases app_get h with ⟨_, b⟩ | ⟨_, b⟩
    · rcases app_get b with ⟨_, b⟩ | ⟨_, b⟩
      · obtain ⟨x1, x2⟩ := G.top i b
        exact ⟨x1, get_app (get_app x2)⟩
      · cases b
    · cases b
  · have := G.dpb old d hd
    rcases app_get h with ⟨_, b⟩ | ⟨_, b⟩
    · rcases app_get b with ⟨_, b⟩ | ⟨_, b⟩
      · have := G.dpb i e b
        simp; omega
      · subst b; simp; omega
    · subst b; simp; omega
end Jk

namespace Jk
/-! ## the tree that stands in grown nodes -/
def Built (ns : List Nd) (names : List Int) : Nat → Nat → Tr → Prop
  | 0, _, _ => False
  | d + 1, i, t => (∃ k n, ns[i]? = some (Nd.leaf k) ∧ names[k]? = some n ∧ t = .pt n) ∨
    ∃ j cs ts us, ns[i]? = some (Nd.inner j cs) ∧ ts.length = cs.length ∧ (∀ (m c : Nat) (u : Tr), cs[m]? = some c → ts[m]? = some u → Built ns names d c u) ∧ us.Perm ts ∧ us.Pairwise (fun a b => a.least ≤ b.least) ∧ t = .nd j us
/-- the node m steps above -/
def upN (ab : List (Option Nat)) : Nat → Nat → Option Nat
  | 0, l => some l
  | m + 1, l => match upN ab m l with
    | some c => (ab[c]?).join
    | none => none
section
variable {ns : List Nd} {ab : List (Option Nat)} {lv dp : List Nat} {names : List Int}
theorem upN_dp (G : Grown ns ab lv dp) {l dl : Nat} (hl : dp[l]? = some dl) : ∀ (m i : Nat), upN ab m l = some i → ∃ di, dp[i]? = some di ∧ dl = di + m
  | 0, i, h => by
    unfold upN at h
    cases h
    exact ⟨dl, hl, rfl⟩
  | m + 1, i, h => by
    unfold upN at h
    cases e : upN ab m l with
    | none => rw [e] at h; cases h
    | some c =>
      rw [e] at h
      have h : (ab[c]?).join = some i := h
      obtain ⟨dc, h1, h2⟩ := upN_dp G hl m c e
      have hac : ab[c]? = some (some i) := by
        cases z : ab[c]? with
        | none => rw [z] at h; cases h
        | some o =>
          rw [z] at h
          have h : o = some i := h
          rw [h]
      obtain ⟨j, cs, p1, p2⟩ := G.par c i hac
      obtain ⟨_, ⟨d, q1, q2⟩, _⟩ := (G.inn i j cs p1).2.2 c p2
      rw [h1] at q2
      cases q2
      exact ⟨d, q1, by omega⟩
/-- a leaf with the name n stands under i -/
def Under (ns : List Nd) (ab : List (Option Nat)) (names : List Int) (i : Nat) (n : Int) : Prop := ∃ (l k m : Nat), ns[l]? = some (Nd.leaf k) ∧ names[k]? = some n ∧ upN ab m l = some i
theorem Under.parent (G : Grown ns ab lv dp) {i c : Nat} {j : Bool} {cs : List Nat} {n : Int} (h : ns[i]? = some (Nd.inner j cs)) (hc : c ∈ cs) (u : Under ns ab names c n) : Under ns ab names i n := by
  obtain ⟨l, k, m, h1, h2, h3⟩ := u
  refine ⟨l, k, m + 1, h1, h2, ?_⟩
  unfold upN
  rw [h3]
  show (ab[c]?).join = _
  rw [((G.inn i j cs h).2.2 c hc).1]
  rfl
theorem name_ix (nd : names.Nodup) {a b : Nat} {n : Int} (ha : names[a]? = some n) (hb : names[b]? = some n) : a = b := by
  obtain ⟨la, ea⟩ := List.getElem?_eq_some_iff.mp ha
  obtain ⟨lb, eb⟩ := List.getElem?_eq_some_iff.mp hb
  rcases Nat.lt_trichotomy a b with h | h | h
  · exact absurd (ea.trans eb.symm) (List.pairwise_iff_getElem.mp nd a b la lb h)
  · exact h
  · exact absurd (eb.trans ea.symm) (List.pairwise_iff_getElem.mp nd b a lb la h)
theorem Under.apart (G : Grown ns ab lv dp) (nd : names.Nodup) {i c1 c2 : Nat} {j : Bool} {cs : List Nat} {n : Int} (h : ns[i]? = some (Nd.inner j cs)) (h1 : c1 ∈ cs) (h2 : c2 ∈ cs) (u1 : Under ns ab names c1 n) (u2 : Under ns ab names c2 n) : c1 = c2 := by
  obtain ⟨l1, k1, m1, a1, a2, a3⟩ := u1
  obtain ⟨l2, k2, m2, b1, b2, b3⟩ := u2
  have ek := name_ix nd a2 b2
  subst ek
  have el : l1 = l2 := by
    have x := G.fl l1 k1 a1
    have y := G.fl l2 k1 b1
    rw [x] at y
    exact Option.some.inj y
  subst el
  have hlt := lt_of_get a1
  obtain ⟨dl, hdl⟩ : ∃ dl, dp[l1]? = some dl := ⟨_, List.getElem?_eq_getElem (by rw [G.ld]; exact hlt)⟩
  obtain ⟨d1, x1, x2⟩ := upN_dp G hdl m1 c1 a3
  obtain ⟨d2, y1, y2⟩ := upN_dp G hdl m2 c2 b3
  obtain ⟨_, ⟨d, p1, p2⟩, _⟩ := (G.inn i j cs h).2.2 c1 h1
  obtain ⟨_, ⟨d', q1, q2⟩, _⟩ := (G.inn i j cs h).2.2 c2 h2
  rw [p1] at q1
  cases q1
  rw [x1] at p2
  rw [y1] at q2
  cases p2
  cases q2
  have em : m1 = m2 := by omega
  subst em
  rw [a3] at b3
  exact Option.some.inj b3
theorem least_in : ∀ t : Tr, t.form → t.least ∈ t.pts
  | .pt n, _ => by simp [Tr.least, Tr.pts]
  | .nd j ts, h => by
    rw [Tr.form] at h
    cases ts with
    | nil => simp at h
    | cons t us =>
      rw [Tr.least, Tr.pts, leastL, ptsL]
      have := least_in t (formL_iff.mp h.2.2 t (by simp)).1
      exact List.mem_append_left _ this
theorem mem_ptsL {ts : List Tr} {n : Int} : n ∈ ptsL ts ↔ ∃ t ∈ ts, n ∈ t.pts := by rw [ptsL_flat, List.mem_flatMap]
/-- what is built of grown nodes is a tree in its form -/
theorem built_ok (G : Grown ns ab lv dp) (nd : names.Nodup) : ∀ (d i : Nat) (t : Tr), Built ns names d i t → t.form ∧ t.pts.Nodup ∧ (∀ n ∈ t.pts, Under ns ab names i n) ∧ ((∃ k, ns[i]? = some (Nd.leaf k) ∧ t.wd = none) ∨ ∃ j cs, ns[i]? = some (Nd.inner j cs) ∧ t.wd = some j)
  | 0, i, t, h => False.elim h
  | d + 1, i, t, h => by
    unfold Built at h
    rcases h with ⟨k, n, h1, h2, rfl⟩ | ⟨j, cs, ts, us, h1, h2, h3, h4, h5, rfl⟩
    · refine ⟨by simp [Tr.form], by simp [Tr.pts], fun m hm => ?_, .inl ⟨k, h1, rfl⟩⟩
      have : m = n := by simpa [Tr.pts] using hm
      subst this
      exact ⟨i, k, 0, h1, h2, rfl⟩
    · obtain ⟨g1, g2, g3⟩ := G.inn i j cs h1
      have each : ∀ (m : Nat) (u : Tr), ts[m]? = some u → ∃ c, cs[m]? = some c ∧ c ∈ cs ∧ Built ns names d c u := fun m u hu => by
        have hm : m < cs.length := by rw [← h2]; exact lt_of_get hu
        exact ⟨cs[m], List.getElem?_eq_getElem hm, List.getElem_mem hm, h3 m _ u (List.getElem?_eq_getElem hm) hu⟩
      have eachM : ∀ u ∈ ts, ∃ c, c ∈ cs ∧ Built ns names d c u := fun u hu => by
        obtain ⟨m, hm, e⟩ := List.mem_iff_getElem.mp hu
        obtain ⟨c, _, b, x⟩ := each m u (by rw [List.getElem?_eq_getElem hm, e])
        exact ⟨c, b, x⟩
      have forms : ∀ u ∈ ts, u.form ∧ u.wd ≠ some j := fun u hu => by
        obtain ⟨c, hc, hb⟩ := eachM u hu
        obtain ⟨f1, _, _, f4⟩ := built_ok G nd d c u hb
        refine ⟨f1, fun e => ?_⟩
        rcases f4 with ⟨_, _, z⟩ | ⟨j', cs', y, z⟩
        · rw [z] at e; cases e
        · rw [z] at e
          cases e
          exact (g3 c hc).2.2 cs' y
      have apart : ts.Pairwise fun a b => ∀ n ∈ a.pts, ∀ m ∈ b.pts, n ≠ m := by
        rw [List.pairwise_iff_getElem]
        intro p q hp hq hpq n hn m hm e
        subst e
        obtain ⟨c1, x1, x2, x3⟩ := each p _ (List.getElem?_eq_getElem hp)
        obtain ⟨c2, y1, y2, y3⟩ := each q _ (List.getElem?_eq_getElem hq)
        have u1 := (built_ok G nd d c1 _ x3).2.2.1 n hn
        have u2 := (built_ok G nd d c2 _ y3).2.2.1 n hm
        have ec := Under.apart G nd h1 x2 y2 u1 u2
        obtain ⟨_, e1⟩ := List.getElem?_eq_some_iff.mp x1
        obtain ⟨_, e2⟩ := List.getElem?_eq_some_iff.mp y1
        exact List.pairwise_iff_getElem.mp g2 p q (by omega) (by omega) hpq (e1.trans (ec.trans e2.symm))
      have apartU : us.Pairwise fun a b => ∀ n ∈ a.pts, ∀ m ∈ b.pts, n ≠ m := h4.symm.pairwise apart fun {a b} hab n hn m hm e => hab m hm n hn e.symm
      have formsU : ∀ u ∈ us, u.form ∧ u.wd ≠ some j := fun u hu => forms u (h4.mem_iff.mp hu)
      have rise : (us.map Tr.least).Pairwise (· < ·) := by
        rw [List.pairwise_map]
        refine List.Pairwise.imp_of_mem (fun {a b} ha hb hab => ?_) (h5.and apartU)
        have := hab.2 _ (least_in a (formsU a ha).1) _ (least_in b (formsU b hb).1)
        have := hab.1
        omega
      refine ⟨?_, ?_, ?_, .inr ⟨j, cs, h1, rfl⟩⟩
      · rw [Tr.form]
        exact ⟨by rw [h4.length_eq, h2]; exact g1, rise, formL_iff.mpr formsU⟩
      · rw [Tr.pts, ptsL_flat]
        unfold List.Nodup
        rw [List.pairwise_flatMap]
        refine ⟨fun u hu => ?_, apartU⟩
        obtain ⟨c, _, hb⟩ := eachM u (h4.mem_iff.mp hu)
        exact (built_ok G nd d c u hb).2.1
      · intro n hn
        rw [Tr.pts, mem_ptsL] at hn
        obtain ⟨u, hu, hn⟩ := hn
        obtain ⟨c, hc, hb⟩ := eachM u (h4.mem_iff.mp hu)
        exact Under.parent G h1 hc ((built_ok G nd d c u hb).2.2.1 n hn)
/-- nothing is left out -/
theorem built_all (G : Grown ns ab lv dp) : ∀ (d i : Nat) (t : Tr), Built ns names d i t → ∀ n, Under ns ab names i n → n ∈ t.pts
  | 0, i, t, h, _, _ => False.elim h
  | d + 1, i, t, h, n, u => by
    unfold Built at h
    obtain ⟨l, k, m, u1, u2, u3⟩ := u
    cases m with
    | zero =>
      unfold upN at u3
      cases u3
      rcases h with ⟨k', n', h1, h2, rfl⟩ | ⟨j, cs, ts, us, h1, _⟩
      · rw [u1] at h1
        cases h1
        rw [u2] at h2
        cases h2
        simp [Tr.pts]
      · rw [u1] at h1; cases h1
    | succ m =>
      unfold upN at u3
      cases e : upN ab m l with
      | none => rw [e] at u3; cases u3
      | some c =>
        rw [e] at u3
        have u3 : (ab[c]?).join = some i := u3
        have hac : ab[c]? = some (some i) := by
          cases z : ab[c]? with
          | none => rw [z] at u3; cases u3
          | some o =>
            rw [z] at u3
            have u3 : o = some i := u3
            rw [u3]
        obtain ⟨j', cs', p1, p2⟩ := G.par c i hac
        rcases h with ⟨k', n', h1, _⟩ | ⟨j, cs, ts, us, h1, h2, h3, h4, h5, rfl⟩
        · rw [h1] at p1; cases p1
        · rw [h1] at p1
          cases p1
          obtain ⟨q, hq, eq⟩ := List.mem_iff_getElem.mp p2
          have hq' : q < ts.length := by omega
          have b := h3 q c ts[q] (by rw [List.getElem?_eq_getElem hq, eq]) (List.getElem?_eq_getElem hq')
          have := built_all G d c _ b n ⟨l, k, m, u1, u2, e⟩
          rw [Tr.pts, mem_ptsL]
          exact ⟨_, h4.mem_iff.mpr (List.getElem_mem hq'), this⟩
/-- all stand under the root -/
theorem under_root (G : Grown ns ab lv dp) {k : Nat} {n : Int} (hk : k < lv.length) (hn : names[k]? = some n) : Under ns ab names 0 n := by
  obtain ⟨l, hl⟩ : ∃ l, lv[k]? = some l := ⟨_, List.getElem?_eq_getElem hk⟩
  have h1 := G.lf k l hl
  have climb : ∀ (d c m : Nat), dp[c]? = some d → upN ab m l = some c → ∃ m', upN ab m' l = some 0 := by
    intro d
    induction d with
    | zero =>
      intro c m hc hm
      have cl := lt_of_get hc
      obtain ⟨o, ho⟩ : ∃ o, ab[c]? = some o := ⟨_, List.getElem?_eq_getElem (by rw [G.la, ← G.ld]; exact cl)⟩
      cases o with
      | none => exact ⟨m, by rw [hm, (G.top c ho).1]⟩
      | some p =>
        obtain ⟨j, cs, p1, p2⟩ := G.par c p ho
        obtain ⟨_, ⟨d', _, q2⟩, _⟩ := (G.inn p j cs p1).2.2 c p2
        rw [hc] at q2
        cases q2
    | succ d ih =>
      intro c m hc hm
      have cl := lt_of_get hc
      obtain ⟨o, ho⟩ : ∃ o, ab[c]? = some o := ⟨_, List.getElem?_eq_getElem (by rw [G.la, ← G.ld]; exact cl)⟩
      cases o with
      | none => exact ⟨m, by rw [hm, (G.top c ho).1]⟩
      | some p =>
        obtain ⟨j, cs, p1, p2⟩ := G.par c p ho
        obtain ⟨_, ⟨d', q1, q2⟩, _⟩ := (G.inn p j cs p1).2.2 c p2
        rw [hc] at q2
        cases q2
        refine ih p (m + 1) q1 ?_
        unfold upN
        rw [hm]
        show (ab[c]?).join = _
        rw [ho]
        rfl
  have ll := lt_of_get h1
  obtain ⟨d, hd⟩ : ∃ d, dp[l]? = some d := ⟨_, List.getElem?_eq_getElem (by rw [G.ld]; exact ll)⟩
  obtain ⟨m', hm'⟩ := climb d l 0 hd rfl
  exact ⟨l, k, m', h1, hn, hm'⟩
/-- the points of the whole -/
theorem built_pts (G : Grown ns ab lv dp) (nd : names.Nodup) {d : Nat} {t : Tr} (b : Built ns names d 0 t) (hl : lv.length ≤ names.length) : t.pts.Perm (names.take lv.length) := by
  obtain ⟨_, h2, h3, _⟩ := built_ok G nd d 0 t b
  refine (List.perm_ext_iff_of_nodup h2 (nd.sublist (List.take_sublist _ _))).mpr fun n => ⟨fun h => ?_, fun h => ?_⟩
  · obtain ⟨l, k, m, a1, a2, _⟩ := h3 n h
    have := lt_of_get (G.fl l k a1)
    exact List.mem_of_getElem? (i := k) (by rw [List.getElem?_take, if_pos this]; exact a2)
  · obtain ⟨k, hk, e⟩ := List.mem_iff_getElem.mp h
    rw [List.length_take] at hk
    rw [List.getElem_take] at e
    exact built_all G d 0 t b n (under_root G (k := k) (by omega) (by rw [List.getElem?_eq_getElem (by omega), e]))
end
end Jk

namespace Jk
open PySem L2 Evl
def jOrE (t u : TE) : TE := fun σ H Q => t σ H Q ∨ u σ H Q
@[simp] theorem j_orE {t u : TE} {σ : L2.St} {H : Hp} {Q : VK} : jOrE t u σ H Q = (t σ H Q ∨ u σ H Q) := rfl
theorem _root_.L2.PE.or {X : Cx} {e : Expr} {t u : TE} (h : PE X e t) (g : PE X e u) : PE X e (jOrE t u) := ⟨fun pins s σ H Q I q => q.elim (h.run pins s σ H Q I) (g.run pins s σ H Q I)⟩
/-! isinstance(x, D), x an object made by C -/
def jIsO (K : PySem.W.Frag) : List V → Hp → VK → Prop := fun xs H Q => ∃ a D, xs = [.ref a, .ref D] ∧ ∃ C b, (∃ dx fs, H a = some (.ins C dx fs)) ∧ Cls K C ∧ IsC K C ∧ PySem.W.kitOne K (.ref C) (.ref D) = some b ∧ Q (.bl b) H
@[simp] theorem j_isO {K : PySem.W.Frag} {a D : Addr} {H : Hp} {Q : VK} : jIsO K [.ref a, .ref D] H Q = ∃ C b, (∃ dx fs, H a = some (.ins C dx fs)) ∧ Cls K C ∧ IsC K C ∧ PySem.W.kitOne K (.ref C) (.ref D) = some b ∧ Q (.bl b) H := propext ⟨fun ⟨_, _, e, r⟩ => by cases e; exact r, fun r => ⟨_, _, rfl, r⟩⟩
theorem call_isO {X : Cx} {K0 : PySem.W.Frag} (hK : X.K = K0 := by rfl) : CallR X (.builtin "isinstance") (jIsO K0) := by
  subst hK
  exact callBy call_isi fun xs H Q ⟨a, D, e, C, b, ⟨dx, fs, h⟩, cl, ic, k, q⟩ => ⟨.ref a, .ref D, .ref C, .ref D, b, e, .own D, .base (.ins h cl ic.ha ic.hn ic.ht ic.hm), k, q⟩
end Jk

namespace Jk
open PySem L2 Evl
theorem nd_len {ns : List Int} {m : Nat} (nd : ns.Nodup) (h : ∀ n ∈ ns, 0 ≤ n ∧ n < (m : Int)) : ns.length ≤ m := by
  have e : ns.Perm (((List.range m).map fun (k : Nat) => (k : Int)).filter fun z => decide (z ∈ ns)) := by
    refine (List.perm_ext_iff_of_nodup nd ?_).mpr fun z => ?_
    · refine List.Pairwise.sublist List.filter_sublist ?_
      rw [List.pairwise_map]
      exact List.pairwise_lt_range.imp fun h => by omega
    · rw [List.mem_filter, decide_eq_true_iff, List.mem_map]
      constructor
      · intro hz
        have := h z hz
        exact ⟨⟨z.toNat, List.mem_range.mpr (by omega), by omega⟩, hz⟩
      · exact fun hz => hz.2
  rw [e.length_eq]
  refine Nat.le_trans (List.length_filter_le _ _) ?_
  rw [List.length_map, List.length_range]
  exact Nat.le_refl _
theorem LsI.up {H H' : Hp} {l : Addr} {ns : List Int} (h : LsI H l ns) (e : Ex H H') : LsI H' l ns := e _ _ h
end Jk

namespace Jk
open PySem L2 Evl
section
variable {X : Cx}
def jIndexI : V → List V → Hp → VK → Prop := fun x vs H Q => ∃ l v, x = .ref l ∧ vs = [.int v] ∧ ∃ ns j, LsI H l ns ∧ ns[j]? = some v ∧ (∀ m : Nat, m < j → ns[m]? ≠ some v) ∧ Q (.int (j : Nat)) H
@[simp] theorem j_indexI {l : Addr} {v : Int} {H : Hp} {Q : VK} : jIndexI (.ref l) [.int v] H Q = ∃ ns j, LsI H l ns ∧ ns[j]? = some v ∧ (∀ m : Nat, m < j → ns[m]? ≠ some v) ∧ Q (.int (j : Nat)) H := by simp [jIndexI]
theorem mt_indexI : MtR X "list.index" jIndexI := fun pins s σ H x xs v us Q I rx rxs ⟨l, n, e1, e2, ns, j, h, hj, hm, q⟩ => mt_index pins s σ H x xs v us Q I rx rxs (by
  refine ⟨l, ns.map V.int, .int n, j, .int n, e1, e2, .inl (.inl h), rfl, ?_, by rw [List.getElem?_map, hj]; rfl, by simp [eqV], fun m z hlt hz => ?_, q⟩
  · rw [List.all_map]
    exact List.all_eq_true.mpr fun _ _ => rfl
  · rw [List.getElem?_map] at hz
    cases e : ns[m]? with
    | none => rw [e] at hz; cases hz
    | some y =>
      rw [e] at hz
      cases hz
      have : y ≠ n := fun z => hm m hlt (by rw [e, z])
      simp [eqV, this])
def jSetL : V → V → V → Hp → (Hp → Prop) → Prop := fun o i v H Q => ∃ p k, o = .ref p ∧ i = .int k ∧ ∃ xs, H p = some (.lst xs) ∧ 0 ≤ k ∧ k.toNat < xs.length ∧ Q (L2.upd H p (.lst (xs.set k.toNat v)))
@[simp] theorem j_setL {p : Addr} {k : Int} {v : V} {H : Hp} {Q : Hp → Prop} : jSetL (.ref p) (.int k) v H Q = ∃ xs, H p = some (.lst xs) ∧ 0 ≤ k ∧ k.toNat < xs.length ∧ Q (L2.upd H p (.lst (xs.set k.toNat v))) := by simp [jSetL]
theorem set_listJ : PSet X jSetL := fun pins s σ H o i v u1 u2 u3 Q I r1 r2 r3 ⟨p, k, e1, e2, xs, h, h0, hk, q⟩ => set_list pins s σ H o i v u1 u2 u3 Q I r1 r2 r3 ⟨p, xs, k, k.toNat, e1, e2, h, by
  unfold ixN
  simp [h0, show ¬ k < 0 by omega, show k < (xs.length : Int) by omega], q⟩
@[simp] theorem j_gsub {to ti : TE} {t : TSet} {v : V} {σ : L2.St} {H : Hp} {Q : L2.St → Hp → Prop} : gSub to ti t v σ H Q = to σ H fun o H1 => ti σ H1 fun i H2 => t o i v H2 fun H3 => Q σ H3 := rfl
end
end Jk

namespace Jk
/-! ## ties of trees -/
def mmI (a b : Int) : Int × Int := (min a b, max a b)
theorem mm_cases {a b c d : Int} (h : mmI a b = mmI c d) : (a = c ∧ b = d) ∨ (a = d ∧ b = c) := by
  unfold mmI at h
  have h1 := congrArg Prod.fst h
  have h2 := congrArg Prod.snd h
  simp only at h1 h2
  omega
theorem mm_comm (a b : Int) : mmI a b = mmI b a := by
  unfold mmI
  rw [Int.min_comm, Int.max_comm]
def crossL (ah ps : List Int) : List (Int × Int) := ah.flatMap fun a => ps.map fun b => mmI a b
theorem mem_cross {ah ps : List Int} {p : Int × Int} : p ∈ crossL ah ps ↔ ∃ a ∈ ah, ∃ b ∈ ps, p = mmI a b := by
  unfold crossL
  simp only [List.mem_flatMap, List.mem_map]
  exact ⟨fun ⟨a, h1, b, h2, e⟩ => ⟨a, h1, b, h2, e.symm⟩, fun ⟨a, h1, b, h2, e⟩ => ⟨a, h1, b, h2, e.symm⟩⟩
theorem cross_len (ah ps : List Int) : (crossL ah ps).length = ah.length * ps.length := by
  unfold crossL
  induction ah with
  | nil => simp
  | cons a ah ih => rw [List.flatMap_cons, List.length_append, ih, List.length_map, List.length_cons, Nat.succ_mul]; omega
mutual
def Tr.ties : Tr → List (Int × Int)
  | .pt _ => []
  | .nd j ts => trTies j [] ts
def trTies (j : Bool) (ah : List Int) : List Tr → List (Int × Int)
  | [] => []
  | t :: ts => t.ties ++ (if j = true then crossL ah t.pts else []) ++ trTies j (ah ++ t.pts) ts
end
mutual
def Tr.tie : Tr → Int → Int → Bool
  | .pt _, _, _ => false
  | .nd j ts, a, b => tieL j ts a b
def tieL (j : Bool) : List Tr → Int → Int → Bool
  | [], _, _ => j
  | t :: ts, a, b => if a ∈ t.pts ∧ b ∈ t.pts then t.tie a b else tieL j ts a b
end
theorem trTies_app (j : Bool) (ah : List Int) (us ts : List Tr) : trTies j ah (us ++ ts) = trTies j ah us ++ trTies j (ah ++ ptsL us) ts := by
  induction us generalizing ah with
  | nil => simp [trTies, ptsL]
  | cons u us ih => rw [List.cons_append, trTies, trTies, ih, ptsL, ← List.append_assoc, ← List.append_assoc]
theorem trTies_snoc (j : Bool) (us : List Tr) (t : Tr) : trTies j [] (us ++ [t]) = trTies j [] us ++ (t.ties ++ (if j = true then crossL (ptsL us) t.pts else [])) := by
  rw [trTies_app]
  simp [trTies]
mutual
theorem ties_len : ∀ t : Tr, t.ties.length ≤ t.pts.length * t.pts.length
  | .pt n => by simp [Tr.ties]
  | .nd j ts => by
    rw [Tr.ties, Tr.pts]
    have := trTies_len j [] ts
    simpa using this
theorem trTies_len (j : Bool) (ah : List Int) : ∀ ts : List Tr, (trTies j ah ts).length + ah.length * ah.length ≤ (ah.length + (ptsL ts).length) * (ah.length + (ptsL ts).length)
  | [] => by simp [trTies, ptsL]
  | t :: ts => by
    have h1 := ties_len t
    have h2 := trTies_len j (ah ++ t.pts) ts
    rw [trTies, ptsL]
    simp only [List.length_append] at h2 ⊢
    have h3 : (if j = true then crossL ah t.pts else []).length ≤ ah.length * t.pts.length := by
      split
      · rw [cross_len]; exact Nat.le_refl _
      · simp
    generalize ah.length = a at *
    generalize t.pts.length = p at *
    generalize (ptsL ts).length = r at *
    have e : (a + p) * (a + p) = a * a + a * p + (a * p + p * p) := by rw [Nat.add_mul, Nat.mul_add, Nat.mul_add, Nat.mul_comm p a]
    have e2 : a + (p + r) = a + p + r := by omega
    rw [e2]
    omega
end
theorem ties_end (j : Bool) (ah : List Int) : ∀ (ts : List Tr), (∀ t ∈ ts, ∀ p ∈ t.ties, ∃ c ∈ t.pts, ∃ d ∈ t.pts, p = mmI c d) → ∀ p ∈ trTies j ah ts, ∃ c, ∃ d ∈ ptsL ts, c ∈ ah ++ ptsL ts ∧ p = mmI c d
  | [], _, p, h => by simp [trTies] at h
  | t :: ts, ih, p, h => by
    rw [trTies] at h
    rw [ptsL]
    rcases List.mem_append.mp h with h | h
    · rcases List.mem_append.mp h with h | h
      · obtain ⟨c, h1, d, h2, e⟩ := ih t (by simp) p h
        exact ⟨c, d, List.mem_append_left _ h2, by simp [h1], e⟩
      · split at h
        · obtain ⟨c, h1, d, h2, e⟩ := mem_cross.mp h
          exact ⟨c, d, List.mem_append_left _ h2, by simp [h1], e⟩
        · cases h
    · obtain ⟨c, d, h1, h2, e⟩ := ties_end j (ah ++ t.pts) ts (fun u hu => ih u (by simp [hu])) p h
      exact ⟨c, d, List.mem_append_right _ h1, by simpa [or_assoc] using h2, e⟩
theorem ties_in : ∀ (t : Tr), ∀ p ∈ t.ties, ∃ c ∈ t.pts, ∃ d ∈ t.pts, p = mmI c d
  | .pt n, p, h => by simp [Tr.ties] at h
  | .nd j ts, p, h => by
    rw [Tr.ties] at h
    rw [Tr.pts]
    obtain ⟨c, d, h1, h2, e⟩ := ties_end j [] ts (fun t ht => ties_in t) p h
    exact ⟨c, by simpa using h2, d, h1, e⟩
theorem tieL_out {j : Bool} : ∀ {ts : List Tr} {a b : Int}, (∀ t ∈ ts, ¬ (a ∈ t.pts ∧ b ∈ t.pts)) → tieL j ts a b = j
  | [], a, b, _ => by rw [tieL]
  | t :: ts, a, b, h => by
    rw [tieL, if_neg (h t (by simp))]
    exact tieL_out fun u hu => h u (by simp [hu])
theorem trTies_tie (j : Bool) {a b : Int} (ne : a ≠ b) : ∀ (ts : List Tr) (ah : List Int), (∀ t ∈ ts, a ∈ t.pts → b ∈ t.pts → (mmI a b ∈ t.ties ↔ t.tie a b = true)) → (ah ++ ptsL ts).Nodup → a ∈ ah ++ ptsL ts → b ∈ ah ++ ptsL ts → ¬ (a ∈ ah ∧ b ∈ ah) →
    (mmI a b ∈ trTies j ah ts ↔ tieL j ts a b = true)
  | [], ah, _, _, h1, h2, h3 => by simp [ptsL] at h1 h2; exact absurd ⟨h1, h2⟩ h3
  | t :: ts, ah, ih, nd, h1, h2, h3 => by
    rw [ptsL] at nd h1 h2
    have nd' : ((ah ++ t.pts) ++ ptsL ts).Nodup := by rw [List.append_assoc]; exact nd
    obtain ⟨n1, n2, n3⟩ := List.nodup_append.mp nd'
    obtain ⟨m1, m2, m3⟩ := List.nodup_append.mp n1
    have third : a ∈ ah ++ t.pts → b ∈ ah ++ t.pts → ¬ mmI a b ∈ trTies j (ah ++ t.pts) ts := fun ha hb h => by
      obtain ⟨c, d, hd, _, e⟩ := ties_end j _ ts (fun u hu => ties_in u) _ h
      rcases mm_cases e with ⟨_, e⟩ | ⟨e, _⟩
      · exact n3 b hb d hd e
      · exact n3 a ha d hd e
    rw [trTies, tieL, List.mem_append, List.mem_append]
    by_cases hb : a ∈ t.pts ∧ b ∈ t.pts
    · rw [if_pos hb]
      have z3 := third (List.mem_append_right _ hb.1) (List.mem_append_right _ hb.2)
      have z2 : ¬ mmI a b ∈ (if j = true then crossL ah t.pts else []) := fun h => by
        split at h
        · obtain ⟨c, hc, d, hd, e⟩ := mem_cross.mp h
          rcases mm_cases e with ⟨e, _⟩ | ⟨_, e⟩
          · exact m3 c hc a hb.1 e.symm
          · exact m3 c hc b hb.2 e.symm
        · cases h
      rw [← ih t (by simp) hb.1 hb.2]
      simp [z2, z3]
    · rw [if_neg hb]
      have z1 : ¬ mmI a b ∈ t.ties := fun h => by
        obtain ⟨c, hc, d, hd, e⟩ := ties_in t _ h
        rcases mm_cases e with ⟨e1, e2⟩ | ⟨e1, e2⟩ <;> subst e1 e2
        · exact hb ⟨hc, hd⟩
        · exact hb ⟨hd, hc⟩
      by_cases hat : a ∈ ah ++ t.pts ∧ b ∈ ah ++ t.pts
      · have z3 := third hat.1 hat.2
        have hc : mmI a b ∈ crossL ah t.pts := by
          rw [mem_cross]
          rcases List.mem_append.mp hat.1 with x | x <;> rcases List.mem_append.mp hat.2 with y | y
          · exact absurd ⟨x, y⟩ h3
          · exact ⟨a, x, b, y, rfl⟩
          · exact ⟨b, y, a, x, mm_comm a b⟩
          · exact absurd ⟨x, y⟩ hb
        have out : tieL j ts a b = j := tieL_out fun u hu ⟨x, _⟩ => n3 a hat.1 a (mem_ptsL.mpr ⟨u, hu, x⟩) rfl
        rw [out]
        simp only [z1, z3, false_or, or_false]
        cases j <;> simp [hc]
      · have z2 : ¬ mmI a b ∈ (if j = true then crossL ah t.pts else []) := fun h => by
          split at h
          · obtain ⟨c, hc, d, hd, e⟩ := mem_cross.mp h
            rcases mm_cases e with ⟨e1, e2⟩ | ⟨e1, e2⟩ <;> subst e1 e2
            · exact hat ⟨List.mem_append_left _ hc, List.mem_append_right _ hd⟩
            · exact hat ⟨List.mem_append_right _ hd, List.mem_append_left _ hc⟩
          · cases h
        simp only [z1, z2, false_or]
        exact trTies_tie j ne ts (ah ++ t.pts) (fun u hu => ih u (by simp [hu])) nd' (by rw [List.append_assoc]; exact h1) (by rw [List.append_assoc]; exact h2) hat
theorem nd_part {ts : List Tr} (nd : (ptsL ts).Nodup) {t : Tr} (ht : t ∈ ts) : t.pts.Nodup := by
  rw [ptsL_flat] at nd
  unfold List.Nodup at nd
  rw [List.pairwise_flatMap] at nd
  exact nd.1 t ht
/-- tied, as the law lists it and as it is asked -/
theorem ties_tie : ∀ (t : Tr), t.pts.Nodup → ∀ {a b : Int}, a ≠ b → a ∈ t.pts → b ∈ t.pts → (mmI a b ∈ t.ties ↔ t.tie a b = true)
  | .pt n, _, a, b, ne, h1, h2 => by
    simp [Tr.pts] at h1 h2
    exact absurd (h1.trans h2.symm) ne
  | .nd j ts, nd, a, b, ne, h1, h2 => by
    rw [Tr.pts] at nd h1 h2
    rw [Tr.ties, Tr.tie]
    refine trTies_tie j ne ts [] (fun t ht x y => ties_tie t ?_ ne x y) (by simpa using nd) (by simpa using h1) (by simpa using h2) (by simp)
    exact nd_part nd ht
theorem ties_nodupL (j : Bool) : ∀ (ts : List Tr) (ah : List Int), (∀ t ∈ ts, t.ties.Nodup) → (ah ++ ptsL ts).Nodup → (trTies j ah ts).Nodup
  | [], ah, _, _ => by simp [trTies]
  | t :: ts, ah, ih, nd => by
    rw [ptsL] at nd
    have nd' : ((ah ++ t.pts) ++ ptsL ts).Nodup := by rw [List.append_assoc]; exact nd
    obtain ⟨n1, n2, n3⟩ := List.nodup_append.mp nd'
    obtain ⟨m1, m2, m3⟩ := List.nodup_append.mp n1
    have two : (if j = true then crossL ah t.pts else []).Nodup := by
      split
      · unfold crossL List.Nodup
        rw [List.pairwise_flatMap]
        refine ⟨fun a ha => ?_, ?_⟩
        · rw [List.pairwise_map]
          refine List.Pairwise.imp_of_mem (fun {b c} hb hc hne e => ?_) m2
          rcases mm_cases e with ⟨_, e⟩ | ⟨e, _⟩
          · exact hne e
          · exact m3 a ha c hc e
        · refine List.Pairwise.imp_of_mem (fun {b c} hb hc hne x hx y hy e => ?_) m1
          obtain ⟨p, hp, rfl⟩ := List.mem_map.mp hx
          obtain ⟨q, hq, rfl⟩ := List.mem_map.mp hy
          rcases mm_cases e with ⟨e, _⟩ | ⟨e, _⟩
          · exact hne e
          · exact m3 b hb q hq e
      · exact List.nodup_nil
    rw [trTies]
    rw [List.nodup_append, List.nodup_append]
    refine ⟨⟨ih t (by simp), two, fun p hp q hq e => ?_⟩, ties_nodupL j ts _ (fun u hu => ih u (by simp [hu])) nd', fun p hp q hq e => ?_⟩
    · subst e
      split at hq
      · obtain ⟨c, hc, d, hd, e⟩ := ties_in t _ hp
        obtain ⟨c', hc', d', hd', e'⟩ := mem_cross.mp hq
        rw [e] at e'
        rcases mm_cases e' with ⟨e1, _⟩ | ⟨_, e2⟩
        · exact m3 c' hc' c hc e1.symm
        · exact m3 c' hc' d hd e2.symm
      · cases hq
    · subst e
      obtain ⟨c, d, hd, _, e⟩ := ties_end j _ ts (fun u hu => ties_in u) _ hq
      have both : ∃ x y, x ∈ ah ++ t.pts ∧ y ∈ ah ++ t.pts ∧ p = mmI x y := by
        rcases List.mem_append.mp hp with hp | hp
        · obtain ⟨c, hc, d, hd, e⟩ := ties_in t _ hp
          exact ⟨c, d, List.mem_append_right _ hc, List.mem_append_right _ hd, e⟩
        · split at hp
          · obtain ⟨c, hc, d, hd, e⟩ := mem_cross.mp hp
            exact ⟨c, d, List.mem_append_left _ hc, List.mem_append_right _ hd, e⟩
          · cases hp
      obtain ⟨x, y, hx, hy, e2⟩ := both
      rw [e2] at e
      rcases mm_cases e with ⟨_, e⟩ | ⟨e, _⟩
      · exact n3 y hy d hd e
      · exact n3 x hx d hd e
theorem ties_nodup : ∀ (t : Tr), t.pts.Nodup → t.ties.Nodup
  | .pt n, _ => by simp [Tr.ties]
  | .nd j ts, nd => by
    rw [Tr.pts] at nd
    rw [Tr.ties]
    refine ties_nodupL j ts [] (fun t ht => ties_nodup t ?_) (by simpa using nd)
    exact nd_part nd ht
theorem mm_lt {a b : Int} (h : a ≠ b) : (mmI a b).1 < (mmI a b).2 := by
  show min a b < max a b
  omega
theorem ties_ltL (j : Bool) : ∀ (ts : List Tr) (ah : List Int), (∀ t ∈ ts, ∀ p ∈ t.ties, p.1 < p.2) → (ah ++ ptsL ts).Nodup → ∀ p ∈ trTies j ah ts, p.1 < p.2
  | [], ah, _, _, p, h => by simp [trTies] at h
  | t :: ts, ah, ih, nd, p, h => by
    rw [ptsL] at nd
    have nd' : ((ah ++ t.pts) ++ ptsL ts).Nodup := by rw [List.append_assoc]; exact nd
    obtain ⟨n1, n2, n3⟩ := List.nodup_append.mp nd'
    obtain ⟨m1, m2, m3⟩ := List.nodup_append.mp n1
    rw [trTies] at h
    rcases List.mem_append.mp h with h | h
    · rcases List.mem_append.mp h with h | h
      · exact ih t (by simp) p h
      · split at h
        · obtain ⟨c, hc, d, hd, e⟩ := mem_cross.mp h
          rw [e]
          exact mm_lt (m3 c hc d hd)
        · cases h
    · exact ties_ltL j ts _ (fun u hu => ih u (by simp [hu])) nd' p h
theorem ties_lt : ∀ (t : Tr), t.pts.Nodup → ∀ p ∈ t.ties, p.1 < p.2
  | .pt n, _, p, h => by simp [Tr.ties] at h
  | .nd j ts, nd, p, h => by
    rw [Tr.pts] at nd
    rw [Tr.ties] at h
    exact ties_ltL j ts [] (fun t ht => ties_lt t (nd_part nd ht)) (by simpa using nd) p h
theorem pts_nd {j : Bool} {ts : List Tr} (nd : (Tr.nd j ts).pts.Nodup) {t : Tr} (ht : t ∈ ts) : t.pts.Nodup := by
  rw [Tr.pts] at nd
  exact nd_part nd ht
end Jk

namespace Jk
open PySem L2 Evl
theorem take_one {α : Type} {l : List α} {i : Nat} {x : α} (h : l[i]? = some x) : l.take (i + 1) = l.take i ++ [x] := by rw [List.take_add_one, h]; rfl
/-! ## comprehensions whose pieces stay as they are -/
section
variable {K : PySem.W.Frag} {a : Addr} {xs : List V} {g : TG} {te : TE} {vs : List Nat} {σ : L2.St} {H1 : Hp} {D : Addr} {Qd : Hp → Prop}
def StayD (D : Addr) (S : Nat → V → Hp → Prop) : Prop := ∀ i y H H' acc, S i y H → H D = some (.lst acc) → (∀ x o, H x = some o → x ≠ D → H' x = some o) → S i y H'
structure CompS (D : Addr) (H1 : Hp) (S : Nat → V → Hp → Prop) (i : Nat) (H : Hp) : Prop where
  ex : Ex H1 H
  ac : ∃ acc : List V, H D = some (.lst acc) ∧ acc.length = i ∧ ∀ (k : Nat) (y : V), acc[k]? = some y → S k y H
theorem CompS.start {S : Nat → V → Hp → Prop} (hD : H1 D = none) : CompS D H1 S 0 (upd H1 D (.lst [])) := ⟨Ex.new hD, [], upd_same, rfl, fun k y h => by simp at h⟩
theorem CompS.push {S : Nat → V → Hp → Prop} (st : StayD D S) (hD : H1 D = none) {i : Nat} {H H4 : Hp} {y : V} (c : CompS D H1 S i H) (e : Ex H H4) (hy : S i y H4) (hi : i < 100000) : ∃ acc, H4 D = some (.lst acc) ∧ acc.length < sizeLine ∧ CompS D H1 S (i + 1) (upd H4 D (.lst (acc ++ [y]))) := by
  obtain ⟨e1, acc, h1, h2, h3⟩ := c
  have h4 := e _ _ h1
  have kk : ∀ x o, H4 x = some o → x ≠ D → (upd H4 D (.lst (acc ++ [y]))) x = some o := fun x o z ne => by rw [upd_ne ne]; exact z
  refine ⟨acc, h4, lt_line (by omega), Ex.mut (e1.trans e) hD, _, upd_same, by simp [h2], fun k z hz => ?_⟩
  rcases app_get hz with ⟨_, q⟩ | ⟨q1, q2⟩
  · exact st k z _ _ _ (st k z _ _ _ (h3 k z q) h1 fun x o w _ => e x o w) h4 kk
  · subst q2
    rw [q1, h2]
    exact st i z _ _ _ hy h4 kk
theorem lc_listS (S : Nat → V → Hp → Prop) (st : StayD D S) (hD : H1 D = none) (hl : SqL K H1 a xs) (few : xs.length ≤ 100000)
    (hs : ∀ i x H (N : V → Hp → Prop), xs[i]? = some x → Ex H1 H → H D ≠ none → (∀ y H4, Ex H H4 → S i y H4 → N y H4) → g x (wipe σ vs) H fun σ2 H2 => wipe σ2 vs = wipe σ vs ∧ te σ2 H2 N)
    (hd : ∀ acc H', Ex H1 H' → H' D = some (.lst acc) → acc.length = xs.length → (∀ (i : Nat) (y : V), acc[i]? = some y → S i y H') → Qd H') :
    ∃ W : Nat → Nat → Hp → Prop, (∃ m, W 0 m (upd H1 D (.lst []))) ∧ ∀ i m H, W i m H →
      ((Itl K a).stop i H ∧ Qd H) ∨ ((Itl K a).go i H ∧ ∃ Nx : Hp → Prop, (∀ H', Nx H' → ∃ m', m' < m ∧ W (i + 1) m' H') ∧ ∀ x H', (Itl K a).yld i H x H' → g x (wipe σ vs) H' fun σ2 H2 => wipe σ2 vs = wipe σ vs ∧ tYes σ2 H2 fun b H3 =>
        if b = true then te σ2 H3 fun y H4 => ∃ acc, H4 D = some (.lst acc) ∧ acc.length < sizeLine ∧ Nx (upd H4 D (.lst (acc ++ [y]))) else Nx H3) := by
  refine lc_list (xs := xs) (CompS D H1 S) (CompS.start hD) (fun i H _ c => ?_) (fun i x H hx c => ?_) (fun H c => ?_)
  · rcases hl with (h | ⟨o, h⟩) | h
    · exact .inl (.inl (c.ex _ _ h))
    · exact .inl (.inr ⟨o, c.ex _ _ h⟩)
    · exact .inr h
  · obtain ⟨acc, h1, _⟩ := id c.ac
    exact hs i x H _ hx c.ex (by rw [h1]; simp) fun y H4 e hy => c.push st hD e hy (by have := lt_of_get hx; omega)
  · obtain ⟨e, acc, h1, h2, h3⟩ := c
    exact hd acc H e h1 h2 h3
theorem lc_tupS (S : Nat → V → Hp → Prop) (st : StayD D S) (hD : H1 D = none) (hl : SqT K H1 a xs) (few : xs.length ≤ 100000)
    (hs : ∀ i x H (N : V → Hp → Prop), xs[i]? = some x → Ex H1 H → H D ≠ none → (∀ y H4, Ex H H4 → S i y H4 → N y H4) → g x (wipe σ vs) H fun σ2 H2 => wipe σ2 vs = wipe σ vs ∧ te σ2 H2 N)
    (hd : ∀ acc H', Ex H1 H' → H' D = some (.lst acc) → acc.length = xs.length → (∀ (i : Nat) (y : V), acc[i]? = some y → S i y H') → Qd H') :
    ∃ W : Nat → Nat → Hp → Prop, (∃ m, W 0 m (upd H1 D (.lst []))) ∧ ∀ i m H, W i m H →
      ((Itt K a).stop i H ∧ Qd H) ∨ ((Itt K a).go i H ∧ ∃ Nx : Hp → Prop, (∀ H', Nx H' → ∃ m', m' < m ∧ W (i + 1) m' H') ∧ ∀ x H', (Itt K a).yld i H x H' → g x (wipe σ vs) H' fun σ2 H2 => wipe σ2 vs = wipe σ vs ∧ tYes σ2 H2 fun b H3 =>
        if b = true then te σ2 H3 fun y H4 => ∃ acc, H4 D = some (.lst acc) ∧ acc.length < sizeLine ∧ Nx (upd H4 D (.lst (acc ++ [y]))) else Nx H3) := by
  refine lc_tup (xs := xs) (CompS D H1 S) (CompS.start hD) (fun i H _ c => ?_) (fun i x H hx c => ?_) (fun H c => ?_)
  · rcases hl with (h | ⟨o, h⟩) | h
    · exact .inl (.inl (c.ex _ _ h))
    · exact .inl (.inr ⟨o, c.ex _ _ h⟩)
    · exact .inr h
  · obtain ⟨acc, h1, _⟩ := id c.ac
    exact hs i x H _ hx c.ex (by rw [h1]; simp) fun y H4 e hy => c.push st hD e hy (by have := lt_of_get hx; omega)
  · obtain ⟨e, acc, h1, h2, h3⟩ := c
    exact hd acc H e h1 h2 h3
theorem lc_rangeS {lo : Int} {n : Nat} (S : Nat → V → Hp → Prop) (st : StayD D S) (hD : H1 D = none) (few : n ≤ 100000)
    (hs : ∀ i H (N : V → Hp → Prop), i < n → Ex H1 H → H D ≠ none → (∀ y H4, Ex H H4 → S i y H4 → N y H4) → g (.int (lo + i)) (wipe σ vs) H fun σ2 H2 => wipe σ2 vs = wipe σ vs ∧ te σ2 H2 N)
    (hd : ∀ acc H', Ex H1 H' → H' D = some (.lst acc) → acc.length = n → (∀ (i : Nat) (y : V), acc[i]? = some y → S i y H') → Qd H') :
    ∃ W : Nat → Nat → Hp → Prop, (∃ m, W 0 m (upd H1 D (.lst []))) ∧ ∀ i m H, W i m H →
      ((Itr lo n).stop i H ∧ Qd H) ∨ ((Itr lo n).go i H ∧ ∃ Nx : Hp → Prop, (∀ H', Nx H' → ∃ m', m' < m ∧ W (i + 1) m' H') ∧ ∀ x H', (Itr lo n).yld i H x H' → g x (wipe σ vs) H' fun σ2 H2 => wipe σ2 vs = wipe σ vs ∧ tYes σ2 H2 fun b H3 =>
        if b = true then te σ2 H3 fun y H4 => ∃ acc, H4 D = some (.lst acc) ∧ acc.length < sizeLine ∧ Nx (upd H4 D (.lst (acc ++ [y]))) else Nx H3) := by
  refine lc_range (CompS D H1 S) (CompS.start hD) (fun i H hi c => ?_) (fun H c => ?_)
  · obtain ⟨acc, h1, _⟩ := id c.ac
    exact hs i H _ hi c.ex (by rw [h1]; simp) fun y H4 e hy => c.push st hD e hy (by omega)
  · obtain ⟨e, acc, h1, h2, h3⟩ := c
    exact hd acc H e h1 h2 h3
end
/-! what stays -/
theorem stay_val {D : Addr} {f : Nat → V} : StayD D fun i y _ => y = f i := fun i y H H' acc h _ _ => h
theorem ToldAt.stay {D : Addr} {H H' : Hp} {acc : List V} {t : Tr} {v : V} (h : ToldAt H v t) (hD : H D = some (.lst acc)) (k : ∀ x o, H x = some o → x ≠ D → H' x = some o) : ToldAt H' v t :=
  h.map (fun x o z => k _ _ z (ne_of z hD (by intro y; cases y)))
theorem stay_told {D : Addr} {f : Nat → Tr → Prop} : StayD D fun i y H => ∃ t, f i t ∧ ToldAt H y t := fun i y H H' acc ⟨t, h1, h2⟩ hD k => ⟨t, h1, h2.stay hD k⟩
theorem stay_pair {D : Addr} {f : Nat → Int × Int} : StayD D fun i y H => ∃ t, y = .ref t ∧ H t = some (.tup [.int (f i).1, .int (f i).2]) := fun i y H H' acc ⟨t, h1, h2⟩ hD k => ⟨t, h1, k _ _ h2 (ne_of h2 hD (by intro y; cases y))⟩
theorem lsP_of {H : Hp} {D : Addr} {acc : List V} {prs : List (Int × Int)} (h : H D = some (.lst acc)) (hl : acc.length = prs.length) (k : ∀ (i : Nat) (y : V), acc[i]? = some y → ∃ t, y = .ref t ∧ ∃ p, prs[i]? = some p ∧ H t = some (.tup [.int p.1, .int p.2])) : LsP H D prs := by
  have gen : ∀ (acc : List V) (prs : List (Int × Int)), acc.length = prs.length → (∀ (i : Nat) (y : V), acc[i]? = some y → ∃ t, y = .ref t ∧ ∃ p, prs[i]? = some p ∧ H t = some (.tup [.int p.1, .int p.2])) → ∃ ts : List Addr, acc = ts.map V.ref ∧ TupsAt H ts prs := by
    intro acc
    induction acc with
    | nil =>
      intro prs hl _
      have : prs = [] := List.length_eq_zero_iff.mp hl.symm
      subst this
      exact ⟨[], rfl, TupsAt.nil _⟩
    | cons y acc ih =>
      intro prs hl kk
      cases prs with
      | nil => simp at hl
      | cons p prs =>
        obtain ⟨t, e, p', hp, ht⟩ := kk 0 y rfl
        cases hp
        obtain ⟨ts, e2, h2⟩ := ih prs (by simpa using hl) fun i z hz => kk (i + 1) z (by simpa using hz)
        exact ⟨t :: ts, by rw [e, e2]; rfl, TupsAt.cons.mpr ⟨ht, h2⟩⟩
  obtain ⟨ts, e, h2⟩ := gen acc prs hl k
  exact ⟨ts, by rw [h, e], h2⟩
theorem ints_of {acc : List V} {ns : List Int} (hl : acc.length = ns.length) (k : ∀ (i : Nat) (y : V), acc[i]? = some y → ∃ n, ns[i]? = some n ∧ y = .int n) : acc = ns.map V.int := by
  refine List.ext_getElem? fun i => ?_
  rw [List.getElem?_map]
  cases e : acc[i]? with
  | none =>
    rw [List.getElem?_eq_none_iff] at e
    rw [List.getElem?_eq_none (by omega)]
    rfl
  | some y =>
    obtain ⟨n, h1, h2⟩ := k i y e
    rw [h1, h2]
    rfl
end Jk

namespace Jk
open PySem L2 Evl
/-! ## sorted ints -/
def srt (l : List Int) : List Int := l.mergeSort fun a b => decide (a ≤ b)
theorem srt_perm (l : List Int) : (srt l).Perm l := List.mergeSort_perm _ _
theorem srt_le (l : List Int) : (srt l).Pairwise (· ≤ ·) := by
  have z := List.pairwise_mergeSort (le := fun a b : Int => decide (a ≤ b)) (fun a b c h1 h2 => decide_eq_true (Int.le_trans (of_decide_eq_true h1) (of_decide_eq_true h2))) (fun a b => by
    by_cases h : a ≤ b
    · simp [h]
    · simp [show b ≤ a by omega]) l
  exact z.imp fun h => of_decide_eq_true h
theorem le_uniq : ∀ {l m : List Int}, l.Perm m → l.Pairwise (· ≤ ·) → m.Pairwise (· ≤ ·) → l = m
  | [], m, p, _, _ => (List.nil_perm.mp p).symm
  | a :: l, [], p, _, _ => by have := p.length_eq; simp at this
  | a :: l, b :: m, p, h, g => by
    have ea : a = b := by
      have x1 := (List.pairwise_cons.mp h).1
      have y1 := (List.pairwise_cons.mp g).1
      rcases List.mem_cons.mp (p.mem_iff.mp (List.mem_cons_self (a := a))) with e | e
      · exact e
      · rcases List.mem_cons.mp (p.mem_iff.mpr (List.mem_cons_self (a := b))) with e' | e'
        · exact e'.symm
        · have := x1 b e'
          have := y1 a e
          omega
    subst ea
    rw [le_uniq ((List.perm_cons a).mp p) (List.pairwise_cons.mp h).2 (List.pairwise_cons.mp g).2]
theorem srt_uniq {l ys : List Int} (p : ys.Perm l) (h : ys.Pairwise (· ≤ ·)) : ys = srt l := le_uniq (p.trans (srt_perm l).symm) h (srt_le l)
theorem srt_len (l : List Int) : (srt l).length = l.length := (srt_perm l).length_eq
theorem srt_mem {l : List Int} {x : Int} : x ∈ srt l ↔ x ∈ l := (srt_perm l).mem_iff
theorem srt_of_perm {l m : List Int} (p : l.Perm m) : srt l = srt m := srt_uniq ((srt_perm l).trans p) (srt_le l)
theorem srt_fix {l : List Int} (h : l.Pairwise (· ≤ ·)) : srt l = l := (srt_uniq (List.Perm.refl l) h).symm
section
variable {X : Cx}
def jSorted (K : PySem.W.Frag) : List V → Hp → VK → Prop := fun vs H Q => ∃ (a : Addr) (ns : List Int), vs = [V.ref a] ∧ LsI H a ns ∧ ns.length < 64 ∧ ∀ p H2, H p = none → Ex H H2 → LsI H2 p (srt ns) → Q (.ref p) H2
theorem call_sortJ {K0 : PySem.W.Frag} (hK : X.K = K0 := by rfl) : CallR X (.builtin "sorted") (jSorted K0) := by
  subst hK
  exact callBy cr_sorted fun vs H Q ⟨a, ns, e, h, l, q⟩ => ⟨a, ns, e, .inl (.inl h), l, fun ns' p h1 h2 h3 => q p _ h3 (Ex.new h3) (by rw [srt_uniq h1 h2] at *; exact upd_same)⟩
@[simp] theorem j_sorted {K : PySem.W.Frag} {a : Addr} {H : Hp} {Q : VK} : jSorted K [.ref a] H Q = ∃ ns : List Int, LsI H a ns ∧ ns.length < 64 ∧ ∀ p H2, H p = none → Ex H H2 → LsI H2 p (srt ns) → Q (.ref p) H2 := by simp [jSorted]
end
theorem pi_listK {X : Cx} {K0 : PySem.W.Frag} {tg l : Expr} {tl : TE} (hl : PE X l tl) (hK : X.K = K0 := by rfl) : PI X tg l (iList K0 tl) := by
  subst hK
  exact pi_list hl
theorem pi_tupK {X : Cx} {K0 : PySem.W.Frag} {tg l : Expr} {tl : TE} (hl : PE X l tl) (hK : X.K = K0 := by rfl) : PI X tg l (iTup K0 tl) := by
  subst hK
  exact pi_tup hl
/-! ## [y for ys in xs for y in ..] -/
section
variable {K : PySem.W.Frag} {a : Addr} {xs : List V} {g g1 : TG} {wi1 : TI} {te : TE} {vs vs1 : List Nat} {σ : L2.St} {H1 : Hp} {D : Addr} {Qd : Hp → Prop}
theorem flat_take {α : Type} {ls : List (List α)} {i : Nat} {l : List α} (h : ls[i]? = some l) : (ls.take (i + 1)).flatten = (ls.take i).flatten ++ l := by rw [take_one h]; simp
theorem flat_le {α : Type} (ls : List (List α)) (i : Nat) : (ls.take i).flatten.length ≤ ls.flatten.length := by
  have z : ls.flatten = (ls.take i).flatten ++ (ls.drop i).flatten := by rw [← List.flatten_append, List.take_append_drop]
  rw [z, List.length_append]; omega
theorem sql_kp {H H' : Hp} {b : Addr} {xs : List V} (h : SqL K H b xs) (k : ∀ o, H b = some o → H' b = some o) : SqL K H' b xs := by
  rcases h with (h | ⟨o, h⟩) | h
  · exact .inl (.inl (k _ h))
  · exact .inl (.inr ⟨o, k _ h⟩)
  · exact .inr h
theorem lc2_list (ls : List (List V)) (hD : H1 D = none) (hl : SqL K H1 a xs) (len : ls.length = xs.length) (few : ls.flatten.length ≤ 100000)
    (hs : ∀ i x H, xs[i]? = some x → Ex H1 H → H D ≠ none → g x (wipe σ vs) H fun σ2 H2 => wipe σ2 vs = wipe σ vs ∧
      (∀ N : It → Hp → Prop, (∀ b H4, Ex H H4 → b ≠ D → SqL K H4 b (ls.getD i []) → N (Itl K b) H4) → wi1 σ2 H2 N) ∧ H2 = H ∧ ∀ (y : V) (H : Hp) (N : V → Hp → Prop), N y H → g1 y (wipe σ2 vs1) H fun σ3 H5 => wipe σ3 vs1 = wipe σ2 vs1 ∧ te σ3 H5 N)
    (mg : ∀ x σ H Q Q', (∀ s h, Q s h → Q' s h) → g x σ H Q → g x σ H Q') (mg1 : ∀ x σ H Q Q', (∀ s h, Q s h → Q' s h) → g1 x σ H Q → g1 x σ H Q')
    (hd : ∀ H', Ex H1 H' → H' D = some (.lst ls.flatten) → Qd H') :
    ∃ W : Nat → Nat → Hp → Prop, (∃ m, W 0 m (upd H1 D (.lst []))) ∧ ∀ i m H, W i m H →
  ((Itl K a).stop i H ∧ Qd H) ∨ ((Itl K a).go i H ∧ ∃ Nx : Hp → Prop, (∀ H', Nx H' → ∃ m', m' < m ∧ W (i + 1) m' H') ∧ ∀ x H', (Itl K a).yld i H x H' → g x (wipe σ vs) H' fun σ2 H2 => wipe σ2 vs = wipe σ vs ∧ tYes σ2 H2 fun b H3 =>
    if b = true then wi1 σ2 H3 fun J1 H4 => ∃ W1 : Nat → Nat → Hp → Prop, (∃ m, W1 0 m H4) ∧ ∀ j k H, W1 j k H →
      (J1.stop j H ∧ Nx H) ∨ (J1.go j H ∧ ∃ Nx1 : Hp → Prop, (∀ H', Nx1 H' → ∃ k', k' < k ∧ W1 (j + 1) k' H') ∧ ∀ x H', J1.yld j H x H' → g1 x (wipe σ2 vs1) H' fun σ3 H5 => wipe σ3 vs1 = wipe σ2 vs1 ∧ tYes σ3 H5 fun b H6 =>
        if b = true then te σ3 H6 fun y H7 => ∃ acc, H7 D = some (.lst acc) ∧ acc.length < sizeLine ∧ Nx1 (upd H7 D (.lst (acc ++ [y]))) else Nx1 H6)
    else Nx H3) := by
  refine ⟨fun i m H => m = xs.length - i ∧ i ≤ xs.length ∧ Ex H1 H ∧ H D = some (.lst (ls.take i).flatten), ⟨xs.length, by simp, Nat.zero_le _, Ex.new hD, by simpa using upd_same⟩, ?_⟩
  rintro i m H ⟨rfl, hi, e, hDl⟩
  have hl' : SqL K H a xs := sql_kp hl fun o z => e _ _ z
  by_cases hlt : i < xs.length
  · have hx : xs[i]? = some xs[i] := List.getElem?_eq_getElem hlt
    have hls : ls[i]? = some ls[i] := List.getElem?_eq_getElem (by omega)
    refine .inr ⟨⟨xs, xs[i], hl', hx⟩, fun H' => Ex H1 H' ∧ H' D = some (.lst (ls.take (i + 1)).flatten), fun H' q => ⟨xs.length - (i + 1), by omega, rfl, hlt, q⟩, fun x H' y => ?_⟩
    obtain ⟨e', y⟩ := y
    subst e'
    have hx' := y xs hl'
    refine mg _ _ _ _ _ (fun s2 h2 q => ?_) (hs i x H' hx' e (by rw [hDl]; simp))
    obtain ⟨q1, q2, q3, q4⟩ := q
    subst q3
    refine ⟨q1, ?_⟩
    show wi1 s2 h2 _
    refine q2 _ fun b H4 e4 nb hb => ?_
    rw [List.getD_eq_getElem?_getD, hls] at hb
    have hb : SqL K H4 b ls[i] := hb
    have fl := flat_le ls (i + 1)
    rw [flat_take hls, List.length_append] at fl
    refine ⟨fun j k H => k = ls[i].length - j ∧ j ≤ ls[i].length ∧ Ex H1 H ∧ SqL K H b ls[i] ∧ H D = some (.lst ((ls.take i).flatten ++ ls[i].take j)), ⟨ls[i].length, by simp, Nat.zero_le _, e.trans e4, hb, by simpa using e4 _ _ hDl⟩, ?_⟩
    rintro j k H5 ⟨rfl, hj, e5, hb5, hD5⟩
    by_cases hjl : j < ls[i].length
    · have hz : ls[i][j]? = some ls[i][j] := List.getElem?_eq_getElem hjl
      refine .inr ⟨⟨_, _, hb5, hz⟩, fun H' => Ex H1 H' ∧ SqL K H' b ls[i] ∧ H' D = some (.lst ((ls.take i).flatten ++ ls[i].take (j + 1))), fun H' q => ⟨ls[i].length - (j + 1), by omega, rfl, hjl, q⟩, fun x2 H' y => ?_⟩
      obtain ⟨e', y⟩ := y
      subst e'
      have hz2 := y _ hb5
      rw [hz] at hz2
      cases hz2
      refine mg1 _ _ _ _ _ (fun s3 h3 q => ?_) (q4 ls[i][j] H' (fun y H7 => ∃ acc, H7 D = some (.lst acc) ∧ acc.length < sizeLine ∧ Ex H1 (upd H7 D (.lst (acc ++ [y]))) ∧ SqL K (upd H7 D (.lst (acc ++ [y]))) b ls[i] ∧ (upd H7 D (.lst (acc ++ [y]))) D = some (.lst ((ls.take i).flatten ++ ls[i].take (j + 1)))) ⟨_, hD5, lt_line (by rw [List.length_append, List.length_take]; omega), Ex.mut e5 hD, sql_kp hb5 fun o z => by rw [upd_ne nb]; exact z, ?_⟩)
      · exact q
      · rw [upd_same, take_one hz, List.append_assoc]
    · have ej : j = ls[i].length := by omega
      refine .inl ⟨⟨_, hb5, by omega⟩, e5, ?_⟩
      rw [hD5, flat_take hls, ej, List.take_length]
  · have ei : i = xs.length := by omega
    subst ei
    refine .inl ⟨⟨xs, hl', Nat.le_refl _⟩, hd H e ?_⟩
    rw [hDl, ← len, List.take_length]
end
end Jk

namespace Jk
open PySem L2 Evl
section
variable {X : Cx}
theorem inV_ints (n : Int) (ns : List Int) : inV (.int n) (ns.map V.int) = decide (n ∈ ns) := by
  unfold inV
  rw [List.any_map]
  induction ns with
  | nil => rfl
  | cons m ns ih =>
    rw [List.any_cons, ih]
    by_cases h : n = m
    · simp [eqV, h]
    · have h' : ¬ m = n := fun z => h z.symm
      simp [eqV, h, h']
theorem flat_ints (ns : List Int) : (ns.map V.int).all flatV = true := by
  rw [List.all_map]
  exact List.all_eq_true.mpr fun _ _ => rfl
def jInI : R2 := fun x y H Q => ∃ n l, x = .int n ∧ y = .ref l ∧ ∃ ns, LsI H l ns ∧ Q (.bl (decide (n ∈ ns))) H
theorem op_inI : OpR X (compareOp .In) jInI := opBy op_in_seq fun x y H Q ⟨n, l, e1, e2, ns, h, q⟩ => by
  subst e1 e2
  exact ⟨l, _, rfl, .inl (.inl (.inl h)), rfl, flat_ints ns, by simpa [inV_ints] using q⟩
@[simp] theorem j_inI {n : Int} {l : Addr} {H : Hp} {Q : VK} : jInI (.int n) (.ref l) H Q = ∃ ns, LsI H l ns ∧ Q (.bl (decide (n ∈ ns))) H := by simp [jInI]
def jNotInI : R2 := fun x y H Q => ∃ n l, x = .int n ∧ y = .ref l ∧ ∃ ns, LsI H l ns ∧ Q (.bl (!decide (n ∈ ns))) H
theorem op_notInI : OpR X (compareOp .NotIn) jNotInI := opBy op_notIn_seq fun x y H Q ⟨n, l, e1, e2, ns, h, q⟩ => by
  subst e1 e2
  exact ⟨l, _, rfl, .inl (.inl (.inl h)), rfl, flat_ints ns, by simpa [inV_ints] using q⟩
@[simp] theorem j_notInI {n : Int} {l : Addr} {H : Hp} {Q : VK} : jNotInI (.int n) (.ref l) H Q = ∃ ns, LsI H l ns ∧ Q (.bl (!decide (n ∈ ns))) H := by simp [jNotInI]
end
end Jk

namespace Jk
/-! ## trees turned -/
mutual
def Tr.turn : Tr → Tr
  | .pt n => .pt n
  | .nd j ts => .nd (!j) (turnL ts)
def turnL : List Tr → List Tr
  | [] => []
  | t :: ts => t.turn :: turnL ts
end
theorem turnL_map (ts : List Tr) : turnL ts = ts.map Tr.turn := by
  induction ts with
  | nil => rfl
  | cons t ts ih => rw [turnL, ih]; rfl
mutual
theorem turn_pts : ∀ t : Tr, t.turn.pts = t.pts
  | .pt n => by rw [Tr.turn]
  | .nd j ts => by rw [Tr.turn, Tr.pts, Tr.pts, turnL_pts ts]
theorem turnL_pts : ∀ ts : List Tr, ptsL (turnL ts) = ptsL ts
  | [] => by rw [turnL]
  | t :: ts => by rw [turnL, ptsL, ptsL, turn_pts t, turnL_pts ts]
end
mutual
theorem turn_dep : ∀ t : Tr, t.turn.dep = t.dep
  | .pt n => by rw [Tr.turn]
  | .nd j ts => by rw [Tr.turn, Tr.dep, Tr.dep, turnL_dep ts]
theorem turnL_dep : ∀ ts : List Tr, depL (turnL ts) = depL ts
  | [] => by rw [turnL]
  | t :: ts => by rw [turnL, depL, depL, turn_dep t, turnL_dep ts]
end
mutual
theorem turn_turn : ∀ t : Tr, t.turn.turn = t
  | .pt n => by rw [Tr.turn, Tr.turn]
  | .nd j ts => by rw [Tr.turn, Tr.turn, turnL_turnL ts, Bool.not_not]
theorem turnL_turnL : ∀ ts : List Tr, turnL (turnL ts) = ts
  | [] => by rw [turnL, turnL]
  | t :: ts => by rw [turnL, turnL, turn_turn t, turnL_turnL ts]
end
theorem turn_least : ∀ t : Tr, t.turn.least = t.least
  | .pt n => by rw [Tr.turn]
  | .nd j [] => by rw [Tr.turn, Tr.least, Tr.least, turnL]
  | .nd j (t :: ts) => by rw [Tr.turn, Tr.least, Tr.least, turnL, leastL, leastL, turn_least t]
theorem turn_wd : ∀ t : Tr, t.turn.wd = t.wd.map (!·)
  | .pt n => by rw [Tr.turn]; rfl
  | .nd j ts => by rw [Tr.turn]; rfl
mutual
theorem turn_form : ∀ t : Tr, t.form → t.turn.form
  | .pt n, h => by rw [Tr.turn]; exact h
  | .nd j ts, h => by
    rw [Tr.form] at h
    rw [Tr.turn, Tr.form, turnL_map, List.length_map, List.map_map]
    have e : (Tr.least ∘ Tr.turn) = Tr.least := funext turn_least
    rw [e, ← turnL_map]
    exact ⟨h.1, h.2.1, turnL_form ts h.2.2⟩
theorem turnL_form {j : Bool} : ∀ ts : List Tr, formL j ts → formL (!j) (turnL ts)
  | [], _ => by simp [turnL, formL]
  | t :: ts, h => by
    rw [formL] at h
    rw [turnL, formL]
    refine ⟨turn_form t h.1, fun e => h.2.1 ?_, turnL_form ts h.2.2⟩
    rw [turn_wd] at e
    cases w : t.wd with
    | none => rw [w] at e; cases e
    | some i =>
      rw [w] at e
      cases i <;> cases j <;> simp at e ⊢
end
mutual
/-- what is tied is tied no more, and the other way round -/
theorem turn_tie : ∀ (t : Tr) (a b : Int), t.pts.Nodup → a ≠ b → a ∈ t.pts → b ∈ t.pts → t.turn.tie a b = !t.tie a b
  | .pt n, a, b, _, ne, h1, h2 => by
    simp [Tr.pts] at h1 h2
    exact absurd (h1.trans h2.symm) ne
  | .nd j ts, a, b, nd, ne, _, _ => by
    rw [Tr.pts] at nd
    rw [Tr.turn, Tr.tie, Tr.tie, turnL_tie j ts a b nd ne]
theorem turnL_tie (j : Bool) : ∀ (ts : List Tr) (a b : Int), (ptsL ts).Nodup → a ≠ b → tieL (!j) (turnL ts) a b = !tieL j ts a b
  | [], a, b, _, _ => by rw [turnL, tieL, tieL]
  | t :: ts, a, b, nd, ne => by
    have nd1 := nd_part nd (t := t) (by simp)
    rw [ptsL] at nd
    rw [turnL, tieL, tieL, turn_pts]
    by_cases h : a ∈ t.pts ∧ b ∈ t.pts
    · rw [if_pos h, if_pos h, turn_tie t a b nd1 ne h.1 h.2]
    · rw [if_neg h, if_neg h, turnL_tie j ts a b (List.nodup_append.mp nd).2.1 ne]
end
end Jk

namespace Jk
open PySem L2 Evl
/-! ## repr of small data -/
structure Rp (d : PyData) (w p : Nat) : Prop where
  can : d.canLay0 = true
  shw : d.showable = true
  nod : d.hasDict = false
  dep : d.depth ≤ p
  wgt : d.weight ≤ w
  sho : d.intsShort 13 = true
structure RpL (ds : List PyData) (w p : Nat) : Prop where
  can : PyData.canLayAll0 ds = true
  shw : PyData.showableAll ds = true
  nod : PyData.hasDictAll ds = false
  dep : PyData.depthAll ds ≤ p
  wgt : PyData.weightAll ds ≤ w
  sho : PyData.intsShortAll 13 ds = true
theorem RpL.nil (w p : Nat) : RpL [] w p := ⟨rfl, rfl, rfl, Nat.zero_le _, Nat.zero_le _, rfl⟩
theorem RpL.cons {d : PyData} {ds : List PyData} {w1 w2 p : Nat} (h : Rp d w1 p) (t : RpL ds w2 p) : RpL (d :: ds) (w1 + 1 + w2) p := by
  obtain ⟨a1, a2, a3, a4, a5, a6⟩ := h
  obtain ⟨b1, b2, b3, b4, b5, b6⟩ := t
  refine ⟨by simp [PyData.canLayAll0, a1, b1], by simp [PyData.showableAll, a2, b2], by simp [PyData.hasDictAll, a3, b3], by simp only [PyData.depthAll]; omega, by simp only [PyData.weightAll]; omega, by simp [PyData.intsShortAll, a6, b6]⟩
theorem RpL.mono {ds : List PyData} {w w' p p' : Nat} (h : RpL ds w p) (a : w ≤ w') (b : p ≤ p') : RpL ds w' p' := ⟨h.can, h.shw, h.nod, Nat.le_trans h.dep b, Nat.le_trans h.wgt a, h.sho⟩
theorem Rp.mono {d : PyData} {w w' p p' : Nat} (h : Rp d w p) (a : w ≤ w') (b : p ≤ p') : Rp d w' p' := ⟨h.can, h.shw, h.nod, Nat.le_trans h.dep b, Nat.le_trans h.wgt a, h.sho⟩
theorem RpL.list {ds : List PyData} {w p : Nat} (h : RpL ds w p) : Rp (.list ds) w (p + 1) :=
  ⟨by simpa [PyData.canLay0] using h.can, by simpa [PyData.showable] using h.shw, by simpa [PyData.hasDict] using h.nod, by have := h.dep; simp only [PyData.depth]; omega, by have := h.wgt; simp only [PyData.weight]; omega, by simpa [PyData.intsShort] using h.sho⟩
theorem RpL.tuple {ds : List PyData} {w p : Nat} (h : RpL ds w p) : Rp (.tuple ds) w (p + 1) :=
  ⟨by simpa [PyData.canLay0] using h.can, by simpa [PyData.showable] using h.shw, by simpa [PyData.hasDict] using h.nod, by have := h.dep; simp only [PyData.depth]; omega, by have := h.wgt; simp only [PyData.weight]; omega, by simpa [PyData.intsShort] using h.sho⟩
theorem Rp.int {i : Int} (h : 0 ≤ i ∧ i < 1000) : Rp (.int i) 10 0 := by
  have hl : i.natAbs.log2 < 10 := by
    by_cases h0 : i.natAbs = 0
    · rw [h0]; decide
    · exact (Nat.log2_lt h0).mpr (by omega)
  refine ⟨rfl, ?_, rfl, Nat.le_refl _, ?_, ?_⟩
  · simp only [PyData.showable, decide_eq_true_eq]; omega
  · simp only [PyData.weight]; split <;> omega
  · simp only [PyData.intsShort, PyData.shown]
    refine decide_eq_true ?_
    exact Nat.le_trans (PyProof.Rows.toString_length_le h.1 (k := 3) (by decide) (by omega)) (show 3 ≤ 13 by decide)
theorem Rp.word (j : Bool) : Rp (.str (wdS j)) 4 0 := by cases j <;> exact ⟨by decide +kernel, rfl, rfl, Nat.le_refl _, by decide +kernel, rfl⟩
theorem Rp.len {d : PyData} {w p : Nat} (h : Rp d w p) (hw : w ≤ 2 ^ 20) (hp : p ≤ 60) : d.shown.length ≤ sizeLine := by
  refine Nat.le_trans (PyProof.Rows.shown_le13 ?_ h.sho) (by rw [sizeLine_eq]; decide)
  show (d.canLay0 && decide (PyData.depth d ≤ 64) && decide (PyData.weight d ≤ 2 ^ 20)) = true
  have h1 := h.dep
  have h2 := h.wgt
  simp only [h.can, Bool.true_and, Bool.and_eq_true, decide_eq_true_eq]
  exact ⟨by omega, by omega⟩
theorem RpL.ints : ∀ {ns : List Int}, (∀ n ∈ ns, 0 ≤ n ∧ n < 1000) → RpL (ns.map PyData.int) (11 * ns.length) 0
  | [], _ => RpL.nil _ _
  | n :: ns, h => by
    have := RpL.cons (Rp.int (h n (by simp))) (RpL.ints (ns := ns) fun m hm => h m (by simp [hm]))
    exact this.mono (by simp only [List.length_cons]; omega) (Nat.le_refl _)
theorem RpL.pairs : ∀ {ps : List (Int × Int)}, (∀ p ∈ ps, (0 ≤ p.1 ∧ p.1 < 1000) ∧ (0 ≤ p.2 ∧ p.2 < 1000)) → RpL (ps.map pd) (23 * ps.length) 1
  | [], _ => RpL.nil _ _
  | p :: ps, h => by
    have hp := h p (by simp)
    have a := (RpL.cons (Rp.int hp.1) (RpL.cons (Rp.int hp.2) (RpL.nil 0 0))).tuple
    have := RpL.cons (d := pd p) a (RpL.pairs (ps := ps) fun m hm => h m (by simp [hm]))
    exact this.mono (by simp only [List.length_cons]; omega) (Nat.le_refl _)
mutual
theorem Rp.tree : ∀ {t : Tr}, t.form → (∀ n ∈ t.pts, 0 ≤ n ∧ n < 1000) → Rp t.data (40 * t.pts.length - 30) (2 * t.dep)
  | .pt n, _, h => by
    rw [Tr.data, Tr.pts, Tr.dep]
    exact Rp.int (h n (by simp [Tr.pts]))
  | .nd j ts, hf, h => by
    rw [Tr.form] at hf
    rw [Tr.pts] at h
    have hl := RpL.trees (ts := ts) (fun t ht => (formL_iff.mp hf.2.2 t ht).1) h
    have hp : ts.length ≤ (ptsL ts).length := by
      have gen : ∀ ts : List Tr, (∀ t ∈ ts, t.form) → ts.length ≤ (ptsL ts).length := by
        intro ts
        induction ts with
        | nil => intro _; exact Nat.zero_le _
        | cons t ts ih =>
          intro hh
          have := t.dep_lt (hh t (by simp))
          have := ih fun u hu => hh u (by simp [hu])
          rw [ptsL, List.length_append, List.length_cons]
          omega
      exact gen ts fun t ht => (formL_iff.mp hf.2.2 t ht).1
    have := (RpL.cons ((Rp.word j).mono (Nat.le_refl _) (Nat.zero_le _)) (RpL.cons hl.tuple (RpL.nil 0 _))).tuple
    rw [Tr.data, Tr.pts, Tr.dep]
    exact this.mono (by omega) (by omega)
theorem RpL.trees : ∀ {ts : List Tr}, (∀ t ∈ ts, t.form) → (∀ n ∈ ptsL ts, 0 ≤ n ∧ n < 1000) → RpL (dataL ts) (40 * (ptsL ts).length - 29 * ts.length) (2 * depL ts)
  | [], _, _ => by rw [dataL]; exact RpL.nil _ _
  | t :: ts, hf, h => by
    rw [ptsL] at h
    have h1 := Rp.tree (t := t) (hf t (by simp)) fun n hn => h n (by simp [hn])
    have h2 := RpL.trees (ts := ts) (fun u hu => hf u (by simp [hu])) fun n hn => h n (by simp [hn])
    have dl := t.dep_lt (hf t (by simp))
    have hp : ts.length ≤ (ptsL ts).length := by
      have gen : ∀ ts : List Tr, (∀ t ∈ ts, t.form) → ts.length ≤ (ptsL ts).length := by
        intro ts
        induction ts with
        | nil => intro _; exact Nat.zero_le _
        | cons t ts ih =>
          intro hh
          have := t.dep_lt (hh t (by simp))
          have := ih fun u hu => hh u (by simp [hu])
          rw [ptsL, List.length_append, List.length_cons]
          omega
      exact gen ts fun u hu => hf u (by simp [hu])
    rw [dataL, ptsL, depL, List.length_append, List.length_cons]
    exact (RpL.cons (h1.mono (Nat.le_refl _) (show 2 * t.dep ≤ 2 * max t.dep (depL ts) by omega)) (h2.mono (Nat.le_refl _) (show 2 * depL ts ≤ 2 * max t.dep (depL ts) by omega))).mono (by omega) (Nat.le_refl _)
end
section
variable {X : Cx}
def jRepr (K : PySem.W.Frag) : List V → Hp → VK → Prop := fun vs H Q => ∃ (x : V) (d : PyData) (w p : Nat), vs = [x] ∧ Dp K H x d ∧ Rp d w p ∧ w ≤ 2 ^ 20 ∧ p ≤ 60 ∧ Q (.str d.shown) H
theorem call_reprA {K0 : PySem.W.Frag} (hg : X.A.guards = some []) (hu : X.A.units + 64 < cLine) (hK : X.K = K0 := by rfl) : CallR X (.builtin "repr") (jRepr K0) := by
  subst hK
  intro pins s σ H xs us Q I r h
  obtain ⟨x, d, w, p, rfl, hd, hr, hw, hp, q⟩ := h
  have ref : ∀ a, x = .ref a → wpAny (model X.prog X.w) X.A (call (.builtin "repr") us) (EP X pins σ Q) X.xe s := fun a e => by
    subst e
    exact call_reprD hg hu pins s σ H _ us Q I r ⟨a, d, rfl, hd, hr.shw, hr.nod, by have := hr.dep; omega, hr.len hw hp, q⟩
  obtain ⟨u, rfl, ru⟩ := vals1 r
  cases hd with
  | non => cases ru; exact PySem.P.repr_of_none ⟨.str (PyData.shown .none), H, I.kept (t' := s.toks + 1) (fun _ _ z => z), ⟨_, rfl⟩, q⟩
  | bl b => cases ru; exact PySem.P.repr_of_bool ⟨.str (PyData.shown (.bool b)), H, I.kept (t' := s.toks + 1) (fun _ _ z => z), ⟨_, rfl⟩, q⟩
  | int i =>
    obtain ⟨t, rfl⟩ := ru
    have hi := hr.shw
    exact PySem.P.repr_of_int (by simpa [PyData.showable] using hi) ⟨.str (PyData.shown (.int i)), H, I.kept (t' := s.toks + 1) (fun _ _ z => z), ⟨_, rfl⟩, q⟩
  | str y =>
    obtain ⟨t, rfl⟩ := ru
    exact PySem.P.repr_of_str ⟨.str (PyData.shown (.str y)), H, I.kept (t' := s.toks + 1) (fun _ _ z => z), ⟨_, rfl⟩, q⟩ (hr.len hw hp)
  | lst h1 h2 => exact ref _ rfl
  | tup h1 h2 => exact ref _ rfl
end
end Jk

namespace Jk
open PySem L2 Evl
/-! lists of truths -/
def LsB (H : Hp) (l : Addr) (ns : List Bool) : Prop := H l = some (.lst (ns.map V.bl))
theorem LsB.uniq {H : Hp} {l : Addr} {ns ms : List Bool} (h : LsB H l ns) (g : LsB H l ms) : ms = ns := by
  unfold LsB at h g
  rw [h] at g
  exact ((List.map_inj_right (fun x y h => by cases h; rfl)).mp (HO.lst.inj (Option.some.inj g))).symm
theorem lsB_ex {H : Hp} {l : Addr} {ns : List Bool} {R : List Bool → Prop} (h : LsB H l ns) : (∃ ms, LsB H l ms ∧ R ms) ↔ R ns := ⟨fun ⟨_, a, b⟩ => by rw [← h.uniq a]; exact b, fun r => ⟨ns, h, r⟩⟩
theorem dpBs {K : PySem.W.Frag} {H : Hp} : ∀ ns : List Bool, DpAll K H (ns.map V.bl) (ns.map PyData.bool)
  | [] => .nil
  | n :: ns => .cons (.bl n) (dpBs ns)
theorem dpB {K : PySem.W.Frag} {H : Hp} {l : Addr} {ns : List Bool} (h : LsB H l ns) : Dp K H (.ref l) (.list (ns.map .bool)) := .lst (.inl (.inl h)) (dpBs ns)
theorem bs_can : ∀ ns : List Bool, PyData.canLayAll0 (ns.map PyData.bool) = true
  | [] => rfl
  | n :: ns => by simp [PyData.canLayAll0, PyData.canLay0, bs_can ns]
theorem bs_dep : ∀ ns : List Bool, PyData.depthAll (ns.map PyData.bool) = 0
  | [] => rfl
  | n :: ns => by simp [PyData.depthAll, PyData.depth, bs_dep ns]
theorem bs_shaped (ns : List Bool) : SeqAt.shaped (.list (ns.map PyData.bool)) = true := by
  show (PyData.canLay0 (.list (ns.map PyData.bool)) && decide (PyData.depth (.list (ns.map PyData.bool)) ≤ 64)) = true
  simp [PyData.canLay0, bs_can, PyData.depth, bs_dep]
theorem bs_eqv (ns ms : List Bool) : PyData.eqv (.list (ns.map PyData.bool)) (.list (ms.map PyData.bool)) = decide (ns = ms) := by
  rw [PyData.eqv]
  induction ns generalizing ms with
  | nil => cases ms <;> simp [PyData.eqvAll]
  | cons n ns ih =>
    cases ms with
    | nil => simp [PyData.eqvAll]
    | cons m ms =>
      rw [List.map_cons, List.map_cons, PyData.eqvAll, ih]
      by_cases h : n = m
      · simp [PyData.eqv, h]
      · simp [PyData.eqv, h]
section
variable {X : Cx}
def jNeB : R2 := fun x y H Q => ∃ t l, x = .ref t ∧ y = .ref l ∧ ∃ prs, LsB H t prs ∧ ∃ qrs, LsB H l qrs ∧ Q (.bl (!decide (prs = qrs))) H
theorem op_neB (hu : X.A.units + 64 < cLine) : OpR X (compareOp .NotEq) jNeB := opBy (op_neD hu) fun x y H Q ⟨t, l, e1, e2, prs, h1, qrs, h2, q⟩ => ⟨_, _, by rw [e1]; exact dpB h1, by rw [e2]; exact dpB h2, bs_shaped prs, bs_shaped qrs, by rw [bs_eqv]; exact q⟩
@[simp] theorem j_neB {t l : Addr} {H : Hp} {Q : VK} : jNeB (.ref t) (.ref l) H Q = ∃ prs, LsB H t prs ∧ ∃ qrs, LsB H l qrs ∧ Q (.bl (!decide (prs = qrs))) H := by simp [jNeB]
end
/-! repr, read -/
theorem repr_ints {K : PySem.W.Frag} {H : Hp} {l : Addr} {ns : List Int} {Q : VK} (h : LsI H l ns) (b : ∀ n ∈ ns, 0 ≤ n ∧ n < 1000) (few : ns.length ≤ 1000) (q : Q (.str (PyData.list (ns.map .int)).shown) H) : jRepr K [.ref l] H Q :=
  ⟨_, _, _, _, rfl, dpI h, (RpL.ints b).list, by omega, by omega, q⟩
theorem repr_tree {K : PySem.W.Frag} {H : Hp} {v : V} {t : Tr} {Q : VK} (h : ToldAt H v t) (f : t.form) (b : ∀ n ∈ t.pts, 0 ≤ n ∧ n < 1000) (few : t.pts.length ≤ 31) (q : Q (.str t.data.shown) H) : jRepr K [v] H Q :=
  ⟨_, _, _, _, rfl, told_dp t v h, Rp.tree f b, by omega, by have := t.dep_lt f; omega, q⟩
end Jk

namespace Jk
open PySem L2 Evl
section
variable {X : Cx}
/-! slices of a list that may be frozen -/
def jSlS (K : PySem.W.Frag) : V → Option Int → Option Int → Hp → VK → Prop := fun x lo hi H Q => ∃ a xs, x = .ref a ∧ SqL K H a xs ∧ (∀ i, lo = some i → 0 ≤ i) ∧ (∀ i, hi = some i → 0 ≤ i) ∧
  ∀ p H2, H p = none → Ex H H2 → H2 p = some (.lst ((hiT xs hi).drop (loN lo))) → Q (.ref p) H2
theorem sl_seqJ {K0 : PySem.W.Frag} (hK : X.K = K0 := by rfl) : SlR X (jSlS K0) := by
  subst hK
  exact fun pins s σ H x v vl vu lo hi sl Q I rx hs pl pu ⟨a, xs, e, h, h1, h2, k⟩ => sl_list pins s σ H x v vl vu lo hi sl Q I rx hs pl pu ⟨a, xs, e, h, fun p hp => by
    have z := k p (L2.upd H p (.lst (cutV xs lo hi))) hp (Ex.new hp) (by rw [upd_same, cut_eq xs lo hi h1 h2])
    exact z⟩
@[simp] theorem j_slS {K : PySem.W.Frag} {a : Addr} {lo hi : Option Int} {H : Hp} {Q : VK} : jSlS K (.ref a) lo hi H Q = ∃ xs, SqL K H a xs ∧ (∀ i, lo = some i → 0 ≤ i) ∧ (∀ i, hi = some i → 0 ≤ i) ∧
  ∀ p H2, H p = none → Ex H H2 → H2 p = some (.lst ((hiT xs hi).drop (loN lo))) → Q (.ref p) H2 := by simp [jSlS]
@[simp] theorem j_sliceS {K : PySem.W.Frag} {te : TE} {tl th : TO} {σ : L2.St} {H : Hp} {Q : VK} : tSl (jSlS K) te tl th σ H Q = te σ H fun x H1 => tl σ H1 fun l H2 => th σ H2 fun u H3 => jSlS K x l u H3 Q := rfl
/-! told trees that are the same -/
theorem tree_shaped {t : Tr} (f : t.form) (b : ∀ n ∈ t.pts, 0 ≤ n ∧ n < 1000) (few : t.pts.length ≤ 31) : SeqAt.shaped t.data = true := by
  have h := Rp.tree f b
  have := t.dep_lt f
  have hd := h.dep
  show (t.data.canLay0 && decide (t.data.depth ≤ 64)) = true
  rw [h.can]
  simp
  omega
def jNeSame (K : PySem.W.Frag) : R2 := fun x y H Q => ∃ t : Tr, ToldAt H x t ∧ ToldAt H y t ∧ t.form ∧ (∀ n ∈ t.pts, 0 ≤ n ∧ n < 1000) ∧ t.pts.length ≤ 31 ∧ Q (.bl false) H
theorem op_neSame {K0 : PySem.W.Frag} (hu : X.A.units + 64 < cLine) : OpR X (compareOp .NotEq) (jNeSame K0) := opBy (op_neD hu) fun x y H Q ⟨t, h1, h2, f, b, few, q⟩ =>
  ⟨_, _, told_dp t x h1, told_dp t y h2, tree_shaped f b few, tree_shaped f b few, by rw [PySem.SeqAt.eqv_refl _ (Rp.tree f b).can]; exact q⟩
end
end Jk

namespace Jk
/-! ## trees laid together -/
def srtT (l : List Tr) : List Tr := l.mergeSort fun a b => decide (a.least ≤ b.least)
theorem srtT_perm (l : List Tr) : (srtT l).Perm l := List.mergeSort_perm _ _
theorem srtT_le (l : List Tr) : (srtT l).Pairwise fun a b => a.least ≤ b.least := by
  have z := List.pairwise_mergeSort (le := fun a b : Tr => decide (a.least ≤ b.least)) (fun a b c h1 h2 => decide_eq_true (Int.le_trans (of_decide_eq_true h1) (of_decide_eq_true h2))) (fun a b => by
    by_cases h : a.least ≤ b.least
    · simp [h]
    · simp [show b.least ≤ a.least by omega]) l
  exact z.imp fun h => of_decide_eq_true h
/-- unlike least points -/
def DistL (l : List Tr) : Prop := (l.map Tr.least).Nodup
theorem DistL.perm {l m : List Tr} (h : DistL l) (p : l.Perm m) : DistL m := (p.map Tr.least).nodup_iff.mp h
theorem distL_of {l : List Tr} (f : ∀ t ∈ l, t.form) (nd : (ptsL l).Nodup) : DistL l := by
  induction l with
  | nil => exact List.nodup_nil
  | cons t l ih =>
    rw [ptsL] at nd
    obtain ⟨_, n2, n3⟩ := List.nodup_append.mp nd
    refine List.nodup_cons.mpr ⟨fun h => ?_, ih (fun u hu => f u (by simp [hu])) n2⟩
    obtain ⟨u, hu, e⟩ := List.mem_map.mp h
    have h1 := least_in t (f t (by simp))
    have h2 := least_in u (f u (by simp [hu]))
    exact n3 _ h1 _ (mem_ptsL.mpr ⟨u, hu, h2⟩) e.symm
theorem sorted_uniq : ∀ {l m : List Tr}, l.Perm m → DistL l → l.Pairwise (fun a b => a.least ≤ b.least) → m.Pairwise (fun a b => a.least ≤ b.least) → l = m
  | [], m, p, _, _, _ => (List.nil_perm.mp p).symm
  | a :: l, [], p, _, _, _ => by have := p.length_eq; simp at this
  | a :: l, b :: m, p, d, h, g => by
    have ea : a = b := by
      have x1 := (List.pairwise_cons.mp h).1
      have y1 := (List.pairwise_cons.mp g).1
      rcases List.mem_cons.mp (p.mem_iff.mp (List.mem_cons_self (a := a))) with e | e
      · exact e
      · rcases List.mem_cons.mp (p.mem_iff.mpr (List.mem_cons_self (a := b))) with e' | e'
        · exact e'.symm
        · have := x1 b e'
          have := y1 a e
          have e2 : a.least = b.least := by omega
          have d' := (List.nodup_cons.mp d).1
          exact absurd (List.mem_map.mpr ⟨b, e', e2.symm⟩) d'
    subst ea
    rw [sorted_uniq ((List.perm_cons a).mp p) (List.nodup_cons.mp d).2 (List.pairwise_cons.mp h).2 (List.pairwise_cons.mp g).2]
theorem srtT_uniq {l m : List Tr} (p : m.Perm l) (d : DistL l) (h : m.Pairwise fun a b => a.least ≤ b.least) : m = srtT l := sorted_uniq (p.trans (srtT_perm l).symm) (d.perm p.symm) h (srtT_le l)
theorem srtT_of_perm {l m : List Tr} (p : l.Perm m) (d : DistL l) : srtT l = srtT m := srtT_uniq ((srtT_perm l).trans p) (d.perm p) (srtT_le l)
/-- what a tree brings to one of the word j -/
def brings (j : Bool) : Tr → List Tr
  | .pt n => [.pt n]
  | .nd i ts => if i = j then ts else [.nd i ts]
theorem brings_nd (j i : Bool) (ts : List Tr) : brings j (.nd i ts) = if i = j then ts else [.nd i ts] := rfl
def lay (j : Bool) (a b : Tr) : Tr := .nd j (srtT (brings j a ++ brings j b))
theorem ptsL_perm {l m : List Tr} (p : l.Perm m) : (ptsL l).Perm (ptsL m) := by
  rw [ptsL_flat, ptsL_flat]
  exact p.flatMap_right _
theorem brings_pts (j : Bool) (t : Tr) : ptsL (brings j t) = t.pts := by
  cases t with
  | pt n => simp [brings, ptsL, Tr.pts]
  | nd i ts =>
    rw [brings_nd]
    split
    · rw [Tr.pts]
    · simp [ptsL]
theorem brings_form {j : Bool} {t : Tr} (f : t.form) : ∀ u ∈ brings j t, u.form ∧ u.wd ≠ some j := by
  cases t with
  | pt n => intro u hu; simp [brings] at hu; subst hu; exact ⟨f, by simp [Tr.wd]⟩
  | nd i ts =>
    intro u hu
    rw [brings_nd] at hu
    split at hu
    · rename_i e
      subst e
      rw [Tr.form] at f
      exact formL_iff.mp f.2.2 u hu
    · rename_i e
      simp at hu
      subst hu
      exact ⟨f, by simp [Tr.wd, e]⟩
theorem brings_one (j : Bool) {t : Tr} (f : t.form) : 1 ≤ (brings j t).length := by
  cases t with
  | pt n => simp [brings]
  | nd i ts =>
    rw [brings_nd]
    split
    · rw [Tr.form] at f
      omega
    · simp
theorem lay_pts (j : Bool) (a b : Tr) : (lay j a b).pts.Perm (a.pts ++ b.pts) := by
  unfold lay
  rw [Tr.pts]
  refine (ptsL_perm (srtT_perm _)).trans ?_
  rw [ptsL_app, brings_pts, brings_pts]
theorem lay_dist {j : Bool} {a b : Tr} (fa : a.form) (fb : b.form) (nd : (a.pts ++ b.pts).Nodup) : DistL (brings j a ++ brings j b) := by
  refine distL_of (fun t ht => ?_) (by rw [ptsL_app, brings_pts, brings_pts]; exact nd)
  rcases List.mem_append.mp ht with h | h
  · exact (brings_form fa t h).1
  · exact (brings_form fb t h).1
theorem lay_form {j : Bool} {a b : Tr} (fa : a.form) (fb : b.form) (nd : (a.pts ++ b.pts).Nodup) : (lay j a b).form := by
  unfold lay
  rw [Tr.form]
  refine ⟨?_, ?_, formL_iff.mpr fun t ht => ?_⟩
  · rw [(srtT_perm _).length_eq, List.length_append]
    have := brings_one j fa
    have := brings_one j fb
    omega
  · have d : DistL (srtT (brings j a ++ brings j b)) := (lay_dist fa fb nd).perm (srtT_perm _).symm
    have h := srtT_le (brings j a ++ brings j b)
    rw [List.pairwise_map]
    unfold DistL List.Nodup at d
    rw [List.pairwise_map] at d
    exact (h.and d).imp fun ⟨x, y⟩ => by omega
  · rcases List.mem_append.mp ((srtT_perm _).mem_iff.mp ht) with h | h
    · exact brings_form fa t h
    · exact brings_form fb t h
theorem lay_comm {j : Bool} {a b : Tr} (fa : a.form) (fb : b.form) (nd : (a.pts ++ b.pts).Nodup) : lay j a b = lay j b a := by
  unfold lay
  rw [srtT_of_perm List.perm_append_comm (lay_dist fa fb nd)]
theorem brings_lay (j : Bool) (a b : Tr) : brings j (lay j a b) = srtT (brings j a ++ brings j b) := by unfold lay; rw [brings_nd, if_pos rfl]
theorem lay_assoc {j : Bool} {a b c : Tr} (fa : a.form) (fb : b.form) (fc : c.form) (nd : (a.pts ++ b.pts ++ c.pts).Nodup) : lay j (lay j a b) c = lay j a (lay j b c) := by
  have n1 := (List.nodup_append.mp nd).1
  have n2 : (a.pts ++ (b.pts ++ c.pts)).Nodup := by rw [← List.append_assoc]; exact nd
  have n3 := (List.nodup_append.mp n2).2.1
  have fab := lay_form (j := j) fa fb n1
  have nd1 : ((lay j a b).pts ++ c.pts).Nodup := ((lay_pts j a b).append_right c.pts).nodup_iff.mpr nd
  have d := lay_dist (j := j) fab fc nd1
  have p : (brings j (lay j a b) ++ brings j c).Perm (brings j a ++ brings j (lay j b c)) := by
    rw [brings_lay, brings_lay]
    refine ((srtT_perm _).append_right _).trans ?_
    rw [List.append_assoc]
    exact (srtT_perm _).symm.append_left _
  have : srtT (brings j (lay j a b) ++ brings j c) = srtT (brings j a ++ brings j (lay j b c)) := srtT_of_perm p d
  rw [show lay j (lay j a b) c = .nd j (srtT (brings j (lay j a b) ++ brings j c)) from rfl, this]
  rfl
/-! ties of what is laid together -/
theorem tieL_in {j : Bool} : ∀ {ts : List Tr} {t : Tr} {c d : Int}, (ptsL ts).Nodup → t ∈ ts → c ∈ t.pts → d ∈ t.pts → tieL j ts c d = t.tie c d
  | [], t, c, d, _, h, _, _ => nomatch h
  | u :: ts, t, c, d, nd, h, hc, hd => by
    rw [ptsL] at nd
    obtain ⟨_, n2, n3⟩ := List.nodup_append.mp nd
    rw [tieL]
    rcases List.mem_cons.mp h with rfl | h
    · rw [if_pos ⟨hc, hd⟩]
    · rw [if_neg (fun z => n3 c z.1 c (mem_ptsL.mpr ⟨t, h, hc⟩) rfl)]
      exact tieL_in n2 h hc hd
theorem tieL_perm {j : Bool} {l m : List Tr} (p : l.Perm m) (nd : (ptsL l).Nodup) (c d : Int) : tieL j l c d = tieL j m c d := by
  have nm : (ptsL m).Nodup := (ptsL_perm p).nodup_iff.mp nd
  by_cases h : ∃ t ∈ l, c ∈ t.pts ∧ d ∈ t.pts
  · obtain ⟨t, h1, h2, h3⟩ := h
    rw [tieL_in nd h1 h2 h3, tieL_in nm (p.mem_iff.mp h1) h2 h3]
  · rw [tieL_out fun t ht z => h ⟨t, ht, z⟩, tieL_out fun t ht z => h ⟨t, p.mem_iff.mpr ht, z⟩]
theorem brings_tie (j : Bool) (t : Tr) {c d : Int} (hc : c ∈ t.pts) (hd : d ∈ t.pts) (rest : List Tr) (nd : (ptsL (brings j t ++ rest)).Nodup) : tieL j (brings j t ++ rest) c d = t.tie c d := by
  have whole : ∀ u : Tr, u = t → brings j t = [t] → tieL j (brings j t ++ rest) c d = t.tie c d := fun u _ e => by
    rw [e]
    show tieL j (t :: rest) c d = _
    rw [tieL, if_pos ⟨hc, hd⟩]
  cases t with
  | pt n => exact whole _ rfl rfl
  | nd i ts =>
    by_cases e : i = j
    · subst e
      have eb : brings i (.nd i ts) = ts := by rw [brings_nd, if_pos rfl]
      rw [eb] at nd ⊢
      rw [Tr.tie]
      by_cases h : ∃ t ∈ ts, c ∈ t.pts ∧ d ∈ t.pts
      · obtain ⟨t, h1, h2, h3⟩ := h
        have n1 : (ptsL ts).Nodup := by rw [ptsL_app] at nd; exact (List.nodup_append.mp nd).1
        rw [tieL_in nd (by simp [h1]) h2 h3, tieL_in n1 h1 h2 h3]
      · rw [tieL_out (ts := ts) fun t ht z => h ⟨t, ht, z⟩]
        refine tieL_out fun t ht z => ?_
        rcases List.mem_append.mp ht with ht | ht
        · exact h ⟨t, ht, z⟩
        · rw [Tr.pts] at hc
          rw [ptsL_app] at nd
          exact (List.nodup_append.mp nd).2.2 c hc c (mem_ptsL.mpr ⟨t, ht, z.1⟩) rfl
    · exact whole _ rfl (by rw [brings_nd, if_neg e])
theorem lay_tie {j : Bool} {a b : Tr} (nd : (a.pts ++ b.pts).Nodup) {c d : Int} (hc : c ∈ a.pts ++ b.pts) (hd : d ∈ a.pts ++ b.pts) :
    (lay j a b).tie c d = if c ∈ a.pts ∧ d ∈ a.pts then a.tie c d else if c ∈ b.pts ∧ d ∈ b.pts then b.tie c d else j := by
  have n1 : (ptsL (brings j a ++ brings j b)).Nodup := by rw [ptsL_app, brings_pts, brings_pts]; exact nd
  have p2 : (brings j a ++ brings j b).Perm (brings j b ++ brings j a) := List.perm_append_comm
  have n2 : (ptsL (brings j b ++ brings j a)).Nodup := (ptsL_perm p2).nodup_iff.mp n1
  unfold lay
  rw [Tr.tie, tieL_perm (srtT_perm _) ((ptsL_perm (srtT_perm _)).nodup_iff.mpr n1)]
  split
  · rename_i h
    exact brings_tie j a h.1 h.2 _ n1
  · split
    · rename_i h
      rw [tieL_perm p2 n1]
      exact brings_tie j b h.1 h.2 _ n2
    · rename_i h1 h2
      refine tieL_out fun t ht z => ?_
      rcases List.mem_append.mp ht with ht | ht
      · exact h1 ⟨by rw [← brings_pts j a]; exact mem_ptsL.mpr ⟨t, ht, z.1⟩, by rw [← brings_pts j a]; exact mem_ptsL.mpr ⟨t, ht, z.2⟩⟩
      · exact h2 ⟨by rw [← brings_pts j b]; exact mem_ptsL.mpr ⟨t, ht, z.1⟩, by rw [← brings_pts j b]; exact mem_ptsL.mpr ⟨t, ht, z.2⟩⟩
theorem lay_ties {j : Bool} {a b : Tr} (nd : (a.pts ++ b.pts).Nodup) : (lay j a b).ties.Perm (a.ties ++ b.ties ++ if j = true then crossL a.pts b.pts else []) := by
  obtain ⟨na, nb, nab⟩ := List.nodup_append.mp nd
  have nl : (lay j a b).pts.Nodup := (lay_pts j a b).nodup_iff.mpr nd
  have inl : ∀ {x : Int}, x ∈ (lay j a b).pts ↔ x ∈ a.pts ++ b.pts := (lay_pts j a b).mem_iff
  have ncr : (crossL a.pts b.pts).Nodup := by
    unfold crossL List.Nodup
    rw [List.pairwise_flatMap]
    refine ⟨fun x hx => ?_, ?_⟩
    · rw [List.pairwise_map]
      refine List.Pairwise.imp_of_mem (fun {b c} hb hc hne e => ?_) nb
      rcases mm_cases e with ⟨_, e⟩ | ⟨e, _⟩
      · exact hne e
      · exact nab x hx c hc e
    · refine List.Pairwise.imp_of_mem (fun {x y} hx hy hne p hp q hq e => ?_) na
      obtain ⟨u, hu, rfl⟩ := List.mem_map.mp hp
      obtain ⟨v, hv, rfl⟩ := List.mem_map.mp hq
      rcases mm_cases e with ⟨e, _⟩ | ⟨e, _⟩
      · exact hne e
      · exact nab x hx v hv e
  have nr : (a.ties ++ b.ties ++ if j = true then crossL a.pts b.pts else []).Nodup := by
    rw [List.nodup_append, List.nodup_append]
    refine ⟨⟨ties_nodup a na, ties_nodup b nb, fun p hp q hq e => ?_⟩, by split; exact ncr; exact List.nodup_nil, fun p hp q hq e => ?_⟩
    · subst e
      obtain ⟨c, hc, d, hd, e⟩ := ties_in a p hp
      obtain ⟨c', hc', d', hd', e'⟩ := ties_in b p hq
      rw [e] at e'
      rcases mm_cases e' with ⟨z, _⟩ | ⟨z, _⟩
      · exact nab c hc c' hc' z
      · exact nab c hc d' hd' z
    · subst e
      split at hq
      · obtain ⟨x, hx, y, hy, e⟩ := mem_cross.mp hq
        rcases List.mem_append.mp hp with hp | hp
        · obtain ⟨c, hc, d, hd, e'⟩ := ties_in a p hp
          rw [e] at e'
          rcases mm_cases e' with ⟨_, z⟩ | ⟨_, z⟩
          · exact nab d hd y hy z.symm
          · exact nab c hc y hy z.symm
        · obtain ⟨c, hc, d, hd, e'⟩ := ties_in b p hp
          rw [e] at e'
          rcases mm_cases e' with ⟨z, _⟩ | ⟨z, _⟩
          · exact nab x hx c hc z
          · exact nab x hx d hd z
      · cases hq
  refine (List.perm_ext_iff_of_nodup (ties_nodup _ nl) nr).mpr fun p => ?_
  rw [List.mem_append, List.mem_append]
  -- a pair that is told by either list is one of two unlike points
  have key : ∀ c d : Int, c ≠ d → c ∈ a.pts ++ b.pts → d ∈ a.pts ++ b.pts → (mmI c d ∈ (lay j a b).ties ↔ (mmI c d ∈ a.ties ∨ mmI c d ∈ b.ties) ∨ mmI c d ∈ (if j = true then crossL a.pts b.pts else [])) := fun c d ne hc hd => by
    rw [ties_tie _ nl ne (inl.mpr hc) (inl.mpr hd), lay_tie nd hc hd]
    have inA : mmI c d ∈ a.ties → c ∈ a.pts ∧ d ∈ a.pts := fun h => by
      obtain ⟨x, hx, y, hy, e⟩ := ties_in a _ h
      rcases mm_cases e with ⟨e1, e2⟩ | ⟨e1, e2⟩ <;> subst e1 e2
      · exact ⟨hx, hy⟩
      · exact ⟨hy, hx⟩
    have inB : mmI c d ∈ b.ties → c ∈ b.pts ∧ d ∈ b.pts := fun h => by
      obtain ⟨x, hx, y, hy, e⟩ := ties_in b _ h
      rcases mm_cases e with ⟨e1, e2⟩ | ⟨e1, e2⟩ <;> subst e1 e2
      · exact ⟨hx, hy⟩
      · exact ⟨hy, hx⟩
    have inC : mmI c d ∈ crossL a.pts b.pts ↔ (c ∈ a.pts ∧ d ∈ b.pts) ∨ (d ∈ a.pts ∧ c ∈ b.pts) := by
      rw [mem_cross]
      constructor
      · rintro ⟨x, hx, y, hy, e⟩
        rcases mm_cases e with ⟨e1, e2⟩ | ⟨e1, e2⟩ <;> subst e1 e2
        · exact .inl ⟨hx, hy⟩
        · exact .inr ⟨hx, hy⟩
      · rintro (⟨h1, h2⟩ | ⟨h1, h2⟩)
        · exact ⟨c, h1, d, h2, rfl⟩
        · exact ⟨d, h1, c, h2, mm_comm c d⟩
    by_cases h1 : c ∈ a.pts ∧ d ∈ a.pts
    · rw [if_pos h1, ← ties_tie a na ne h1.1 h1.2]
      have z2 : ¬ mmI c d ∈ b.ties := fun h => nab c h1.1 c (inB h).1 rfl
      have z3 : ¬ mmI c d ∈ (if j = true then crossL a.pts b.pts else []) := fun h => by
        split at h
        · rcases inC.mp h with ⟨_, z⟩ | ⟨_, z⟩
          · exact nab d h1.2 d z rfl
          · exact nab c h1.1 c z rfl
        · cases h
      simp [z2, z3]
    · rw [if_neg h1]
      have z1 : ¬ mmI c d ∈ a.ties := fun h => h1 (inA h)
      by_cases h2 : c ∈ b.pts ∧ d ∈ b.pts
      · rw [if_pos h2, ← ties_tie b nb ne h2.1 h2.2]
        have z3 : ¬ mmI c d ∈ (if j = true then crossL a.pts b.pts else []) := fun h => by
          split at h
          · rcases inC.mp h with ⟨z, _⟩ | ⟨z, _⟩
            · exact nab c z c h2.1 rfl
            · exact nab d z d h2.2 rfl
          · cases h
        simp [z1, z3]
      · rw [if_neg h2]
        have z2 : ¬ mmI c d ∈ b.ties := fun h => h2 (inB h)
        have hcr : mmI c d ∈ crossL a.pts b.pts := by
          rw [inC]
          rcases List.mem_append.mp hc with x | x <;> rcases List.mem_append.mp hd with y | y
          · exact absurd ⟨x, y⟩ h1
          · exact .inl ⟨x, y⟩
          · exact .inr ⟨y, x⟩
          · exact absurd ⟨x, y⟩ h2
        simp only [z1, z2, false_or]
        cases j <;> simp [hcr]
  constructor
  · intro h
    obtain ⟨c, hc, d, hd, rfl⟩ := ties_in _ p h
    have ne : c ≠ d := fun z => by
      subst z
      have := ties_lt _ nl _ h
      simp [mmI] at this
    exact (key c d ne (inl.mp hc) (inl.mp hd)).mp h
  · intro h
    have pr : ∃ c d, c ≠ d ∧ c ∈ a.pts ++ b.pts ∧ d ∈ a.pts ++ b.pts ∧ p = mmI c d := by
      rcases h with (h | h) | h
      · obtain ⟨c, hc, d, hd, rfl⟩ := ties_in _ p h
        refine ⟨c, d, fun z => ?_, by simp [hc], by simp [hd], rfl⟩
        subst z
        have := ties_lt _ na _ h
        simp [mmI] at this
      · obtain ⟨c, hc, d, hd, rfl⟩ := ties_in _ p h
        refine ⟨c, d, fun z => ?_, by simp [hc], by simp [hd], rfl⟩
        subst z
        have := ties_lt _ nb _ h
        simp [mmI] at this
      · split at h
        · obtain ⟨c, hc, d, hd, rfl⟩ := mem_cross.mp h
          exact ⟨c, d, nab c hc d hd, by simp [hc], by simp [hd], rfl⟩
        · cases h
    obtain ⟨c, d, ne, hc, hd, rfl⟩ := pr
    exact (key c d ne hc hd).mpr h
end Jk

namespace Jk
/-! ## how many crowds -/
/-- how many lists of points, in their order, any two of which are R -/
def cntF (R : Int → Int → Bool) : Nat → List Int → Nat
  | _, [] => 1
  | 0, _ :: _ => 1
  | f + 1, x :: l => cntF R f l + cntF R f (l.filter (R x))
def cnt (R : Int → Int → Bool) (l : List Int) : Nat := cntF R l.length l
theorem cntF_fuel (R : Int → Int → Bool) : ∀ (f g : Nat) (l : List Int), l.length ≤ f → l.length ≤ g → cntF R f l = cntF R g l
  | f, g, [], _, _ => by cases f <;> cases g <;> rfl
  | 0, _, x :: l, h, _ => by simp at h
  | _, 0, x :: l, _, h => by simp at h
  | f + 1, g + 1, x :: l, hf, hg => by
    have hf' : l.length ≤ f := by simpa using hf
    have hg' : l.length ≤ g := by simpa using hg
    show cntF R f l + cntF R f (l.filter (R x)) = cntF R g l + cntF R g (l.filter (R x))
    rw [cntF_fuel R f g l hf' hg', cntF_fuel R f g _ (Nat.le_trans (List.length_filter_le _ _) hf') (Nat.le_trans (List.length_filter_le _ _) hg')]
theorem cnt_nil (R : Int → Int → Bool) : cnt R [] = 1 := rfl
theorem cnt_cons (R : Int → Int → Bool) (x : Int) (l : List Int) : cnt R (x :: l) = cnt R l + cnt R (l.filter (R x)) := by
  unfold cnt
  show cntF R l.length l + cntF R l.length (l.filter (R x)) = _
  rw [cntF_fuel R l.length (l.filter (R x)).length _ (List.length_filter_le _ _) (Nat.le_refl _)]
theorem cnt_pos (R : Int → Int → Bool) : ∀ l : List Int, 1 ≤ cnt R l
  | [] => by rw [cnt_nil]; exact Nat.le_refl _
  | x :: l => by rw [cnt_cons]; have := cnt_pos R l; omega
theorem cnt_congr {R S : Int → Int → Bool} : ∀ (n : Nat) (l : List Int), l.length ≤ n → l.Pairwise (fun a b => R a b = S a b) → cnt R l = cnt S l
  | n, [], _, _ => by rw [cnt_nil, cnt_nil]
  | 0, x :: l, h, _ => by simp at h
  | n + 1, x :: l, h, p => by
    have hl : l.length ≤ n := by simpa using h
    obtain ⟨p1, p2⟩ := List.pairwise_cons.mp p
    rw [cnt_cons, cnt_cons, cnt_congr n l hl p2]
    have e : l.filter (R x) = l.filter (S x) := List.filter_congr fun y hy => p1 y hy
    rw [e, cnt_congr n _ (Nat.le_trans (List.length_filter_le _ _) hl) (p2.sublist List.filter_sublist)]
/-- two lots, all of one R all of the other -/
theorem cnt_all {R : Int → Int → Bool} : ∀ (n : Nat) (A B : List Int), A.length ≤ n → (∀ a ∈ A, ∀ b ∈ B, R a b = true) → cnt R (A ++ B) = cnt R A * cnt R B
  | n, [], B, _, _ => by rw [cnt_nil]; simp
  | 0, x :: A, B, h, _ => by simp at h
  | n + 1, x :: A, B, h, k => by
    have hl : A.length ≤ n := by simpa using h
    have fb : B.filter (R x) = B := List.filter_eq_self.mpr fun b hb => k x (by simp) b hb
    rw [List.cons_append, cnt_cons, cnt_cons, List.filter_append, fb, cnt_all n A B hl fun a ha b hb => k a (by simp [ha]) b hb,
      cnt_all n (A.filter (R x)) B (Nat.le_trans (List.length_filter_le _ _) hl) fun a ha b hb => k a (by simp [(List.mem_filter.mp ha).1]) b hb, Nat.add_mul]
theorem cnt_none {R : Int → Int → Bool} : ∀ (n : Nat) (A B : List Int), A.length ≤ n → (∀ a ∈ A, ∀ b ∈ B, R a b = false) → cnt R (A ++ B) + 1 = cnt R A + cnt R B
  | n, [], B, _, _ => by rw [cnt_nil, List.nil_append]; omega
  | 0, x :: A, B, h, _ => by simp at h
  | n + 1, x :: A, B, h, k => by
    have hl : A.length ≤ n := by simpa using h
    have fb : B.filter (R x) = [] := List.filter_eq_nil_iff.mpr fun b hb => by rw [k x (by simp) b hb]; simp
    rw [List.cons_append, cnt_cons, cnt_cons, List.filter_append, fb, List.append_nil]
    have := cnt_none n A B hl fun a ha b hb => k a (by simp [ha]) b hb
    omega
theorem cnt_swap (R : Int → Int → Bool) (sym : ∀ a b, R a b = R b a) (x y : Int) (l : List Int) : cnt R (x :: y :: l) = cnt R (y :: x :: l) := by
  rw [cnt_cons, cnt_cons, cnt_cons R y (x :: l), cnt_cons]
  have key : ∀ a b : Int, cnt R ((b :: l).filter (R a)) = cnt R (l.filter (R a)) + (if R a b = true then cnt R ((l.filter (R a)).filter (R b)) else 0) := fun a b => by
    rw [List.filter_cons]
    split
    · rw [cnt_cons]
    · simp
  rw [key x y, key y x, sym y x, List.filter_filter, List.filter_filter]
  have e : (l.filter fun a => R y a && R x a) = l.filter fun a => R x a && R y a := List.filter_congr fun a _ => Bool.and_comm _ _
  rw [e]
  omega
theorem cnt_perm {R : Int → Int → Bool} (sym : ∀ a b, R a b = R b a) {l m : List Int} (p : l.Perm m) : cnt R l = cnt R m := by
  have gen : ∀ (n : Nat) (l m : List Int), l.length ≤ n → l.Perm m → cnt R l = cnt R m := by
    intro n
    induction n with
    | zero =>
      intro l m h p
      have e : l = [] := List.length_eq_zero_iff.mp (by omega)
      subst e
      rw [List.nil_perm.mp p]
    | succ n ih =>
      intro l m h p
      induction p with
      | nil => rfl
      | cons x p _ =>
        rw [cnt_cons, cnt_cons]
        rename_i l1 l2 _
        have hl : l1.length ≤ n := by simpa using h
        rw [ih _ _ hl p, ih _ _ (Nat.le_trans (List.length_filter_le _ _) hl) (p.filter _)]
      | swap x y l => exact cnt_swap R sym _ _ l
      | trans p q ih1 ih2 =>
        have e := p.length_eq
        rw [ih1 h, ih2 (by omega)]
  exact gen _ l m (Nat.le_refl _) p
/-- the law's own way: one point behind the other -/
def grow1 (R : Int → Int → Bool) (some : List (List Int)) (p : Int) : List (List Int) := some ++ (some.filter fun o => o.all fun q => R q p).map fun o => o ++ [p]
def growAll (R : Int → Int → Bool) (l : List Int) : List (List Int) := l.foldl (grow1 R) [[]]
theorem growAll_snoc (R : Int → Int → Bool) (l : List Int) (p : Int) : growAll R (l ++ [p]) = grow1 R (growAll R l) p := by
  unfold growAll
  rw [List.foldl_append]
  rfl
/-- those of the lists whose points are all good, are the lists of good points -/
theorem grow_filter (R : Int → Int → Bool) (G : Int → Bool) (l : List Int) : ((growAll R l).filter fun o => o.all G).length = (growAll R (l.filter G)).length := by
  have gen : ∀ n (l : List Int), l.length = n → (growAll R l).filter (fun o => o.all G) = growAll R (l.filter G) := by
    intro n
    induction n with
    | zero =>
      intro l h
      have e : l = [] := List.length_eq_zero_iff.mp h
      subst e
      rfl
    | succ n ih =>
      intro l h
      obtain ⟨l', p, rfl⟩ : ∃ l' p, l = l' ++ [p] := ⟨l.dropLast, l.getLast (fun z => by rw [z] at h; cases h), (List.dropLast_concat_getLast _).symm⟩
      have hl : l'.length = n := by simpa using h
      have ihl := ih l' hl
      rw [growAll_snoc, List.filter_append]
      unfold grow1
      rw [List.filter_append, List.filter_map, ihl]
      by_cases hp : G p = true
      · have e1 : [p].filter G = [p] := by simp [hp]
        rw [e1, growAll_snoc]
        unfold grow1
        congr 2
        rw [List.filter_filter, ← ihl, List.filter_filter]
        refine List.filter_congr fun o _ => ?_
        simp [List.all_append, hp, Bool.and_comm]
      · have e1 : [p].filter G = [] := by simp [hp]
        rw [e1, List.append_nil]
        have e2 : ((growAll R l').filter fun o => o.all fun q => R q p).filter ((fun o => o.all G) ∘ fun o => o ++ [p]) = [] := List.filter_eq_nil_iff.mpr fun o _ => by simp [List.all_append, hp]
        rw [e2]
        simp
  rw [gen _ l rfl]
theorem growAll_len (R : Int → Int → Bool) (sym : ∀ a b, R a b = R b a) : ∀ (n : Nat) (l : List Int), l.length ≤ n → (growAll R l).length = cnt R l := by
  intro n
  induction n with
  | zero =>
    intro l h
    have e : l = [] := List.length_eq_zero_iff.mp (by omega)
    subst e
    rw [cnt_nil]; rfl
  | succ n ih =>
    intro l h
    by_cases e : l = []
    · subst e; rw [cnt_nil]; rfl
    · obtain ⟨l', p, rfl⟩ : ∃ l' p, l = l' ++ [p] := ⟨l.dropLast, l.getLast e, (List.dropLast_concat_getLast e).symm⟩
      have hl : l'.length ≤ n := by simpa using h
      rw [growAll_snoc]
      unfold grow1
      rw [List.length_append, List.length_map, grow_filter R (fun q => R q p), ih l' hl, ih _ (Nat.le_trans (List.length_filter_le _ _) hl)]
      rw [cnt_perm sym (List.perm_append_comm (l₁ := l') (l₂ := [p])), List.singleton_append, cnt_cons]
      congr 2
      exact List.filter_congr fun a _ => sym a p
/-! the program's way -/
mutual
def manyN (j : Bool) : Tr → Nat
  | .pt _ => 2
  | .nd i ts => if i = j then prodN j ts else sumN j ts
def prodN (j : Bool) : List Tr → Nat
  | [] => 1
  | t :: ts => manyN j t * prodN j ts
def sumN (j : Bool) : List Tr → Nat
  | [] => 1
  | t :: ts => manyN j t - 1 + sumN j ts
end
mutual
theorem manyN_pos (j : Bool) : ∀ t : Tr, 1 ≤ manyN j t
  | .pt _ => by rw [manyN]; omega
  | .nd i ts => by
    rw [manyN]
    split
    · exact prodN_pos j ts
    · exact sumN_pos j ts
theorem prodN_pos (j : Bool) : ∀ ts : List Tr, 1 ≤ prodN j ts
  | [] => by rw [prodN]; exact Nat.le_refl _
  | t :: ts => by rw [prodN]; exact Nat.mul_pos (manyN_pos j t) (prodN_pos j ts)
theorem sumN_pos (j : Bool) : ∀ ts : List Tr, 1 ≤ sumN j ts
  | [] => by rw [sumN]; exact Nat.le_refl _
  | t :: ts => by rw [sumN]; have := sumN_pos j ts; omega
end
mutual
theorem manyN_le (j : Bool) : ∀ t : Tr, manyN j t ≤ 2 ^ t.pts.length
  | .pt _ => by rw [manyN, Tr.pts]; simp
  | .nd i ts => by
    rw [manyN, Tr.pts]
    split
    · exact prodN_le j ts
    · exact sumN_le j ts
theorem prodN_le (j : Bool) : ∀ ts : List Tr, prodN j ts ≤ 2 ^ (ptsL ts).length
  | [] => by rw [prodN, ptsL]; simp
  | t :: ts => by
    rw [prodN, ptsL, List.length_append, Nat.pow_add]
    exact Nat.mul_le_mul (manyN_le j t) (prodN_le j ts)
theorem sumN_le (j : Bool) : ∀ ts : List Tr, sumN j ts ≤ 2 ^ (ptsL ts).length
  | [] => by rw [sumN, ptsL]; simp
  | t :: ts => by
    rw [sumN, ptsL, List.length_append, Nat.pow_add]
    have h1 := manyN_le j t
    have h2 := sumN_le j ts
    have p1 := Nat.one_le_two_pow (n := t.pts.length)
    have p2 := Nat.one_le_two_pow (n := (ptsL ts).length)
    generalize 2 ^ t.pts.length = x at *
    generalize 2 ^ (ptsL ts).length = y at *
    have : x + y ≤ x * y + 1 := by
      obtain ⟨a, rfl⟩ : ∃ a, x = a + 1 := ⟨x - 1, by omega⟩
      obtain ⟨b, rfl⟩ : ∃ b, y = b + 1 := ⟨y - 1, by omega⟩
      rw [Nat.add_mul, Nat.mul_add]
      omega
    omega
end
/-- R of a tree: tied, or not -/
def relT (j : Bool) (t : Tr) (a b : Int) : Bool := t.tie a b == j
mutual
theorem manyN_cnt (j : Bool) : ∀ t : Tr, t.pts.Nodup → cnt (relT j t) t.pts = manyN j t
  | .pt n, _ => by
    rw [Tr.pts, manyN, cnt_cons, cnt_nil]
    simp [cnt_nil]
  | .nd i ts, nd => by
    rw [Tr.pts] at nd
    rw [Tr.pts, manyN]
    have e : cnt (relT j (.nd i ts)) (ptsL ts) = cnt (fun a b => tieL i ts a b == j) (ptsL ts) := cnt_congr _ _ (Nat.le_refl _) (List.pairwise_of_forall fun a b => by unfold relT; rw [Tr.tie])
    rw [e]
    split
    · rename_i h
      exact listN_prod j i h ts nd
    · rename_i h
      exact listN_sum j i h ts nd
theorem listN_prod (j i : Bool) (h : i = j) : ∀ ts : List Tr, (ptsL ts).Nodup → cnt (fun a b => tieL i ts a b == j) (ptsL ts) = prodN j ts
  | [], _ => by rw [ptsL, prodN, cnt_nil]
  | t :: ts, nd => by
    have n0 := nd
    rw [ptsL] at nd
    obtain ⟨n1, n2, n3⟩ := List.nodup_append.mp nd
    rw [ptsL, prodN, cnt_all _ _ _ (Nat.le_refl _)]
    · congr 1
      · rw [← manyN_cnt j t n1]
        refine cnt_congr _ _ (Nat.le_refl _) (List.Pairwise.imp_of_mem (fun {a b} ha hb _ => ?_) n1)
        unfold relT
        rw [tieL, if_pos ⟨ha, hb⟩]
      · rw [← listN_prod j i h ts n2]
        refine cnt_congr _ _ (Nat.le_refl _) (List.Pairwise.imp_of_mem (fun {a b} ha hb _ => ?_) n2)
        rw [tieL, if_neg (fun z => n3 a z.1 a ha rfl)]
    · intro a ha b hb
      rw [tieL_out fun u hu z => ?_]
      · simp [h]
      · rcases List.mem_cons.mp hu with rfl | hu
        · exact n3 b z.2 b hb rfl
        · exact n3 a ha a (mem_ptsL.mpr ⟨u, hu, z.1⟩) rfl
theorem listN_sum (j i : Bool) (h : ¬ i = j) : ∀ ts : List Tr, (ptsL ts).Nodup → cnt (fun a b => tieL i ts a b == j) (ptsL ts) = sumN j ts
  | [], _ => by rw [ptsL, sumN, cnt_nil]
  | t :: ts, nd => by
    rw [ptsL] at nd
    obtain ⟨n1, n2, n3⟩ := List.nodup_append.mp nd
    rw [ptsL, sumN]
    have z := cnt_none (R := fun a b => tieL i (t :: ts) a b == j) _ t.pts (ptsL ts) (Nat.le_refl _) fun a ha b hb => by
      rw [tieL_out fun u hu z => ?_]
      · simp [h]
      · rcases List.mem_cons.mp hu with rfl | hu
        · exact n3 b z.2 b hb rfl
        · exact n3 a ha a (mem_ptsL.mpr ⟨u, hu, z.1⟩) rfl
    have e1 : cnt (fun a b => tieL i (t :: ts) a b == j) t.pts = manyN j t := by
      rw [← manyN_cnt j t n1]
      refine cnt_congr _ _ (Nat.le_refl _) (List.Pairwise.imp_of_mem (fun {a b} ha hb _ => ?_) n1)
      unfold relT
      rw [tieL, if_pos ⟨ha, hb⟩]
    have e2 : cnt (fun a b => tieL i (t :: ts) a b == j) (ptsL ts) = sumN j ts := by
      rw [← listN_sum j i h ts n2]
      refine cnt_congr _ _ (Nat.le_refl _) (List.Pairwise.imp_of_mem (fun {a b} ha hb _ => ?_) n2)
      rw [tieL, if_neg (fun z => n3 a z.1 a ha rfl)]
    rw [e1, e2] at z
    have := manyN_pos j t
    omega
end
theorem tieL_sym (j : Bool) : ∀ (ts : List Tr), (∀ t ∈ ts, ∀ a b, t.tie a b = t.tie b a) → ∀ a b, tieL j ts a b = tieL j ts b a
  | [], _, a, b => by rw [tieL, tieL]
  | t :: ts, h, a, b => by
    rw [tieL, tieL]
    by_cases z : a ∈ t.pts ∧ b ∈ t.pts
    · rw [if_pos z, if_pos z.symm, h t (by simp)]
    · rw [if_neg z, if_neg (fun w => z w.symm), tieL_sym j ts fun u hu => h u (by simp [hu])]
theorem tie_sym : ∀ (t : Tr) (a b : Int), t.tie a b = t.tie b a
  | .pt n, a, b => by rw [Tr.tie, Tr.tie]
  | .nd j ts, a, b => by
    rw [Tr.tie, Tr.tie]
    exact tieL_sym j ts (fun t _ => tie_sym t) a b
/-- as many as the law counts -/
theorem many_grow (j : Bool) (t : Tr) (nd : t.pts.Nodup) : (growAll (relT j t) (srt t.pts)).length = manyN j t := by
  have sym : ∀ a b, relT j t a b = relT j t b a := fun a b => by unfold relT; rw [tie_sym]
  rw [growAll_len _ sym _ _ (Nat.le_refl _), cnt_perm sym (srt_perm t.pts), manyN_cnt j t nd]
end Jk

namespace Jk
open PySem L2 Evl
/-! ## [n for n in ns if ..] -/
section
variable {K : PySem.W.Frag} {a : Addr} {g : TG} {tt : TT} {te : TE} {vs : List Nat} {σ : L2.St} {H1 : Hp} {D : Addr} {Qd : Hp → Prop}
theorem filter_take {α : Type} {l : List α} {f : α → Bool} {i : Nat} {x : α} (h : l[i]? = some x) : (l.take (i + 1)).filter f = (l.take i).filter f ++ (if f x = true then [x] else []) := by
  rw [take_one h, List.filter_append]
  simp [List.filter_cons]
theorem lc_intsF (ns : List Int) (f : Int → Bool) (hD : H1 D = none) (hl : SqL K H1 a (ns.map V.int)) (few : ns.length ≤ 100000)
    (hs : ∀ (i : Nat) (n : Int) (H : Hp), ns[i]? = some n → Ex H1 H → g (.int n) (wipe σ vs) H fun σ2 H2 => wipe σ2 vs = wipe σ vs ∧ (∀ N : Bool → Hp → Prop, (∀ H', Ex H H' → N (f n) H') → tt σ2 H2 N) ∧ ∀ (H3 : Hp) (N : V → Hp → Prop), N (.int n) H3 → te σ2 H3 N)
    (mg : ∀ x σ H Q Q', (∀ s h, Q s h → Q' s h) → g x σ H Q → g x σ H Q')
    (hd : ∀ H', Ex H1 H' → LsI H' D (ns.filter f) → Qd H') :
    ∃ W : Nat → Nat → Hp → Prop, (∃ m, W 0 m (upd H1 D (.lst []))) ∧ ∀ i m H, W i m H →
      ((Itl K a).stop i H ∧ Qd H) ∨ ((Itl K a).go i H ∧ ∃ Nx : Hp → Prop, (∀ H', Nx H' → ∃ m', m' < m ∧ W (i + 1) m' H') ∧ ∀ x H', (Itl K a).yld i H x H' → g x (wipe σ vs) H' fun σ2 H2 => wipe σ2 vs = wipe σ vs ∧ tt σ2 H2 fun b H3 =>
        if b = true then te σ2 H3 fun y H4 => ∃ acc, H4 D = some (.lst acc) ∧ acc.length < sizeLine ∧ Nx (upd H4 D (.lst (acc ++ [y]))) else Nx H3) := by
  refine lc_list (xs := ns.map V.int) (fun i H => Ex H1 H ∧ LsI H D ((ns.take i).filter f)) ⟨Ex.new hD, upd_same⟩ (fun i H _ c => sql_kp hl fun o z => c.1 _ _ z) (fun i x H hx c => ?_) (fun H c => ?_)
  · rw [List.getElem?_map] at hx
    cases hn : ns[i]? with
    | none => rw [hn] at hx; cases hx
    | some n =>
      rw [hn] at hx
      cases hx
      obtain ⟨e, h⟩ := c
      refine mg _ _ _ _ _ (fun s2 h2 q => ?_) (hs i n H hn e)
      obtain ⟨q1, q2, q3⟩ := q
      refine ⟨q1, q2 _ fun H' e' => ?_⟩
      have e1 := e.trans e'
      have h' : LsI H' D ((ns.take i).filter f) := e' _ _ h
      have st := filter_take (f := f) hn
      by_cases hf : f n = true
      · rw [if_pos hf]
        rw [hf] at st
        refine q3 _ _ ⟨_, h', lt_line ?_, Ex.mut e1 hD, ?_⟩
        · rw [List.length_map]
          have := List.length_filter_le f (ns.take i)
          have : (ns.take i).length ≤ ns.length := by rw [List.length_take]; omega
          omega
        · unfold LsI
          rw [upd_same, st]
          simp
      · rw [if_neg hf]
        have hf' : f n = false := by simpa using hf
        rw [hf'] at st
        exact ⟨e1, by rw [st]; simpa using h'⟩
  · obtain ⟨e, h⟩ := c
    rw [List.length_map, List.take_length] at h
    exact hd H e h
end
/-! lists of lists of ints -/
structure LsLL (H : Hp) (l : Addr) (lss : List (List Int)) (as : List Addr) : Prop where
  at' : H l = some (.lst (as.map V.ref))
  len : as.length = lss.length
  all : ∀ (i : Nat) (a : Addr) (ls : List Int), as[i]? = some a → lss[i]? = some ls → LsI H a ls
theorem LsLL.up {H H' : Hp} {l : Addr} {lss : List (List Int)} {as : List Addr} (h : LsLL H l lss as) (e : Ex H H') : LsLL H' l lss as := ⟨e _ _ h.at', h.len, fun i a ls x y => e _ _ (h.all i a ls x y)⟩
theorem LsLL.get {H : Hp} {l : Addr} {lss : List (List Int)} {as : List Addr} (h : LsLL H l lss as) {i : Nat} {v : V} (e : (as.map V.ref)[i]? = some v) : ∃ a ls, v = .ref a ∧ as[i]? = some a ∧ lss[i]? = some ls ∧ LsI H a ls := by
  rw [List.getElem?_map] at e
  cases ha : as[i]? with
  | none => rw [ha] at e; cases e
  | some a =>
    rw [ha] at e
    cases e
    have hi : i < lss.length := by rw [← h.len]; exact lt_of_get ha
    exact ⟨a, lss[i], rfl, rfl, List.getElem?_eq_getElem hi, h.all i a _ ha (List.getElem?_eq_getElem hi)⟩
theorem LsLL.cat {H : Hp} {l b : Addr} {xs ys : List (List Int)} {as bs : List Addr} (h : LsLL H l xs as) (g : LsLL H b ys bs) {Q : VK} (hb : xs.length + ys.length ≤ 100000) (k : ∀ p H2, H p = none → Ex H H2 → LsLL H2 p (xs ++ ys) (as ++ bs) → Q (.ref p) H2) : jCat (.ref l) (.ref b) H Q := by
  rw [j_cat]
  refine ⟨_, h.at', _, g.at', by simp [h.len, g.len]; omega, fun p H2 n e z => k p H2 n e ⟨by rw [z, List.map_append], by simp [h.len, g.len], fun i a ls x y => ?_⟩⟩
  by_cases hi : i < as.length
  · rw [List.getElem?_append_left hi] at x
    rw [List.getElem?_append_left (by rw [← h.len]; exact hi)] at y
    exact e _ _ (h.all i a ls x y)
  · rw [List.getElem?_append_right (by omega)] at x
    rw [List.getElem?_append_right (by rw [← h.len]; omega), ← h.len] at y
    exact e _ _ (g.all _ a ls x y)
/-! sizes -/
theorem growAll_le (R : Int → Int → Bool) : ∀ (n : Nat) (l : List Int), l.length ≤ n → (growAll R l).length ≤ 2 ^ l.length := by
  intro n
  induction n with
  | zero =>
    intro l h
    have e : l = [] := List.length_eq_zero_iff.mp (by omega)
    subst e
    exact Nat.le_refl 1
  | succ n ih =>
    intro l h
    by_cases e : l = []
    · subst e; exact Nat.le_refl 1
    · obtain ⟨l', p, rfl⟩ : ∃ l' p, l = l' ++ [p] := ⟨l.dropLast, l.getLast e, (List.dropLast_concat_getLast e).symm⟩
      have hl : l'.length ≤ n := by simpa using h
      have := ih l' hl
      rw [growAll_snoc]
      unfold grow1
      rw [List.length_append, List.length_map, List.length_append]
      have := List.length_filter_le (fun o : List Int => o.all fun q => R q p) (growAll R l')
      have : 2 ^ (l'.length + [p].length) = 2 * 2 ^ l'.length := by rw [List.length_singleton, Nat.pow_succ]; omega
      omega
theorem growAll_in (R : Int → Int → Bool) : ∀ (n : Nat) (l : List Int), l.length ≤ n → ∀ o ∈ growAll R l, ∀ x ∈ o, x ∈ l := by
  intro n
  induction n with
  | zero =>
    intro l h
    have e : l = [] := List.length_eq_zero_iff.mp (by omega)
    subst e
    intro o ho x hx
    have : o = [] := by simpa [growAll] using ho
    subst this
    exact hx
  | succ n ih =>
    intro l h
    by_cases e : l = []
    · subst e
      intro o ho x hx
      have : o = [] := by simpa [growAll] using ho
      subst this
      exact hx
    · obtain ⟨l', p, rfl⟩ : ∃ l' p, l = l' ++ [p] := ⟨l.dropLast, l.getLast e, (List.dropLast_concat_getLast e).symm⟩
      have hl : l'.length ≤ n := by simpa using h
      intro o ho x hx
      rw [growAll_snoc] at ho
      unfold grow1 at ho
      rcases List.mem_append.mp ho with ho | ho
      · exact List.mem_append_left _ (ih l' hl o ho x hx)
      · obtain ⟨o', ho', rfl⟩ := List.mem_map.mp ho
        rcases List.mem_append.mp hx with hx | hx
        · exact List.mem_append_left _ (ih l' hl o' (List.mem_filter.mp ho').1 x hx)
        · exact List.mem_append_right _ hx
theorem growAll_lens (R : Int → Int → Bool) : ∀ (n : Nat) (l : List Int), l.length ≤ n → ∀ o ∈ growAll R l, o.length ≤ l.length := by
  intro n
  induction n with
  | zero =>
    intro l h
    have e : l = [] := List.length_eq_zero_iff.mp (by omega)
    subst e
    intro o ho
    have : o = [] := by simpa [growAll] using ho
    subst this
    exact Nat.le_refl 0
  | succ n ih =>
    intro l h
    by_cases e : l = []
    · subst e
      intro o ho
      have : o = [] := by simpa [growAll] using ho
      subst this
      exact Nat.le_refl 0
    · obtain ⟨l', p, rfl⟩ : ∃ l' p, l = l' ++ [p] := ⟨l.dropLast, l.getLast e, (List.dropLast_concat_getLast e).symm⟩
      have hl : l'.length ≤ n := by simpa using h
      intro o ho
      rw [growAll_snoc] at ho
      unfold grow1 at ho
      rw [List.length_append, List.length_singleton]
      rcases List.mem_append.mp ho with ho | ho
      · have := ih l' hl o ho; omega
      · obtain ⟨o', ho', rfl⟩ := List.mem_map.mp ho
        have := ih l' hl o' (List.mem_filter.mp ho').1
        rw [List.length_append, List.length_singleton]
        omega
theorem LsLL.cat' {H : Hp} {l b : Addr} {xs ys : List (List Int)} {as bs : List Addr} {Q : Addr → Hp → Prop} (h : LsLL H l xs as) (g : LsLL H b ys bs) (hb : xs.length + ys.length ≤ 100000) (k : ∀ p H2, H p = none → Ex H H2 → LsLL H2 p (xs ++ ys) (as ++ bs) → Q p H2) :
    ∃ vs, H l = some (.lst vs) ∧ ∃ zs, H b = some (.lst zs) ∧ vs.length + zs.length ≤ 100000 ∧ ∀ (p : Addr) (H2 : Hp), H p = none → Ex H H2 → H2 p = some (.lst (vs ++ zs)) → Q p H2 := by
  have z := h.cat g (Q := fun v H2 => ∃ p, v = .ref p ∧ Q p H2) hb fun p H2 n e c => ⟨p, rfl, k p H2 n e c⟩
  rw [j_cat] at z
  obtain ⟨vs, h1, zs, h2, h3, h4⟩ := z
  exact ⟨vs, h1, zs, h2, h3, fun p H2 n e c => by obtain ⟨p', e', q⟩ := h4 p H2 n e c; cases e'; exact q⟩
/-- of sorted unlike points the earlier is the lesser -/
theorem srt_lt {l : List Int} (nd : l.Nodup) : (srt l).Pairwise (· < ·) := by
  have h1 := srt_le l
  have h2 : (srt l).Nodup := (srt_perm l).nodup_iff.mpr nd
  exact (h1.and h2).imp fun ⟨a, b⟩ => by omega
theorem take_lt {l : List Int} (h : l.Pairwise (· < ·)) {m : Nat} {p : Int} (hp : l[m]? = some p) {x : Int} (hx : x ∈ l.take m) : x < p := by
  have e : l.take (m + 1) = l.take m ++ [p] := take_one hp
  have h2 : (l.take (m + 1)).Pairwise (· < ·) := h.sublist (List.take_sublist _ _)
  rw [e] at h2
  exact (List.pairwise_append.mp h2).2.2 x hx p (by simp)
end Jk

namespace Jk
/-! ## trees as texts, by signs' numbers -/
def dig (n : Int) : List Nat := if 10 ≤ n then [48 + n.toNat / 10, 48 + n.toNat % 10] else [48 + n.toNat]
def sgn (j : Bool) : List Nat := [32, if j = true then 38 else 124, 32]
mutual
def Tr.txt : Tr → List Nat
  | .pt n => dig n
  | .nd j ts => 40 :: (txtL j ts ++ [41])
def txtL (j : Bool) : List Tr → List Nat
  | [] => []
  | t :: ts => t.txt ++ txtR j ts
def txtR (j : Bool) : List Tr → List Nat
  | [] => []
  | t :: ts => sgn j ++ t.txt ++ txtR j ts
end
theorem dig_len (n : Int) : 1 ≤ (dig n).length ∧ (dig n).length ≤ 2 := by unfold dig; split <;> simp
mutual
theorem txt_le : ∀ t : Tr, t.form → t.txt.length + 5 ≤ 7 * t.pts.length
  | .pt n, _ => by rw [Tr.txt, Tr.pts]; have := dig_len n; simp; omega
  | .nd j ts, h => by
    rw [Tr.form] at h
    rw [Tr.txt, Tr.pts, List.length_cons, List.length_append, List.length_singleton]
    match ts, h with
    | t :: us, h =>
      have h1 := txt_le t (formL_iff.mp h.2.2 t (by simp)).1
      have h2 := txtR_le j us fun u hu => (formL_iff.mp h.2.2 u (by simp [hu])).1
      have := h.1
      rw [txtL, ptsL, List.length_append, List.length_append]
      simp at this
      omega
theorem txtR_le (j : Bool) : ∀ ts : List Tr, (∀ t ∈ ts, t.form) → (txtR j ts).length + 2 * ts.length ≤ 7 * (ptsL ts).length
  | [], _ => by rw [txtR, ptsL]; simp
  | t :: ts, h => by
    have h1 := txt_le t (h t (by simp))
    have h2 := txtR_le j ts fun u hu => h u (by simp [hu])
    rw [txtR, ptsL, List.length_append, List.length_append, List.length_append]
    simp [sgn]
    omega
end
theorem txt_pos : ∀ t : Tr, 1 ≤ t.txt.length
  | .pt n => by rw [Tr.txt]; exact (dig_len n).1
  | .nd j ts => by rw [Tr.txt]; simp
theorem txtL_pos {j : Bool} : ∀ {ts : List Tr}, ts ≠ [] → 1 ≤ (txtL j ts).length
  | [], h => absurd rfl h
  | t :: ts, _ => by rw [txtL, List.length_append]; have := txt_pos t; omega
theorem txtR_app (j : Bool) : ∀ (as bs : List Tr), txtR j (as ++ bs) = txtR j as ++ txtR j bs
  | [], bs => by rw [txtR]; rfl
  | a :: as, bs => by rw [List.cons_append, txtR, txtR, txtR_app j as bs]; simp only [List.append_assoc]
theorem txtL_snoc (j : Bool) {ts : List Tr} (h : ts ≠ []) (t : Tr) : txtL j (ts ++ [t]) = txtL j ts ++ (sgn j ++ t.txt) := by
  match ts, h with
  | a :: as, _ => rw [List.cons_append, txtL, txtL, txtR_app, txtR, txtR, List.append_nil, List.append_assoc]
/-- what may stand behind a piece: nothing, a sign or a bracket -/
def restOk : List Nat → Prop
  | [] => True
  | c :: _ => c = 32 ∨ c = 41
theorem dig_first (n : Int) (h : 0 ≤ n ∧ n ≤ 29) : ∃ c r, dig n = c :: r ∧ 48 ≤ c ∧ c ≤ 57 := by
  unfold dig
  split
  · exact ⟨_, _, rfl, by omega, by omega⟩
  · exact ⟨_, _, rfl, by omega, by omega⟩
theorem dig_inj : ∀ a b : Nat, a < 30 → b < 30 → dig a = dig b → a = b := by
  intro a b ha hb h
  unfold dig at h
  split at h <;> split at h
  · simp at h; omega
  · simp at h
  · simp at h
  · simp at h; omega
/-- the figures of a point, read with two signs first -/
theorem dig_two {n : Int} (h : 0 ≤ n ∧ n ≤ 29) {rest : List Nat} (ok : restOk rest) : (10 ≤ n ∧ (dig n ++ rest).take 2 = dig n) ∨ (n < 10 ∧ (dig n ++ rest).take 1 = dig n ∧ ∀ m : Int, 0 ≤ m → m ≤ 29 → (dig n ++ rest).take 2 = dig m → m = n) := by
  by_cases h10 : 10 ≤ n
  · refine .inl ⟨h10, ?_⟩
    unfold dig
    rw [if_pos h10]
    rfl
  · refine .inr ⟨by omega, by unfold dig; rw [if_neg h10]; rfl, fun m m0 m1 e => ?_⟩
    unfold dig at e
    rw [if_neg h10] at e
    match rest, ok with
    | [], _ =>
      split at e
      · simp at e
      · simp at e; omega
    | c :: r, ok =>
      have hc : c = 32 ∨ c = 41 := ok
      split at e
      · simp at e
        omega
      · simp at e
end Jk

namespace Jk
open PySem PySem.Spec PyProof.Rows L2 Evl
section
variable {X : Cx}
/-! xs[::-1] -/
def jRev (K : PySem.W.Frag) (te : TE) (ts : TO) : TE := fun σ H Q => te σ H fun x H1 => ts σ H1 fun o H2 => o = some (-1) ∧ ∃ a xs, x = .ref a ∧ SqL K H2 a xs ∧ ∀ p H3, H2 p = none → Ex H2 H3 → H3 p = some (.lst xs.reverse) → Q (.ref p) H3
@[simp] theorem j_rev {K : PySem.W.Frag} {te : TE} {ts : TO} {σ : L2.St} {H : Hp} {Q : VK} : jRev K te ts σ H Q = te σ H fun x H1 => ts σ H1 fun o H2 => o = some (-1) ∧ ∃ a xs, x = .ref a ∧ SqL K H2 a xs ∧ ∀ p H3, H2 p = none → Ex H2 H3 → H3 p = some (.lst xs.reverse) → Q (.ref p) H3 := rfl
theorem pe_sliceRev {K0 : PySem.W.Frag} {e st : Expr} {te : TE} {ts : TO} {p2 pos : Pos} (he : PE X e te) (hst : PO X (some st) ts) (hK : X.K = K0 := by rfl) : PE X (.Subscript e (.Slice none none (some st) p2) pos) (jRev K0 te ts) := by
  subst hK
  refine ⟨fun pins s σ H Q I h => ?_⟩
  refine Subscript_ (thn (he.run pins s σ H _ I h) fun v s1 ⟨x, H1, I1, r1, q1⟩ => ?_)
  refine wpAny_Slice (thn ((po_none (X := X)).run pins s1 σ H1 (fun o H2 => o = none ∧ H2 = H1) I1 ⟨rfl, rfl⟩) fun vl s2 ⟨l, H2, I2, pl, el, eh⟩ => thn ((po_none (X := X)).run pins s2 σ H2 (fun o H3 => o = none ∧ H3 = H2) I2 ⟨rfl, rfl⟩) fun vu s3 ⟨u, H3, I3, pu, eu, eh2⟩ => ?_)
  subst el eu eh eh2
  refine thn (hst.run pins s3 σ H3 _ I3 q1) fun vk s4 ⟨k, H4, I4, pk, q4⟩ => ?_
  obtain ⟨ek, a, xs, ex, hx, q⟩ := q4
  subst ek ex
  obtain rfl : v = Value.ref a := r1
  have I5 : L2.Inv X pins σ H4 { s4 with heap := s4.heap.push { cls := .type "slice", data := .fields #[vl, vu, vk] } } := I4.kept (t' := s4.toks) fun b ob q => Heap.get?_push_of_some _ q
  obtain ⟨its, r, ht, hz⟩ := I5.list hx
  have hlen := r.length
  show wpAny (model X.prog X.w) X.A (subscriptTail e (.Slice none none (some st) p2) (.ref a) (.ref s4.heap.objs.size)) (EP X pins σ Q) X.xe { s4 with heap := s4.heap.push { cls := .type "slice", data := .fields #[vl, vu, vk] } }
  refine tail_any (ops := [.ref a, .ref s4.heap.objs.size]) ht.isList.typeIs slot_list_getitem.lookup ?_ (by with_unfolding_all rfl)
  refine wpAny_getItem_list_slice ht.isList (Heap.IsSliceOf.new ..) pl pu pk (by simp) ?_ (by rw [List.size_toArray] <;> omega)
  rw [PySem.W.krv_pick, List.toList_toArray]
  have hn := I5.hok.fresh (Nat.le_refl _)
  refine ⟨.ref (s4.heap.push { cls := .type "slice", data := .fields #[vl, vu, vk] }).objs.size, _, I5.laid (t' := s4.toks) (o := .lst xs.reverse) (fun b ob q => Heap.get?_push_of_some _ q) (Nat.le_refl _) ?_, rfl, q _ _ hn (Ex.new hn) upd_same⟩
  exact ⟨by rw [List.length_reverse]; exact hz, _, 0, Vals.reverse r, Heap.get?_push_size _ rfl⟩
end
/-! ## texts by their signs' numbers -/
def mkS (l : List Nat) : Str := ⟨l.toArray⟩
theorem mkS_inj {a b : List Nat} : mkS a = mkS b ↔ a = b := ⟨fun h => by
  have := congrArg (fun z : Str => z.cps.toList) h
  simpa [mkS] using this, fun h => by rw [h]⟩
theorem mkS_len (l : List Nat) : (mkS l).length = l.length := by simp [mkS, Str.length]
theorem mkS_app (a b : List Nat) : mkS a ++ mkS b = mkS (a ++ b) := by
  show Str.append _ _ = _
  unfold Str.append mkS
  simp
theorem s_open : Str.ofString "(" = mkS [40] := by decide +kernel
theorem s_close : Str.ofString ")" = mkS [41] := by decide +kernel
theorem s_side : Str.ofString " | " = mkS (sgn false) := by decide +kernel
theorem s_join : Str.ofString " & " = mkS (sgn true) := by decide +kernel
theorem s_none : Str.ofString "" = mkS [] := by decide +kernel
theorem s_digN : ∀ n : Nat, n < 30 → (Str.ofString (toString (n : Int))) = mkS (dig n) := by decide +kernel
theorem s_dig {n : Int} (h : 0 ≤ n ∧ n ≤ 29) : (Str.ofString (toString n)) = mkS (dig n) := by
  have := s_digN n.toNat (by omega)
  rwa [show ((n.toNat : Nat) : Int) = n by omega] at this
theorem cut_mk (l : List Nat) {a b : Nat} (h : a ≤ b) : cutS (mkS l) (some (a : Int)) (some (b : Int)) = mkS ((l.drop a).take (b - a)) := by
  unfold cutS
  rw [mkS_len, HT.sIx_nat, HT.sIx_nat]
  show (⟨_⟩ : Str) = ⟨_⟩
  congr 2
  show (l.drop (min a l.length)).take (min b l.length - min a l.length) = _
  by_cases ha : a ≤ l.length
  · rw [Nat.min_eq_left ha]
    by_cases hb : b ≤ l.length
    · rw [Nat.min_eq_left hb]
    · rw [Nat.min_eq_right (by omega), List.take_of_length_le (by rw [List.length_drop]; omega), List.take_of_length_le (by rw [List.length_drop]; omega)]
  · rw [List.drop_of_length_le (by omega), List.drop_of_length_le (by omega)]
    simp
section
variable {X : Cx}
/-- text[a:b] -/
def jSlT : V → Option Int → Option Int → Hp → VK → Prop := fun x lo hi H Q => ∃ (l : List Nat) (a b : Nat), x = .str (mkS l) ∧ lo = some (a : Int) ∧ hi = some (b : Int) ∧ a ≤ b ∧ l.length ≤ 100000 ∧ Q (.str (mkS ((l.drop a).take (b - a)))) H
theorem sl_txt : SlR X jSlT := fun pins s σ H x v vl vu lo hi sl Q I rx hs pl pu ⟨l, a, b, e1, e2, e3, h, hz, q⟩ => sl_str pins s σ H x v vl vu lo hi sl Q I rx hs pl pu ⟨mkS l, e1, by rw [mkS_len]; exact Nat.le_of_lt (lt_line hz), by
  subst e2 e3
  rw [cut_mk l h]
  exact q⟩
/-- text * 0 or 1 -/
def jMulS : R2 := fun x y H Q => ∃ (l : List Nat) (b : Bool), x = .str (mkS l) ∧ y = .int (if b = true then 1 else 0) ∧ l.length ≤ 100000 ∧ Q (.str (mkS (if b = true then l else []))) H
theorem op_mulS : OpR X (binaryOp .Mult) jMulS := by
  intro pins s σ H x y v u Q I rx ry h
  obtain ⟨l, b, rfl, rfl, hz, q⟩ := h
  obtain ⟨t, rfl⟩ := rx
  obtain ⟨t2, rfl⟩ := ry
  cases b with
  | false =>
    refine PySem.P.mul_str_none (by decide) (by decide) ⟨.str (mkS []), H, I.kept (t' := s.toks + 1) (fun _ _ z => z), ⟨_, rfl⟩, q⟩
  | true =>
    refine PySem.P.mul_str (by decide) (fun _ h => by simp at h) (fun _ h => by simp at h) ?_
    simp
    exact ⟨.str (mkS l), H, I, ⟨_, rfl⟩, q⟩
end
end Jk

namespace Jk
open PySem PySem.Spec PyProof.Rows L2 Evl
section
variable {X : Cx}
theorem sw_trueD {kx vx : Expr} {gs : List Comprehension} {scope : Scope} {pos py : Pos} {y : Str} {l : Nat} {env : Env} (hk : env.scope.kind = .function) (hy : env.scope.names.lookup y = some .local) (hl : (py.line == pos.line) = true)
    (ha : (scope.names.any fun (n, k) => n == y && (k == .local || k == .cell)) = false) : swapsWith (.DictComp kx vx gs scope pos) (some (.Name y py)) l env = pure true := by
  have ky : env.kindOf y = some .local := hy
  have hb : env.blockKind = .function := by unfold Env.blockKind; rw [hk]; rfl
  unfold swapsWith
  simp only [hb, ky, ha, Expr.pos, hl]
  rfl
theorem ps_setDc {i : Nat} {y : Str} {py : Pos} {kx vx tg iter : Expr} {ifs : List Expr} {scope : Scope} {own : List (Str × Nat)} {pos spos : Pos} {wi : TI} {g : TG} {tt : TT} {tk tv : TE} (hc : X.calm = true) (hN : X.N.Nodup) (hy : X.N[i]? = some y) (hyl : X.env.scope.names.lookup y = some .local)
    (hsw : swapsWith (.DictComp kx vx [⟨tg, iter, ifs, 0⟩] scope pos) (some (.Name y py)) spos.line X.env = pure true) (hi : PI X tg iter wi) (ok : BlkOk X.N X.env.scope scope own)
    (hg : ∀ (s : Shared) (H : Hp) (C : Addr) (cl : List (Str × Addr)) (fp : List Addr), PG (X.blk s H scope (compEnvC scope cl C X.env) fp) tg g) (ht : ∀ (s : Shared) (H : Hp) (C : Addr) (cl : List (Str × Addr)) (fp : List Addr), PTs (X.blk s H scope (compEnvC scope cl C X.env) fp) ifs tt)
    (hk : ∀ (s : Shared) (H : Hp) (C : Addr) (cl : List (Str × Addr)) (fp : List Addr), PE (X.blk s H scope (compEnvC scope cl C X.env) fp) kx tk)
    (he : ∀ (s : Shared) (H : Hp) (C : Addr) (cl : List (Str × Addr)) (fp : List Addr), PE (X.blk s H scope (compEnvC scope cl C X.env) fp) vx tv) (hs : ∀ x, foldedSetIterable iter X.env x = pure x := by intro _; rfl) :
    PS X (.Assign [.Name y py] (.DictComp kx vx [⟨tg, iter, ifs, 0⟩] scope pos) spos) (tAsg (tDc wi g tt tk tv (own.map (·.2))) (gName i)) := by
  refine ⟨fun pins s σ H D I h => ?_⟩
  rw [exec_Assign_Name_used _ _ _ _ hsw]
  refine wpAny_bind (wpAny_standAt (wpAny_bind ?_))
  have h : tDc wi g tt tk tv (own.map (·.2)) σ H (fun x H1 => gName i x σ H1 D.nx) := h
  refine wpAny_bind (thn (dc_core (Qf := fun _ s' => SP X pins D .next s') hc hN I hi ok hg ht hk he hs h fun L C s' m H' I' q hn f => ?_) fun _ s' hq => wpAny_pure (wpAny_pure hq))
  show wpAny _ _ (assign (.Name y py) X.env (.ref L)) _ _ _
  refine wpAny_assign_Name (store_ok2 (v := V.ref L) I' hN hy (.inl hyl) rfl (fun s2 I2 ⟨a, sb, ha⟩ => ?_) (.inr hyl))
  obtain ⟨f0, f1, f2, f3, f4, f5⟩ := f
  have haC : C ≠ a := by
    rcases ha with z | z
    · rw [z]; exact f1
    · exact fun e => f4 y a z e.symm
  refine ⟨m, hn.sameBut sb haC, fun h3 sb3 => ?_⟩
  exact ⟨_, H', I2.turned (t' := s2.toks) (fun b o hb e => (sb3.2 b hb).trans e) f0 f1 f3 f4 f5, q⟩
end
end Jk

namespace Jk
open PySem PySem.Spec PyProof.Rows L2 Evl
theorem moved_eq {wr : List Addr} {s s' : Shared} (m : Moved wr (fun a b => b = a) s s') : s' = { s with heap := s'.heap, toks := s'.toks } := by
  obtain ⟨_, g, d, o, _⟩ := m
  cases s'
  cases s
  simp at g d o ⊢
  exact ⟨g, d, o⟩
theorem max_len {prog : Program} {w : World} {A : Around} {s : Shared} {E : Value → Shared → Prop} {Q : Value → Shared → Prop} {l : Addr} {its : Array Value} {ln : Nat → Int} (hh : A.handled = none) (hl : s.heap.IsList l its) (h0 : 0 < its.size)
    (hk : ∀ i v, its[i]? = some v → ∃ a ys, v = .ref a ∧ s.heap.IsList a ys ∧ (ys.size : Int) = ln i ∧ (ys.size : Int) < 2 ^ 63)
    (h : ∀ v h' tk, its[argBest (fun i j => decide (ln i > ln j)) (its.size - 1)]? = some v → (∀ d o, s.heap.get? d = some o → h'.get? d = some o) → Q v { s with heap := h', toks := tk }) :
    wpAny (model prog w) A (call (.builtin "max") [.ref l] [(Str.ofString "key", .builtin "len")]) Q E s := by
  refine call_max_walkKB (iter_anyList hl fun s₂ e st hfp hlI => ?_)
  subst e
  refine ⟨_, _, _, _, _, _, _, fun s' => ∃ h' tk, s' = { s with heap := h', toks := tk } ∧ ∀ d o, s.heap.get? d = some o → h'.get? d = some o, fun i k _ => ∃ t, k = .int (ln i) t, fun i j => decide (ln i > ln j), rfl, (Walks.list (A := A.in1) hh _ l hlI its).toS, st, hfp, h0, ⟨?_, ?_, ?_, ?_⟩, ?_, fun v s' hP hJ => ?_⟩
  · rintro s1 s2 ⟨h1, t1, rfl, k⟩ m
    refine ⟨s2.heap, s2.toks, (moved_eq m :), fun d o e => m.heap d o (fun z => ?_) (k d o e)⟩
    have lt := Heap.lt_size e
    rcases List.mem_cons.mp z with rfl | z
    · rw [Heap.size_push] at lt
      exact Nat.lt_irrefl _ (Nat.lt_of_succ_lt lt)
    · rcases List.mem_cons.mp z with rfl | z
      · exact Nat.lt_irrefl _ lt
      · cases z
  · exact fun i k s1 s2 v _ => v
  · rintro i v s1 o Q1 E1 hi hP ⟨h1, t1, rfl, k⟩ hSt hS q
    obtain ⟨a, ys, rfl, hla, e1, e2⟩ := hk i v hP
    have hla' : h1.IsList a ys := hla.at fun o e => k _ o e
    refine PySem.Calls.call_len_list (s := { s with heap := h1, toks := t1 }) hla' e2 ?_
    exact q _ _ ⟨h1, _, rfl, k⟩ hSt hS ⟨_, by rw [e1]⟩ fun _ _ x => x
  · rintro i j ki kj s1 Q1 E1 _ ⟨t, rfl⟩ ⟨u, rfl⟩ q
    exact richCompare_gives (op := .Gt) (typeIs_int s1 _ t) (typeIs_int s1 _ u) F.slot_int_gt F.entry_int_gt (F.args_int_gt_2 _ _) (gives_int_gt _ _ t u) (fun x => nomatch x) q
  · exact ⟨_, _, rfl, fun d o e => Heap.get?_push_of_some _ e⟩
  · obtain ⟨h1, t1, rfl, k⟩ := hJ
    exact h v h1 t1 hP k
def bestIx (ln : Nat → Nat) (n : Nat) : Nat := argBest (fun i j => decide ((ln i : Int) > (ln j : Int))) (n - 1)
def jMaxLen (K : PySem.W.Frag) (ta : TE) : TE := fun σ H Q => ta σ H fun x H1 => ∃ (a : Addr) (xs : List V) (ln : Nat → Nat), x = .ref a ∧ SqL K H1 a xs ∧ 0 < xs.length ∧ (∀ i v, xs[i]? = some v → ∃ b ys, v = .ref b ∧ SqL K H1 b ys ∧ ys.length = ln i) ∧ ∀ v, xs[bestIx ln xs.length]? = some v → Q v H1
@[simp] theorem j_maxLen {K : PySem.W.Frag} {ta : TE} {σ : L2.St} {H : Hp} {Q : VK} : jMaxLen K ta σ H Q = ta σ H fun x H1 => ∃ (a : Addr) (xs : List V) (ln : Nat → Nat), x = .ref a ∧ SqL K H1 a xs ∧ 0 < xs.length ∧ (∀ i v, xs[i]? = some v → ∃ b ys, v = .ref b ∧ SqL K H1 b ys ∧ ys.length = ln i) ∧ ∀ v, xs[bestIx ln xs.length]? = some v → Q v H1 := rfl
theorem pe_maxLen {X : Cx} {K0 : PySem.W.Frag} {a : Expr} {ta : TE} {p p2 kp pos : Pos} (hc : X.calm = true) (g1 : Gl X "max") (m1 : X.mg "max" = none) (g2 : Gl X "len") (m2 : X.mg "len" = none) (ha : PE X a ta) (hK : X.K = K0 := by rfl)
    (hs0 : starEach [a] X.env = (false, eval a X.env) :: starEach [] X.env := by rfl) (he : backTo pos (starEach [a] X.env) = (false, eval a X.env) :: backTo pos (starEach [] X.env) := by rfl) (hpl : (backTo pos (starEach [a] X.env)).any (·.1) = false := by rfl) :
    PE X (.Call (.Name "max" p) [a] [⟨some "key", .Name "len" p2, kp⟩] pos) (jMaxLen K0 ta) := by
  subst hK
  refine ⟨fun pins s σ H Q I h => ?_⟩
  refine wpAny_Call_Name_kw (ld_blt I g1 m1 (u := .builtin "max") rfl ?_)
  have h' : tCons ta tNil σ H (fun vs H1 => match vs with | [x] => ∃ (a : Addr) (xs : List V) (ln : Nat → Nat), x = .ref a ∧ SqL X.K H1 a xs ∧ 0 < xs.length ∧ (∀ i v, xs[i]? = some v → ∃ b ys, v = .ref b ∧ SqL X.K H1 b ys ∧ ys.length = ln i) ∧ ∀ v, xs[bestIx ln xs.length]? = some v → Q v H1 | _ => False) := h
  refine PyProof.Rows.callWith_kw (thn ((pa_cons ha pa_nil hs0).run pos pins s σ H _ I h') fun us s1 ⟨vs, H1, I1, r1, q1⟩ => ?_) he hpl rfl rfl
  show wpAny _ _ (evalAll ((do let v ← eval (.Name "len" p2) X.env; standAt pos; pure v) :: (backToKw pos (keywordEach [] X.env)).map (·.2))) _ _ s1
  refine wpAny_evalAll_cons (wpAny_bind (ld_blt I1 g2 m2 (u := .builtin "len") rfl (wpAny_bind (wpAny_standAt (wpAny_pure (wpAny_evalAll_nil ?_))))))
  match vs, r1, q1 with
  | [x], r1, q1 =>
    obtain ⟨l, xs, ln, rfl, hs, h0, hk, q⟩ := q1
    rw [Vals.ref1 r1]
    obtain ⟨its, rv, hl, hz⟩ := I1.list hs
    have en : xs.length = its.length := rv.length
    show wpAny _ _ (call (.builtin "max") [.ref l] [(Str.ofString "key", .builtin "len")]) _ _ _
    have back : ∀ (i : Nat) (v : Value), its.toArray[i]? = some v → ∃ x, xs[i]? = some x ∧ RelV x v := fun i v hv => by
      have hi : its[i]? = some v := by simpa using hv
      have hlt : i < xs.length := by
        rw [en]
        exact (List.getElem?_eq_some_iff.mp hi).1
      obtain ⟨u, hu, ru⟩ := Vals.get rv (List.getElem?_eq_getElem hlt)
      rw [hi] at hu
      cases hu
      exact ⟨_, List.getElem?_eq_getElem hlt, ru⟩
    refine max_len (ln := fun i => (ln i : Int)) (I1.ok.hd hc) hl.isList (by simp; omega) (fun i v hv => ?_) fun v h2 tk hv k => ?_
    · obtain ⟨x, hx, rx⟩ := back i v hv
      obtain ⟨b, ys, rfl, hy, e⟩ := hk i x hx
      obtain ⟨its2, rv2, hl2, hz2⟩ := I1.list hy
      have e2 : ys.length = its2.length := rv2.length
      have h63 := line63
      refine ⟨b, its2.toArray, rx, hl2.isList, by simp; omega, ?_⟩
      simp
      omega
    · obtain ⟨x, hx, rx⟩ := back _ v hv
      refine ⟨x, H1, I1.kept k, rx, q x ?_⟩
      unfold bestIx
      rw [en]
      simpa using hx
end Jk

namespace Jk
/-! ## how large the greatest ones are, and how many the fewest are -/
mutual
def gN (j : Bool) : Tr → Nat
  | .pt _ => 1
  | .nd i ts => if i = j then addG j ts else topG j ts
def addG (j : Bool) : List Tr → Nat
  | [] => 0
  | t :: ts => gN j t + addG j ts
def topG (j : Bool) : List Tr → Nat
  | [] => 0
  | t :: ts => max (gN j t) (topG j ts)
end
theorem addG_perm {j : Bool} {l m : List Tr} (p : l.Perm m) : addG j l = addG j m := by
  induction p with
  | nil => rfl
  | cons a _ ih => rw [addG, addG, ih]
  | swap a b l => rw [addG, addG, addG, addG]; omega
  | trans _ _ h1 h2 => rw [h1, h2]
theorem topG_perm {j : Bool} {l m : List Tr} (p : l.Perm m) : topG j l = topG j m := by
  induction p with
  | nil => rfl
  | cons a _ ih => rw [topG, topG, ih]
  | swap a b l => rw [topG, topG, topG, topG]; omega
  | trans _ _ h1 h2 => rw [h1, h2]
theorem prodN_perm {j : Bool} {l m : List Tr} (p : l.Perm m) : prodN j l = prodN j m := by
  induction p with
  | nil => rfl
  | cons a _ ih => rw [prodN, prodN, ih]
  | swap a b l => rw [prodN, prodN, prodN, prodN, Nat.mul_left_comm]
  | trans _ _ h1 h2 => rw [h1, h2]
theorem sumN_perm {j : Bool} {l m : List Tr} (p : l.Perm m) : sumN j l = sumN j m := by
  induction p with
  | nil => rfl
  | cons a _ ih => rw [sumN, sumN, ih]
  | swap a b l => rw [sumN, sumN, sumN, sumN]; omega
  | trans _ _ h1 h2 => rw [h1, h2]
theorem addG_app (j : Bool) : ∀ as bs : List Tr, addG j (as ++ bs) = addG j as + addG j bs
  | [], bs => by rw [addG]; simp
  | a :: as, bs => by rw [List.cons_append, addG, addG, addG_app j as bs]; omega
theorem topG_app (j : Bool) : ∀ as bs : List Tr, topG j (as ++ bs) = max (topG j as) (topG j bs)
  | [], bs => by rw [topG]; simp
  | a :: as, bs => by rw [List.cons_append, topG, topG, topG_app j as bs]; omega
theorem prodN_app (j : Bool) : ∀ as bs : List Tr, prodN j (as ++ bs) = prodN j as * prodN j bs
  | [], bs => by rw [prodN]; simp
  | a :: as, bs => by rw [List.cons_append, prodN, prodN, prodN_app j as bs, Nat.mul_assoc]
theorem sumN_app (j : Bool) : ∀ as bs : List Tr, sumN j (as ++ bs) = sumN j as + sumN j bs - 1
  | [], bs => by rw [sumN]; simp
  | a :: as, bs => by
    have := sumN_pos j as
    have := sumN_pos j bs
    rw [List.cons_append, sumN, sumN, sumN_app j as bs]; omega
theorem addG_brings (j : Bool) (t : Tr) : addG j (brings j t) = gN j t := by
  cases t with
  | pt n => simp [brings, addG]
  | nd i ts =>
    rw [brings_nd, gN]
    split
    · rfl
    · rename_i h
      simp [addG, gN, h]
theorem topG_brings {i j : Bool} (h : j ≠ i) (t : Tr) : topG i (brings j t) = gN i t := by
  cases t with
  | pt n => simp [brings, topG]
  | nd k ts =>
    rw [brings_nd]
    by_cases e : k = j
    · subst e
      rw [if_pos rfl, gN, if_neg h]
    · rw [if_neg e]
      simp [topG]
theorem prodN_brings (j : Bool) (t : Tr) : prodN j (brings j t) = manyN j t := by
  cases t with
  | pt n => simp [brings, prodN]
  | nd i ts =>
    rw [brings_nd, manyN]
    split
    · rfl
    · rename_i h
      simp [prodN, manyN, h]
theorem sumN_brings {i j : Bool} (h : j ≠ i) (t : Tr) : sumN i (brings j t) = manyN i t := by
  cases t with
  | pt n => simp [brings, sumN, manyN]
  | nd k ts =>
    rw [brings_nd]
    by_cases e : k = j
    · subst e
      rw [if_pos rfl, manyN, if_neg h]
    · rw [if_neg e]
      have := manyN_pos i (.nd k ts)
      simp only [sumN]
      omega
theorem gN_lay (i j : Bool) (a b : Tr) : gN i (lay j a b) = if j = i then gN i a + gN i b else max (gN i a) (gN i b) := by
  unfold lay
  rw [gN]
  split
  · rename_i h
    subst h
    rw [addG_perm (srtT_perm _), addG_app, addG_brings, addG_brings]
  · rename_i h
    rw [topG_perm (srtT_perm _), topG_app, topG_brings h, topG_brings h]
theorem manyN_lay (i j : Bool) (a b : Tr) : manyN i (lay j a b) = if j = i then manyN i a * manyN i b else manyN i a + manyN i b - 1 := by
  unfold lay
  rw [manyN]
  split
  · rename_i h
    subst h
    rw [prodN_perm (srtT_perm _), prodN_app, prodN_brings, prodN_brings]
  · rename_i h
    rw [sumN_perm (srtT_perm _), sumN_app, sumN_brings h, sumN_brings h]
theorem not_iff_ne {i j : Bool} : ((!i) = j) ↔ (i = !j) := by cases i <;> cases j <;> simp
mutual
theorem gN_turn (j : Bool) : ∀ t : Tr, gN j t.turn = gN (!j) t
  | .pt n => by rw [Tr.turn, gN, gN]
  | .nd i ts => by
    rw [Tr.turn, gN, gN, addG_turn j ts, topG_turn j ts]
    simp only [not_iff_ne]
theorem addG_turn (j : Bool) : ∀ ts : List Tr, addG j (turnL ts) = addG (!j) ts
  | [] => by rw [turnL, addG, addG]
  | t :: ts => by rw [turnL, addG, addG, gN_turn j t, addG_turn j ts]
theorem topG_turn (j : Bool) : ∀ ts : List Tr, topG j (turnL ts) = topG (!j) ts
  | [] => by rw [turnL, topG, topG]
  | t :: ts => by rw [turnL, topG, topG, gN_turn j t, topG_turn j ts]
end
mutual
theorem manyN_turn (j : Bool) : ∀ t : Tr, manyN j t.turn = manyN (!j) t
  | .pt n => by rw [Tr.turn, manyN, manyN]
  | .nd i ts => by
    rw [Tr.turn, manyN, manyN, prodN_turn j ts, sumN_turn j ts]
    simp only [not_iff_ne]
theorem prodN_turn (j : Bool) : ∀ ts : List Tr, prodN j (turnL ts) = prodN (!j) ts
  | [] => by rw [turnL, prodN, prodN]
  | t :: ts => by rw [turnL, prodN, prodN, manyN_turn j t, prodN_turn j ts]
theorem sumN_turn (j : Bool) : ∀ ts : List Tr, sumN j (turnL ts) = sumN (!j) ts
  | [] => by rw [turnL, sumN, sumN]
  | t :: ts => by rw [turnL, sumN, sumN, manyN_turn j t, sumN_turn j ts]
end
mutual
theorem gN_le (j : Bool) : ∀ t : Tr, gN j t ≤ t.pts.length
  | .pt n => by rw [gN, Tr.pts]; simp
  | .nd i ts => by
    rw [gN, Tr.pts]
    have := addG_le j ts
    have := topG_le j ts
    split <;> omega
theorem addG_le (j : Bool) : ∀ ts : List Tr, addG j ts ≤ (ptsL ts).length
  | [] => by rw [addG]; omega
  | t :: ts => by rw [addG, ptsL, List.length_append]; have := gN_le j t; have := addG_le j ts; omega
theorem topG_le (j : Bool) : ∀ ts : List Tr, topG j ts ≤ (ptsL ts).length
  | [] => by rw [topG]; omega
  | t :: ts => by rw [topG, ptsL, List.length_append]; have := gN_le j t; have := topG_le j ts; omega
end
/-- the greatest of some: the one that is nowhere less -/
theorem topG_at (j : Bool) : ∀ (ts : List Tr) (i : Nat) (t : Tr), ts[i]? = some t → (∀ (k : Nat) (u : Tr), ts[k]? = some u → gN j u ≤ gN j t) → topG j ts = gN j t
  | [], i, t, h, _ => by simp at h
  | u :: us, i, t, h, hb => by
    have h0 := hb 0 u rfl
    rw [topG]
    match i, h with
    | 0, h =>
      cases h
      have : ∀ (vs : List Tr), (∀ (k : Nat) (v : Tr), vs[k]? = some v → gN j v ≤ gN j u) → topG j vs ≤ gN j u := by
        intro vs
        induction vs with
        | nil => intro _; rw [topG]; omega
        | cons v vs ih =>
          intro hv
          have a := hv 0 v rfl
          have b := ih fun k x hx => hv (k + 1) x hx
          rw [topG]
          omega
      have := this us fun k v hv => hb (k + 1) v hv
      omega
    | i + 1, h =>
      rw [topG_at j us i t h fun k v hv => hb (k + 1) v hv]
      omega
end Jk

namespace Jk
/-! ## the very greatest ones and the very fewest, as they are found -/
theorem bestIx_lt {ln : Nat → Nat} {n : Nat} (h : 0 < n) : bestIx ln n < n ∧ ∀ j, j < n → ln j ≤ ln (bestIx ln n) := by
  have b := PySem.argBest_gt (fun i => (ln i : Int)) (n - 1)
  refine ⟨?_, fun j hj => ?_⟩
  · have := b.1
    unfold bestIx
    omega
  · have := b.2 j (by omega)
    unfold bestIx
    omega
def lnOf (ls : List (List Int)) (i : Nat) : Nat := (ls.getD i []).length
def pickL (ls : List (List Int)) : List Int := ls.getD (bestIx (lnOf ls) ls.length) []
theorem pickL_at {ls : List (List Int)} (h : 0 < ls.length) : ls[bestIx (lnOf ls) ls.length]? = some (pickL ls) := by
  have b := (bestIx_lt (ln := lnOf ls) h).1
  rw [pickL, List.getD_eq_getElem?_getD, List.getElem?_eq_getElem b]
  rfl
theorem pickL_top {ls : List (List Int)} {l : List Int} (h : l ∈ ls) : l.length ≤ (pickL ls).length := by
  obtain ⟨i, hi, e⟩ := List.mem_iff_getElem.mp h
  have b := (bestIx_lt (ln := lnOf ls) (n := ls.length) (by omega)).2 i hi
  have e1 : lnOf ls i = l.length := by rw [lnOf, List.getD_eq_getElem?_getD, List.getElem?_eq_getElem hi, e]; rfl
  rw [e1] at b
  exact b
mutual
def greatT (j : Bool) : Tr → List Int
  | .pt n => [n]
  | .nd i ts => if i = j then (greatL j ts).flatten else pickL (greatL j ts)
def greatL (j : Bool) : List Tr → List (List Int)
  | [] => []
  | t :: ts => greatT j t :: greatL j ts
end
theorem greatL_map (j : Bool) (ts : List Tr) : greatL j ts = ts.map (greatT j) := by
  induction ts with
  | nil => rw [greatL]; rfl
  | cons t ts ih => rw [greatL, ih]; rfl
theorem greatL_len (j : Bool) (ts : List Tr) : (greatL j ts).length = ts.length := by rw [greatL_map, List.length_map]
theorem pickL_sub {j : Bool} {ts : List Tr} (h : ts ≠ []) : ∃ t ∈ ts, pickL (greatL j ts) = greatT j t := by
  have p : 0 < (greatL j ts).length := by rw [greatL_len]; exact List.length_pos_iff.mpr h
  have := List.mem_of_getElem? (pickL_at p)
  rw [greatL_map] at this ⊢
  obtain ⟨t, h1, h2⟩ := List.mem_map.mp this
  exact ⟨t, h1, h2.symm⟩
mutual
theorem great_sub (j : Bool) : ∀ t : Tr, (greatT j t).Sublist t.pts
  | .pt n => by rw [greatT, Tr.pts]; exact List.Sublist.refl _
  | .nd i ts => by
    rw [greatT, Tr.pts]
    obtain ⟨h1, h2⟩ := greatL_sub j ts
    split
    · exact h1
    · by_cases e : ts = []
      · subst e
        rw [greatL]
        exact List.nil_sublist _
      · obtain ⟨t, ht, e⟩ := pickL_sub (j := j) e
        rw [e]
        exact h2 t ht
theorem greatL_sub (j : Bool) : ∀ ts : List Tr, (greatL j ts).flatten.Sublist (ptsL ts) ∧ ∀ t ∈ ts, (greatT j t).Sublist (ptsL ts)
  | [] => by simp [greatL]
  | t :: ts => by
    obtain ⟨h1, h2⟩ := greatL_sub j ts
    have h0 := great_sub j t
    rw [greatL, ptsL, List.flatten_cons]
    refine ⟨h0.append h1, fun u hu => ?_⟩
    rcases List.mem_cons.mp hu with rfl | hu
    · exact h0.trans (List.sublist_append_left _ _)
    · exact (h2 u hu).trans (List.sublist_append_right _ _)
end
theorem great_in {j : Bool} {t : Tr} {n : Int} (h : n ∈ greatT j t) : n ∈ t.pts := (great_sub j t).subset h
theorem great_nd {j : Bool} {t : Tr} (h : t.pts.Nodup) : (greatT j t).Nodup := h.sublist (great_sub j t)
mutual
theorem great_len (j : Bool) : ∀ t : Tr, (greatT j t).length = gN j t
  | .pt n => by rw [greatT, gN]; rfl
  | .nd i ts => by
    rw [greatT, gN]
    obtain ⟨h1, h2⟩ := greatL_lens j ts
    split
    · exact h1
    · by_cases e : ts = []
      · subst e
        rw [greatL, topG]
        rfl
      · have p : 0 < (greatL j ts).length := by rw [greatL_len]; exact List.length_pos_iff.mpr e
        have a := pickL_at p
        rw [greatL_map, List.getElem?_map] at a
        cases b : ts[bestIx (lnOf (greatL j ts)) (greatL j ts).length]? with
        | none => rw [greatL_map] at b; rw [b] at a; cases a
        | some t =>
          have b' := b
          rw [greatL_map] at b'
          rw [b'] at a
          simp only [Option.map_some, Option.some.injEq] at a
          rw [← greatL_map] at a
          rw [← a, h2 t (List.mem_of_getElem? b)]
          refine (topG_at j ts _ t b fun k u hu => ?_).symm
          have := pickL_top (ls := greatL j ts) (l := greatT j u) (by rw [greatL_map]; exact List.mem_map.mpr ⟨u, List.mem_of_getElem? hu, rfl⟩)
          rw [← a, h2 t (List.mem_of_getElem? b), h2 u (List.mem_of_getElem? hu)] at this
          exact this
theorem greatL_lens (j : Bool) : ∀ ts : List Tr, (greatL j ts).flatten.length = addG j ts ∧ ∀ t ∈ ts, (greatT j t).length = gN j t
  | [] => by simp [greatL, addG]
  | t :: ts => by
    obtain ⟨h1, h2⟩ := greatL_lens j ts
    have h0 := great_len j t
    rw [greatL, addG, List.flatten_cons, List.length_append, h1, h0]
    refine ⟨rfl, fun u hu => ?_⟩
    rcases List.mem_cons.mp hu with rfl | hu
    · exact h0
    · exact h2 u hu
end
/-- any two of them are tied, or no two -/
def Uni (j : Bool) (t : Tr) (l : List Int) : Prop := ∀ a ∈ l, ∀ b ∈ l, a ≠ b → t.tie a b = j
theorem nd_disj {ts : List Tr} (nd : (ptsL ts).Nodup) {i k : Nat} {t u : Tr} {a : Int} (h1 : ts[i]? = some t) (h2 : ts[k]? = some u) (a1 : a ∈ t.pts) (a2 : a ∈ u.pts) : i = k := by
  induction ts generalizing i k with
  | nil => simp at h1
  | cons v vs ih =>
    rw [ptsL] at nd
    obtain ⟨_, n2, n3⟩ := List.nodup_append.mp nd
    cases i with
    | zero =>
      cases k with
      | zero => rfl
      | succ k =>
        simp at h1 h2
        subst h1
        exact absurd rfl (n3 a a1 a (mem_ptsL.mpr ⟨u, List.mem_of_getElem? h2, a2⟩))
    | succ i =>
      cases k with
      | zero =>
        simp at h1 h2
        subst h2
        exact absurd rfl (n3 a a2 a (mem_ptsL.mpr ⟨t, List.mem_of_getElem? h1, a1⟩))
      | succ k => exact congrArg (· + 1) (ih n2 (by simpa using h1) (by simpa using h2))
theorem tieL_apart {j : Bool} {ts : List Tr} (nd : (ptsL ts).Nodup) {i k : Nat} {t u : Tr} {a b : Int} (h1 : ts[i]? = some t) (h2 : ts[k]? = some u) (a1 : a ∈ t.pts) (b2 : b ∈ u.pts) (ne : i ≠ k) : tieL j ts a b = j := by
  refine tieL_out fun v hv ⟨x, y⟩ => ?_
  obtain ⟨m, hm, e⟩ := List.mem_iff_getElem.mp hv
  have hm' : ts[m]? = some v := by rw [List.getElem?_eq_getElem hm, e]
  have e1 := nd_disj nd h1 hm' a1 x
  have e2 := nd_disj nd h2 hm' b2 y
  omega
mutual
theorem great_uni (j : Bool) : ∀ t : Tr, t.pts.Nodup → Uni j t (greatT j t)
  | .pt n, _ => by
    intro a ha b hb ne
    rw [greatT] at ha hb
    simp at ha hb
    exact absurd (ha.trans hb.symm) ne
  | .nd i ts, nd => by
    rw [Tr.pts] at nd
    have h2 := greatL_uni j ts nd
    intro a ha b hb ne
    rw [greatT] at ha hb
    rw [Tr.tie]
    by_cases e : i = j
    · subst e
      rw [if_pos rfl, greatL_map] at ha hb
      obtain ⟨la, hla, ma⟩ := List.mem_flatten.mp ha
      obtain ⟨lb, hlb, mb⟩ := List.mem_flatten.mp hb
      obtain ⟨ta, hta, rfl⟩ := List.mem_map.mp hla
      obtain ⟨tb, htb, rfl⟩ := List.mem_map.mp hlb
      obtain ⟨x, hx, ex⟩ := List.mem_iff_getElem.mp hta
      obtain ⟨y, hy, ey⟩ := List.mem_iff_getElem.mp htb
      have hx' : ts[x]? = some ta := by rw [List.getElem?_eq_getElem hx, ex]
      have hy' : ts[y]? = some tb := by rw [List.getElem?_eq_getElem hy, ey]
      by_cases exy : x = y
      · subst exy
        rw [hx'] at hy'
        cases hy'
        rw [tieL_in nd hta (great_in ma) (great_in mb)]
        exact h2 ta hta a ma b mb ne
      · exact tieL_apart nd hx' hy' (great_in ma) (great_in mb) exy
    · rw [if_neg e] at ha hb
      by_cases e0 : ts = []
      · subst e0
        simp [greatL, pickL] at ha
      · obtain ⟨t, ht, ep⟩ := pickL_sub (j := j) e0
        rw [ep] at ha hb
        rw [tieL_in nd ht (great_in ha) (great_in hb)]
        exact h2 t ht a ha b hb ne
theorem greatL_uni (j : Bool) : ∀ ts : List Tr, (ptsL ts).Nodup → ∀ t ∈ ts, Uni j t (greatT j t)
  | [], _ => fun _ h => nomatch h
  | t :: ts, nd => by
    rw [ptsL] at nd
    have h0 := great_uni j t (List.nodup_append.mp nd).1
    intro u hu
    rcases List.mem_cons.mp hu with rfl | hu
    · exact h0
    · exact greatL_uni j ts (List.nodup_append.mp nd).2.1 u hu
end
/-! the fewest -/
def zipApp : List (List Int) → List (List Int) → List (List Int)
  | as, [] => as
  | [], b :: bs => b :: bs
  | a :: as, b :: bs => (a ++ b) :: zipApp as bs
theorem zipApp_nil (as : List (List Int)) : zipApp as [] = as := by cases as <;> rfl
theorem zipApp_len : ∀ as bs : List (List Int), (zipApp as bs).length = max as.length bs.length
  | as, [] => by rw [zipApp_nil]; simp
  | [], b :: bs => by rw [zipApp]; simp
  | a :: as, b :: bs => by rw [zipApp, List.length_cons, zipApp_len as bs, List.length_cons, List.length_cons]; omega
theorem zipApp_mem : ∀ {as bs : List (List Int)} {l : List Int}, l ∈ zipApp as bs → l ∈ as ∨ l ∈ bs ∨ ∃ a ∈ as, ∃ b ∈ bs, l = a ++ b
  | as, [], l, h => by rw [zipApp_nil] at h; exact .inl h
  | [], b :: bs, l, h => by rw [zipApp] at h; exact .inr (.inl h)
  | a :: as, b :: bs, l, h => by
    rw [zipApp] at h
    rcases List.mem_cons.mp h with rfl | h
    · exact .inr (.inr ⟨a, by simp, b, by simp, rfl⟩)
    · rcases zipApp_mem h with h | h | ⟨x, hx, y, hy, e⟩
      · exact .inl (by simp [h])
      · exact .inr (.inl (by simp [h]))
      · exact .inr (.inr ⟨x, by simp [hx], y, by simp [hy], e⟩)
theorem zipApp_perm : ∀ as bs : List (List Int), (zipApp as bs).flatten.Perm (as.flatten ++ bs.flatten)
  | as, [] => by rw [zipApp_nil]; simp
  | [], b :: bs => by rw [zipApp]; simp
  | a :: as, b :: bs => by
    rw [zipApp, List.flatten_cons, List.flatten_cons, List.flatten_cons]
    have h := zipApp_perm as bs
    have h1 : (a ++ b ++ (zipApp as bs).flatten).Perm (a ++ (b ++ (as.flatten ++ bs.flatten))) := by
      rw [List.append_assoc]
      exact (h.append_left b).append_left a
    refine h1.trans ?_
    rw [List.append_assoc]
    refine List.Perm.append_left a ?_
    rw [← List.append_assoc, ← List.append_assoc]
    exact (List.perm_append_comm).append_right _
def mergeL (lss : List (List (List Int))) : List (List Int) := lss.foldl zipApp []
theorem mergeL_snoc (lss : List (List (List Int))) (ls : List (List Int)) : mergeL (lss ++ [ls]) = zipApp (mergeL lss) ls := by simp [mergeL, List.foldl_append]
mutual
def fewT (j : Bool) : Tr → List (List Int)
  | .pt n => [[n]]
  | .nd i ts => if i = j then mergeL (fewL j ts) else (fewL j ts).flatten
def fewL (j : Bool) : List Tr → List (List (List Int))
  | [] => []
  | t :: ts => fewT j t :: fewL j ts
end
theorem fewL_map (j : Bool) (ts : List Tr) : fewL j ts = ts.map (fewT j) := by
  induction ts with
  | nil => rw [fewL]; rfl
  | cons t ts ih => rw [fewL, ih]; rfl
/-- what stays true from prefix to prefix -/
theorem list_snoc_ind {α : Type} {P : List α → Prop} (h0 : P []) (h1 : ∀ l a, P l → P (l ++ [a])) (l : List α) : P l := by
  have : ∀ n (l : List α), l.length = n → P l := by
    intro n
    induction n with
    | zero => intro l e; rw [List.length_eq_zero_iff.mp e]; exact h0
    | succ n ih =>
      intro l e
      have ne : l ≠ [] := fun z => by subst z; simp at e
      rw [← List.dropLast_concat_getLast ne]
      exact h1 _ _ (ih _ (by simp [e]))
  exact this _ l rfl
theorem topG_snoc (j : Bool) (ts : List Tr) (t : Tr) : topG j (ts ++ [t]) = max (topG j ts) (gN j t) := by
  rw [topG_app, topG, topG]
  omega
theorem mergeL_len {j k : Bool} (ts : List Tr) (h : ∀ t ∈ ts, (fewT j t).length = gN k t) : (mergeL (ts.map (fewT j))).length = topG k ts := by
  induction ts using list_snoc_ind with
  | h0 => rw [topG]; rfl
  | h1 ts t ih =>
    rw [List.map_append, List.map_singleton, mergeL_snoc, zipApp_len, topG_snoc, ih fun u hu => h u (by simp [hu]), h t (by simp)]
mutual
theorem few_len (j : Bool) : ∀ t : Tr, (fewT j t).length = gN (!j) t
  | .pt n => by rw [fewT, gN]; rfl
  | .nd i ts => by
    have h := fewL_len j ts
    rw [fewT, gN]
    by_cases e : i = j
    · rw [if_pos e, if_neg (by subst e; cases i <;> simp), fewL_map]
      exact mergeL_len ts h.2
    · rw [if_neg e, if_pos (by cases i <;> cases j <;> simp at e ⊢)]
      exact h.1
theorem fewL_len (j : Bool) : ∀ ts : List Tr, (fewL j ts).flatten.length = addG (!j) ts ∧ ∀ t ∈ ts, (fewT j t).length = gN (!j) t
  | [] => by simp [fewL, addG]
  | t :: ts => by
    obtain ⟨h1, h2⟩ := fewL_len j ts
    have h0 := few_len j t
    rw [fewL, addG, List.flatten_cons, List.length_append, h1, h0]
    refine ⟨rfl, fun u hu => ?_⟩
    rcases List.mem_cons.mp hu with rfl | hu
    · exact h0
    · exact h2 u hu
end
theorem mergeL_perm {j : Bool} (ts : List Tr) (h : ∀ t ∈ ts, (fewT j t).flatten.Perm t.pts) : (mergeL (ts.map (fewT j))).flatten.Perm (ptsL ts) := by
  induction ts using list_snoc_ind with
  | h0 => rw [ptsL]; exact List.Perm.refl _
  | h1 ts t ih =>
    rw [List.map_append, List.map_singleton, mergeL_snoc, ptsL_app, ptsL, ptsL, List.append_nil]
    exact (zipApp_perm _ _).trans ((ih fun u hu => h u (by simp [hu])).append (h t (by simp)))
mutual
theorem few_perm (j : Bool) : ∀ t : Tr, (fewT j t).flatten.Perm t.pts
  | .pt n => by rw [fewT, Tr.pts]; simp
  | .nd i ts => by
    have h := fewL_perm j ts
    rw [fewT, Tr.pts]
    split
    · rw [fewL_map]
      exact mergeL_perm ts h.2
    · exact h.1
theorem fewL_perm (j : Bool) : ∀ ts : List Tr, (fewL j ts).flatten.flatten.Perm (ptsL ts) ∧ ∀ t ∈ ts, (fewT j t).flatten.Perm t.pts
  | [] => by simp [fewL, ptsL]
  | t :: ts => by
    obtain ⟨h1, h2⟩ := fewL_perm j ts
    have h0 := few_perm j t
    rw [fewL, ptsL, List.flatten_cons, List.flatten_append]
    refine ⟨h0.append h1, fun u hu => ?_⟩
    rcases List.mem_cons.mp hu with rfl | hu
    · exact h0
    · exact h2 u hu
end
theorem mergeL_ne {j : Bool} (ts : List Tr) (h : ∀ t ∈ ts, ∀ l ∈ fewT j t, l ≠ []) : ∀ l ∈ mergeL (ts.map (fewT j)), l ≠ [] := by
  induction ts using list_snoc_ind with
  | h0 => intro l hl; simp [mergeL] at hl
  | h1 ts t ih =>
    intro l hl
    rw [List.map_append, List.map_singleton, mergeL_snoc] at hl
    rcases zipApp_mem hl with q | q | ⟨a, ha, b, hb, rfl⟩
    · exact ih (fun u hu => h u (by simp [hu])) l q
    · exact h t (by simp) l q
    · have := h t (by simp) b hb
      simp [this]
mutual
theorem few_ne (j : Bool) : ∀ t : Tr, ∀ l ∈ fewT j t, l ≠ []
  | .pt n => by rw [fewT]; simp
  | .nd i ts => by
    have h := fewL_ne j ts
    rw [fewT]
    split
    · rw [fewL_map]
      exact mergeL_ne ts h
    · intro l hl
      obtain ⟨ls, h1, h2⟩ := List.mem_flatten.mp hl
      rw [fewL_map] at h1
      obtain ⟨t, ht, rfl⟩ := List.mem_map.mp h1
      exact h t ht l h2
theorem fewL_ne (j : Bool) : ∀ ts : List Tr, ∀ t ∈ ts, ∀ l ∈ fewT j t, l ≠ []
  | [] => fun _ h => nomatch h
  | t :: ts => by
    have h0 := few_ne j t
    intro u hu
    rcases List.mem_cons.mp hu with rfl | hu
    · exact h0
    · exact fewL_ne j ts u hu
end
theorem few_in {j : Bool} {t : Tr} {l : List Int} {n : Int} (h : l ∈ fewT j t) (hn : n ∈ l) : n ∈ t.pts := (few_perm j t).mem_iff.mp (List.mem_flatten.mpr ⟨l, h, hn⟩)
theorem mergeL_in {j : Bool} {ts : List Tr} {l : List Int} {n : Int} (h : l ∈ mergeL (ts.map (fewT j))) (hn : n ∈ l) : n ∈ ptsL ts := (mergeL_perm ts fun t _ => few_perm j t).mem_iff.mp (List.mem_flatten.mpr ⟨l, h, hn⟩)
/-- in a merged list, those that are of one part are of one list of it -/
theorem mergeL_part {j : Bool} (ts : List Tr) (nd : (ptsL ts).Nodup) : ∀ l ∈ mergeL (ts.map (fewT j)), ∀ a ∈ l, ∀ b ∈ l, ∀ t ∈ ts, a ∈ t.pts → b ∈ t.pts → ∃ m ∈ fewT j t, a ∈ m ∧ b ∈ m := by
  induction ts using list_snoc_ind with
  | h0 => intro l hl; simp [mergeL] at hl
  | h1 ts t ih =>
    rw [ptsL_app, ptsL, ptsL, List.append_nil] at nd
    obtain ⟨n1, n2, n3⟩ := List.nodup_append.mp nd
    intro l hl a ha b hb u hu au bu
    rw [List.map_append, List.map_singleton, mergeL_snoc] at hl
    have inTs : ∀ {x : Int}, x ∈ u.pts → u ∈ ts → x ∈ ptsL ts := fun hx h => mem_ptsL.mpr ⟨u, h, hx⟩
    have key : ∀ (x : List Int), x ∈ mergeL (ts.map (fewT j)) → a ∈ x → b ∈ x → u ∈ ts ∨ u = t → ∃ m ∈ fewT j u, a ∈ m ∧ b ∈ m := fun x hx ax bx hu => by
      rcases hu with hu | rfl
      · exact ih n1 x hx a ax b bx u hu au bu
      · exact absurd rfl (n3 a (mergeL_in hx ax) a au)
    have key2 : ∀ (y : List Int), y ∈ fewT j t → a ∈ y → b ∈ y → u ∈ ts ∨ u = t → ∃ m ∈ fewT j u, a ∈ m ∧ b ∈ m := fun y hy ay bY hu => by
      rcases hu with hu | rfl
      · exact absurd rfl (n3 a (inTs au hu) a (few_in hy ay))
      · exact ⟨y, hy, ay, bY⟩
    have hu' : u ∈ ts ∨ u = t := by simpa using hu
    rcases zipApp_mem hl with q | q | ⟨x, hx, y, hy, rfl⟩
    · exact key l q ha hb hu'
    · exact key2 l q ha hb hu'
    · rcases List.mem_append.mp ha with a1 | a1 <;> rcases List.mem_append.mp hb with b1 | b1
      · exact key x hx a1 b1 hu'
      · rcases hu' with h | rfl
        · exact absurd rfl (n3 b (inTs bu h) b (few_in hy b1))
        · exact absurd rfl (n3 a (mergeL_in hx a1) a au)
      · rcases hu' with h | rfl
        · exact absurd rfl (n3 a (inTs au h) a (few_in hy a1))
        · exact absurd rfl (n3 b (mergeL_in hx b1) b bu)
      · exact key2 y hy a1 b1 hu'
mutual
theorem few_uni (j : Bool) : ∀ t : Tr, t.pts.Nodup → ∀ l ∈ fewT j t, Uni j t l
  | .pt n, _ => by
    intro l hl a ha b hb ne
    rw [fewT] at hl
    simp at hl
    subst hl
    simp at ha hb
    exact absurd (ha.trans hb.symm) ne
  | .nd i ts, nd => by
    rw [Tr.pts] at nd
    have h2 := fewL_uni j ts nd
    intro l hl a ha b hb ne
    rw [fewT] at hl
    rw [Tr.tie]
    by_cases e : i = j
    · subst e
      rw [if_pos rfl, fewL_map] at hl
      by_cases hs : ∃ t ∈ ts, a ∈ t.pts ∧ b ∈ t.pts
      · obtain ⟨t, ht, ha', hb'⟩ := hs
        obtain ⟨m, hm, am, bm⟩ := mergeL_part ts nd l hl a ha b hb t ht ha' hb'
        rw [tieL_in nd ht ha' hb']
        exact h2 t ht m hm a am b bm ne
      · exact tieL_out fun t ht z => hs ⟨t, ht, z⟩
    · rw [if_neg e, fewL_map] at hl
      obtain ⟨ls, q1, q2⟩ := List.mem_flatten.mp hl
      obtain ⟨t, ht, rfl⟩ := List.mem_map.mp q1
      rw [tieL_in nd ht (few_in q2 ha) (few_in q2 hb)]
      exact h2 t ht l q2 a ha b hb ne
theorem fewL_uni (j : Bool) : ∀ ts : List Tr, (ptsL ts).Nodup → ∀ t ∈ ts, ∀ l ∈ fewT j t, Uni j t l
  | [], _ => fun _ h => nomatch h
  | t :: ts, nd => by
    rw [ptsL] at nd
    have h0 := few_uni j t (List.nodup_append.mp nd).1
    intro u hu
    rcases List.mem_cons.mp hu with rfl | hu
    · exact h0
    · exact fewL_uni j ts (List.nodup_append.mp nd).2.1 u hu
end
end Jk

namespace Jk
open PySem L2 Evl
theorem zipApp_step : ∀ {m : Nat} {as bs : List (List Int)} {b : List Int}, bs[m]? = some b →
    (m < as.length → (zipApp as (bs.take (m + 1)) = (zipApp as (bs.take m)).set m (as.getD m [] ++ b) ∧ (zipApp as (bs.take m))[m]? = some (as.getD m []))) ∧
    (as.length ≤ m → (zipApp as (bs.take (m + 1)) = zipApp as (bs.take m) ++ [b] ∧ (zipApp as (bs.take m)).length = m))
  | m, as, [], b, h => by simp at h
  | 0, [], c :: bs, b, h => by
    simp at h
    subst h
    simp [zipApp]
  | 0, a :: as, c :: bs, b, h => by
    simp at h
    subst h
    simp [zipApp, zipApp_nil]
  | m + 1, [], c :: bs, b, h => by
    have h' : bs[m]? = some b := by simpa using h
    have lt := (List.getElem?_eq_some_iff.mp h').1
    refine ⟨fun z => by simp at z, fun _ => ?_⟩
    rw [List.take_succ_cons, List.take_succ_cons, zipApp, zipApp, take_one h']
    refine ⟨rfl, ?_⟩
    simp
    omega
  | m + 1, a :: as, c :: bs, b, h => by
    have h' : bs[m]? = some b := by simpa using h
    obtain ⟨h1, h2⟩ := zipApp_step (as := as) h'
    rw [List.take_succ_cons, List.take_succ_cons, zipApp, zipApp]
    refine ⟨fun z => ?_, fun z => ?_⟩
    · obtain ⟨e1, e2⟩ := h1 (by simpa using z)
      refine ⟨?_, by simpa using e2⟩
      rw [e1]
      simp
    · obtain ⟨e1, e2⟩ := h2 (by simpa using z)
      refine ⟨by rw [e1]; rfl, by simp [e2]⟩
/-- the number of the list where it goes, filled up -/
theorem zipApp_next {m : Nat} {as bs : List (List Int)} {b : List Int} (h : bs[m]? = some b) : ∃ ms : List (List Int), ms = (if m = (zipApp as (bs.take m)).length then zipApp as (bs.take m) ++ [[]] else zipApp as (bs.take m)) ∧ ms[m]? = some (as.getD m []) ∧ ms.set m (as.getD m [] ++ b) = zipApp as (bs.take (m + 1)) ∧ m < ms.length := by
  obtain ⟨h1, h2⟩ := zipApp_step (as := as) h
  refine ⟨_, rfl, ?_⟩
  by_cases c : m < as.length
  · obtain ⟨e1, e2⟩ := h1 c
    have lt := (List.getElem?_eq_some_iff.mp e2).1
    rw [if_neg (by omega)]
    exact ⟨e2, e1.symm, lt⟩
  · obtain ⟨e1, e2⟩ := h2 (by omega)
    rw [if_pos e2.symm, e1]
    have g : as.getD m [] = [] := by rw [List.getD_eq_getElem?_getD, List.getElem?_eq_none (by omega)]; rfl
    rw [g]
    generalize hz : zipApp as (bs.take m) = z at e2
    subst e2
    simp
theorem fewL_len' (j : Bool) (ts : List Tr) : (fewL j ts).length = ts.length := by rw [fewL_map, List.length_map]
theorem fewL_step {j : Bool} {ts : List Tr} {i : Nat} {u : Tr} (h : ts[i]? = some u) : mergeL (fewL j (ts.take (i + 1))) = zipApp (mergeL (fewL j (ts.take i))) (fewT j u) := by
  rw [take_one h, fewL_map, fewL_map, List.map_append, List.map_singleton, mergeL_snoc]
theorem merge_bounds (j : Bool) (ts : List Tr) : (mergeL (fewL j ts)).length ≤ (ptsL ts).length ∧ ∀ l ∈ mergeL (fewL j ts), l.length ≤ (ptsL ts).length := by
  have p := mergeL_perm (j := j) ts fun t _ => few_perm j t
  rw [fewL_map]
  refine ⟨?_, fun l hl => ?_⟩
  · rw [mergeL_len (k := !j) ts fun t _ => few_len j t]
    exact topG_le _ _
  · rw [← p.length_eq]
    exact (List.sublist_flatten_of_mem hl).length_le
theorem few_bounds (j : Bool) (t : Tr) : (fewT j t).length ≤ t.pts.length ∧ ∀ l ∈ fewT j t, l.length ≤ t.pts.length := by
  have p := few_perm j t
  refine ⟨by rw [few_len]; exact gN_le _ _, fun l hl => ?_⟩
  rw [← p.length_eq]
  exact (List.sublist_flatten_of_mem hl).length_le
theorem getD_le {ms : List (List Int)} {n m : Nat} (h : ∀ l ∈ ms, l.length ≤ n) : (ms.getD m []).length ≤ n := by
  rw [List.getD_eq_getElem?_getD]
  cases e : ms[m]? with
  | none => simp
  | some l => exact h l (List.mem_of_getElem? e)
/-! lists of lists, grown and set -/
theorem LsLL.snoc {H : Hp} {l p : Addr} {lss : List (List Int)} {as : List Addr} {ns : List Int} (h : LsLL H l lss as) (hp : LsI H p ns) (pl : p ≠ l) (al : ∀ a ∈ as, a ≠ l) : LsLL (upd H l (.lst (as.map V.ref ++ [.ref p]))) l (lss ++ [ns]) (as ++ [p]) := by
  refine ⟨by rw [upd_same, List.map_append]; rfl, by simp [h.len], fun i a ls x y => ?_⟩
  rcases app_get x with ⟨h1, h2⟩ | ⟨h1, h2⟩
  · rw [List.getElem?_append_left (by rw [← h.len]; exact h1)] at y
    have := h.all i a ls h2 y
    unfold LsI
    rw [upd_ne (al a (List.mem_of_getElem? h2))]
    exact this
  · subst h2
    rw [h1, h.len] at y
    simp at y
    subst y
    unfold LsI
    rw [upd_ne pl]
    exact hp
theorem LsLL.put {H : Hp} {l p : Addr} {lss : List (List Int)} {as : List Addr} {ns : List Int} {m : Nat} (h : LsLL H l lss as) (hp : LsI H p ns) (pl : p ≠ l) (al : ∀ a ∈ as, a ≠ l) : LsLL (upd H l (.lst ((as.map V.ref).set m (.ref p)))) l (lss.set m ns) (as.set m p) := by
  refine ⟨by rw [upd_same, List.map_set], by simp [h.len], fun i a ls x y => ?_⟩
  rw [List.getElem?_set] at x y
  by_cases e : m = i
  · subst e
    rw [if_pos rfl] at x y
    split at x
    · rename_i lt
      rw [if_pos (by rw [← h.len]; exact lt)] at y
      cases x
      cases y
      unfold LsI
      rw [upd_ne pl]
      exact hp
    · cases x
  · rw [if_neg e] at x y
    have := h.all i a ls x y
    unfold LsI
    rw [upd_ne (al a (List.mem_of_getElem? x))]
    exact this
end Jk

namespace Jk
open PySem PySem.Spec PyProof.Rows L2 Evl
/-! ## the number of unlike ones -/
theorem sub_len {α : Type} [DecidableEq α] : ∀ {l m : List α}, l.Nodup → (∀ x ∈ l, x ∈ m) → l.length ≤ m.length
  | [], m, _, _ => Nat.zero_le _
  | a :: l, m, nd, h => by
    obtain ⟨n1, n2⟩ := List.nodup_cons.mp nd
    have hm := h a (by simp)
    have := sub_len (m := m.erase a) n2 fun x hx => (List.mem_erase_of_ne fun e => n1 (by rw [← e]; exact hx)).mpr (h x (by simp [hx]))
    rw [List.length_erase_of_mem hm] at this
    have : 0 < m.length := List.length_pos_of_mem hm
    simp
    omega
theorem same_len {α : Type} [DecidableEq α] {l m : List α} (n1 : l.Nodup) (n2 : m.Nodup) (h : ∀ x, x ∈ l ↔ x ∈ m) : l.length = m.length :=
  Nat.le_antisymm (sub_len n1 fun x hx => (h x).mp hx) (sub_len n2 fun x hx => (h x).mpr hx)
theorem met_in (f : Nat → Int) (n : Nat) (x : Int) : x ∈ PyProof.Rows.firstMet f n ↔ x ∈ (List.range n).map f := by
  have h := PyProof.Rows.firstMet_any f n x
  rw [Bool.eq_iff_iff, List.any_eq_true, List.any_eq_true] at h
  constructor
  · intro hx
    obtain ⟨y, hy, e⟩ := h.mp ⟨x, hx, beq_self_eq_true _⟩
    rw [← eq_of_beq e]; exact hy
  · intro hx
    obtain ⟨y, hy, e⟩ := h.mpr ⟨x, hx, beq_self_eq_true _⟩
    rw [← eq_of_beq e]; exact hy
theorem met_nd (f : Nat → Int) : ∀ n : Nat, (PyProof.Rows.firstMet f n).Nodup
  | 0 => List.nodup_nil
  | n + 1 => by
    have ih := met_nd f n
    rw [PyProof.Rows.firstMet_succ]
    unfold PyProof.Rows.step_dedup
    split
    · exact ih
    · rename_i h
      rw [List.nodup_append]
      refine ⟨ih, by simp, fun x hx y hy e => h ?_⟩
      simp at hy
      subst hy
      subst e
      rw [List.any_eq_true]
      exact ⟨_, hx, beq_self_eq_true _⟩
def jLenSetN (ta : TE) : TE := fun σ H Q => ta σ H fun x H1 => ∃ (l : Addr), x = .ref l ∧ ∃ (ns us : List Int), LsI H1 l ns ∧ ns.length ≤ 1000 ∧ us.Nodup ∧ (∀ x, x ∈ us ↔ x ∈ ns) ∧ Q (.int us.length) H1
@[simp] theorem j_lenSetN {ta : TE} {σ : L2.St} {H : Hp} {Q : VK} : jLenSetN ta σ H Q = ta σ H fun x H1 => ∃ (l : Addr), x = .ref l ∧ ∃ (ns us : List Int), LsI H1 l ns ∧ ns.length ≤ 1000 ∧ us.Nodup ∧ (∀ x, x ∈ us ↔ x ∈ ns) ∧ Q (.int us.length) H1 := rfl
theorem pe_lenSetN {X : Cx} {a : Expr} {ta : TE} {p p2 pos pos2 : Pos} (hc : X.calm = true) (g1 : Gl X "len") (m1 : X.mg "len" = none) (g2 : Gl X "set") (m2 : X.mg "set" = none) (ha : PE X a ta)
    (na : starEach [a] X.env = (false, eval a X.env) :: starEach [] X.env := by rfl) : PE X (.Call (.Name "len" p) [.Call (.Name "set" p2) [a] [] pos2] [] pos) (jLenSetN ta) := by
  refine ⟨fun pins s σ H Q I h => Call_ (ld_blt I g1 m1 PySem.boot_len (PyProof.Rows.callWith_builtin1 (PyProof.Rows.args_cons (Call_ (ld_blt I g2 m2 PyProof.Rows.boot_set ?_)) rfl) rfl rfl))⟩
  refine PyProof.Rows.callWith_type1 (PyProof.Rows.args_cons (thn (ha.run pins s σ H _ I h) ?_) na) na rfl
  rintro v s1 ⟨x, H1, I1, r1, l, rfl, ns, us, hq, hlen, und, uin, q1⟩
  refine PyProof.Rows.args_nil ?_
  cases r1
  obtain ⟨its, r, pl, hz⟩ := I1.list (.inl (.inl hq))
  have en : its.toArray.size = ns.length := by simpa using r.length.symm
  refine call_set_list (I1.ok.hd hc) pl.isList (ns := ns) (by simpa using r.ints) (by unfold scanBound; omega) fun h2 tk hS hk => PyProof.Rows.args_nil ?_
  rw [en] at hS
  obtain ⟨o, es, ep, t, ho, hex, hd, _, _, _, hf, hn⟩ := hS
  have k1 := (met_len (fun i => ns.getD i 0) ns.length).1
  have k2 : (PyProof.Rows.firstMet (fun i => ns.getD i 0) ns.length).length = us.length := same_len (met_nd _ _) und fun x => by rw [met_in, met_list, uin]
  have J : Inv X pins σ H1 { s1 with heap := h2, toks := tk } := I1.kept fun b o e => hk b o (Heap.lt_size e) e
  refine call_len_set ho hex hd hf (by rw [hn]; omega) ⟨.int us.length, H1, J.tok _, ⟨_, by rw [hn, k2]⟩, q1⟩
/-! ## colours, by points -/
def colN (ls : List (List Int)) (m : Nat) : List (Key × V) := (List.range m).flatMap fun c => (ls.getD c []).map fun p => ((Sum.inl p : Key), V.int (c : Nat))
def midN (ls : List (List Int)) (m r : Nat) : List (Key × V) := colN ls m ++ ((ls.getD m []).take r).map fun p => ((Sum.inl p : Key), V.int (m : Nat))
theorem colN_succ (ls : List (List Int)) (m : Nat) : colN ls (m + 1) = colN ls m ++ (ls.getD m []).map fun p => ((Sum.inl p : Key), V.int (m : Nat)) := by
  unfold colN
  rw [List.range_succ, List.flatMap_append]
  simp
theorem flat_takeD (ls : List (List Int)) (m : Nat) : (ls.take (m + 1)).flatten = (ls.take m).flatten ++ ls.getD m [] := by
  rw [List.getD_eq_getElem?_getD]
  cases e : ls[m]? with
  | none =>
    rw [List.getElem?_eq_none_iff] at e
    rw [List.take_of_length_le (by omega), List.take_of_length_le e]
    simp
  | some l => rw [flat_take e]; rfl
theorem colN_keys (ls : List (List Int)) : ∀ m : Nat, (colN ls m).map (·.1) = ((ls.take m).flatten).map fun p => (Sum.inl p : Key)
  | 0 => rfl
  | m + 1 => by
    rw [colN_succ, List.map_append, colN_keys ls m, flat_takeD, List.map_append, List.map_map]
    rfl
theorem midN_keys (ls : List (List Int)) (m r : Nat) : (midN ls m r).map (·.1) = ((ls.take m).flatten ++ (ls.getD m []).take r).map fun p => (Sum.inl p : Key) := by
  rw [midN, List.map_append, colN_keys, List.map_append, List.map_map]
  rfl
theorem valV_none {κ : Type} [DecidableEq κ] {kvs : List (κ × V)} {k : κ} (h : ¬ k ∈ kvs.map (·.1)) : valV kvs k = none := by
  unfold valV
  simp only [Option.map_eq_none_iff, List.find?_eq_none]
  intro p hp e
  exact h (List.mem_map.mpr ⟨p, hp, by simpa using e⟩)
theorem valV_at {κ : Type} [DecidableEq κ] {kvs : List (κ × V)} (nd : (kvs.map (·.1)).Nodup) {p : κ × V} (h : p ∈ kvs) : valV kvs p.1 = some p.2 := by
  induction kvs with
  | nil => cases h
  | cons q kvs ih =>
    rw [List.map_cons, List.nodup_cons] at nd
    unfold valV at ih ⊢
    rcases List.mem_cons.mp h with rfl | h
    · rw [List.find?_cons_of_pos (by simp)]
      rfl
    · have ne : ¬ q.1 = p.1 := fun e => nd.1 (List.mem_map.mpr ⟨p, h, e.symm⟩)
      rw [List.find?_cons_of_neg (by simpa using ne)]
      exact ih nd.2 h
theorem midN_put {ls : List (List Int)} (nd : ls.flatten.Nodup) {m r : Nat} {p : Int} (hp : (ls.getD m [])[r]? = some p) : putK (midN ls m r) (Sum.inl p) (V.int (m : Nat)) = midN ls m (r + 1) := by
  rw [putK_new]
  · rw [midN, midN, take_one hp, List.map_append, List.append_assoc]
    rfl
  · refine valV_none fun h => ?_
    rw [midN_keys] at h
    obtain ⟨q, hq, e⟩ := List.mem_map.mp h
    cases e
    have hn : ((ls.take m).flatten ++ (ls.getD m []).take (r + 1)).Nodup := by
      refine nd.sublist ?_
      have h1 : ((ls.take m).flatten ++ ls.getD m []).Sublist ls.flatten := by
        rw [← flat_takeD]
        have z : ls.flatten = (ls.take (m + 1)).flatten ++ (ls.drop (m + 1)).flatten := by rw [← List.flatten_append, List.take_append_drop]
        rw [z]
        exact List.sublist_append_left _ _
      exact (List.Sublist.append (List.Sublist.refl _) (List.take_sublist _ _)).trans h1
    rw [take_one hp, ← List.append_assoc] at hn
    exact (List.nodup_append.mp hn).2.2 p hq p (by simp) rfl
theorem midN_zero (ls : List (List Int)) (m : Nat) : midN ls m 0 = colN ls m := by simp [midN]
theorem midN_end (ls : List (List Int)) (m : Nat) : midN ls m (ls.getD m []).length = colN ls (m + 1) := by rw [midN, colN_succ, List.take_length]
theorem midN_len (ls : List (List Int)) (m r : Nat) : (midN ls m r).length ≤ ls.flatten.length := by
  have h := congrArg List.length (midN_keys ls m r)
  rw [List.length_map, List.length_map, List.length_append, List.length_take] at h
  have h1 := flat_le ls (m + 1)
  rw [flat_takeD, List.length_append] at h1
  omega
def valN (ls : List (List Int)) (m : Nat) : List Int := (List.range m).flatMap fun c => (ls.getD c []).map fun _ => ((c : Nat) : Int)
theorem colN_vals (ls : List (List Int)) (m : Nat) : (colN ls m).map (·.2) = (valN ls m).map V.int := by
  unfold colN valN
  rw [List.map_flatMap, List.map_flatMap]
  congr 1
  funext c
  rw [List.map_map, List.map_map]
  rfl
theorem rgI_nd (n : Nat) : ((List.range n).map fun i : Nat => (i : Int)).Nodup := by
  have h : ((List.range n).map fun i : Nat => (i : Int)).Pairwise (· ≠ ·) := by
    rw [List.pairwise_map]
    exact List.nodup_range.imp fun h e => h (by omega)
  exact h
theorem valN_in {ls : List (List Int)} (ne : ∀ l ∈ ls, l ≠ []) (x : Int) : x ∈ ((List.range ls.length).map fun i : Nat => (i : Int)) ↔ x ∈ valN ls ls.length := by
  have rin : x ∈ ((List.range ls.length).map fun i : Nat => (i : Int)) ↔ 0 ≤ x ∧ x < ls.length := by
    rw [List.mem_map]
    constructor
    · rintro ⟨i, hi, rfl⟩
      have := List.mem_range.mp hi
      omega
    · intro h
      exact ⟨x.toNat, List.mem_range.mpr (by omega), by omega⟩
  rw [rin]
  unfold valN
  rw [List.mem_flatMap]
  constructor
  · intro h
    have lt : x.toNat < ls.length := by omega
    refine ⟨x.toNat, List.mem_range.mpr lt, List.mem_map.mpr ?_⟩
    rw [List.getD_eq_getElem?_getD, List.getElem?_eq_getElem lt]
    have := ne _ (List.getElem_mem lt)
    cases e : ls[x.toNat] with
    | nil => exact absurd e this
    | cons a b => exact ⟨a, by simp, by omega⟩
  · rintro ⟨c, hc, hx⟩
    obtain ⟨_, _, rfl⟩ := List.mem_map.mp hx
    have := List.mem_range.mp hc
    omega
end Jk

namespace Jk
open PySem L2 Evl
section
variable {X : Cx} {o i : Expr} {td ty : TE} {pos : Pos}
/-- d[k], d locked perhaps -/
def jDGetR (td ty : TE) : TE := fun σ H Q => td σ H fun x H1 => ty σ H1 fun y H2 => ∃ a kvs k v, x = .ref a ∧ Rd H2 a (.dK kvs) ∧ y = kV k ∧ valV kvs k = some v ∧ Q v H2
@[simp] theorem j_dgetR {σ H Q} : jDGetR td ty σ H Q = td σ H fun x H1 => ty σ H1 fun y H2 => ∃ a kvs k v, x = .ref a ∧ Rd H2 a (.dK kvs) ∧ y = kV k ∧ valV kvs k = some v ∧ Q v H2 := rfl
theorem pe_dgetR (hu : X.A.units + 1 < cLine) (ho : PE X o td) (hi : PE X i ty) (hs : NoSl i) : PE X (.Subscript o i pos) (jDGetR td ty) :=
  (pe_dget hu ho.cl hi.cl hs).by fun σ H Q q => ⟨_, q, fun x H1 k => ⟨_, k, fun y H2 ⟨a, kvs, k, v, e1, h1, e2, e3, q⟩ => ⟨a, v, e1, .inl ⟨kvs, k, h1, e2, e3.symm⟩, q⟩⟩⟩
end
section
variable {J : It} {n : Nat} {G : Hp → Prop} {Y : Nat → Hp → V → Hp → Prop} {g : TG} {te : TE} {vs : List Nat} {σ : L2.St} {H1 : Hp} {D : Addr} {Qd : Hp → Prop}
theorem lc_itS (w : Walk J n G Y) (S : Nat → V → Hp → Prop) (st : StayD D S) (hD : H1 D = none) (hG : ∀ H, Ex H1 H → G H) (few : n ≤ 100000)
    (hs : ∀ i x H H' (N : V → Hp → Prop), i < n → Ex H1 H → Y i H x H' → H D ≠ none → (∀ y H4, Ex H H4 → S i y H4 → N y H4) → g x (wipe σ vs) H' fun σ2 H2 => wipe σ2 vs = wipe σ vs ∧ te σ2 H2 N)
    (hd : ∀ acc H', Ex H1 H' → H' D = some (.lst acc) → acc.length = n → (∀ (i : Nat) (y : V), acc[i]? = some y → S i y H') → Qd H') :
    ∃ W : Nat → Nat → Hp → Prop, (∃ m, W 0 m (upd H1 D (.lst []))) ∧ ∀ i m H, W i m H →
      (J.stop i H ∧ Qd H) ∨ (J.go i H ∧ ∃ Nx : Hp → Prop, (∀ H', Nx H' → ∃ m', m' < m ∧ W (i + 1) m' H') ∧ ∀ x H', J.yld i H x H' → g x (wipe σ vs) H' fun σ2 H2 => wipe σ2 vs = wipe σ vs ∧ tYes σ2 H2 fun b H3 =>
        if b = true then te σ2 H3 fun y H4 => ∃ acc, H4 D = some (.lst acc) ∧ acc.length < sizeLine ∧ Nx (upd H4 D (.lst (acc ++ [y]))) else Nx H3) := by
  refine lc_it w (CompS D H1 S) (CompS.start hD) (fun i H _ c => hG H c.ex) (fun i x H H' hi c y => ?_) (fun H c => ?_)
  · obtain ⟨acc, h1, _⟩ := id c.ac
    exact hs i x H H' _ hi c.ex y (by rw [h1]; simp) fun y H4 e hy => c.push st hD e hy (by omega)
  · obtain ⟨e, acc, h1, h2, h3⟩ := c
    exact hd acc H e h1 h2 h3
end
theorem ex_lock {H H' : Hp} {d : Addr} {u f : HO} (h : H d = some u) (e : Ex (upd H d f) H') : Ex H (upd H' d u) := fun x o hx => by
  by_cases z : x = d
  · subst z
    rw [h] at hx
    cases hx
    exact upd_same
  · rw [upd_ne z]
    exact e _ _ (by rw [upd_ne z]; exact hx)
end Jk

namespace Jk
open PySem PySem.Spec PyProof.Rows L2 Evl
/-! ## repr of a list of small data, dicts of ints among them -/
def dkI (ps : List (Int × Int)) : List (Key × V) := ps.map fun p => ((Sum.inl p.1 : Key), V.int p.2)
def ddI (ps : List (Int × Int)) : PyData := .dict (ps.map fun p => (PyData.int p.1, PyData.int p.2))
inductive ItemsR (h : Heap) : List Value → List PyData → Prop
  | nil : ItemsR h [] []
  | cons {v : Value} {d : PyData} {as : List Addr} {vs : List Value} {ds : List PyData} : Reads h v d as → (d.hasDict = true → sysModules ∉ as) → ItemsR h vs ds → ItemsR h (v :: vs) (d :: ds)
theorem ItemsR.reads {h : Heap} : ∀ {vs : List Value} {ds : List PyData}, ItemsR h vs ds → ∃ as, ReadsAll h vs ds as
  | _, _, .nil => ⟨_, .nil⟩
  | _, _, .cons r _ rs => let ⟨_, q⟩ := rs.reads; ⟨_, .cons r q⟩
theorem ItemsR.kept {h : Heap} {prog : Program} {w : World} : ∀ {vs : List Value} {ds : List PyData}, ItemsR h vs ds → PyData.showableAll ds = true → (∀ t ∈ PyData.shownAll ds, t.length ≤ sizeLine) →
    ∃ bs, ReadAtMost h (PyData.depthAll ds) bs ∧ ReprAllK prog w bs h (PyData.depthAll ds) vs (PyData.shownAll ds)
  | _, _, .nil, _, _ => ⟨[], (fun _ h => nomatch h), by simp only [PyData.shownAll]; exact .nil⟩
  | _, _, .cons (d := d) (ds := ds) r hsm rs, hs, hz => by
    have hs' : d.showable = true ∧ PyData.showableAll ds = true := by simpa [PyData.showableAll] using hs
    obtain ⟨b1, hb1, k1⟩ := ReprK.of_reads (prog := prog) (w := w) r hs'.1 hsm (hz _ (by simp only [PyData.shownAll]; exact List.mem_cons_self ..))
    obtain ⟨b2, hb2, k2⟩ := ItemsR.kept (prog := prog) (w := w) rs hs'.2 (fun t ht => hz t (by simp only [PyData.shownAll]; exact List.mem_cons_of_mem _ ht))
    refine ⟨b1 ++ b2, ?_, ?_⟩
    · intro b hm
      simp only [PyData.depthAll]
      rcases List.mem_append.mp hm with hm | hm
      · obtain ⟨d', as', r', hd'⟩ := hb1 b hm
        exact ⟨d', as', r', Nat.le_trans hd' (Nat.le_max_left _ _)⟩
      · obtain ⟨d', as', r', hd'⟩ := hb2 b hm
        exact ⟨d', as', r', Nat.le_trans hd' (Nat.le_max_right _ _)⟩
    · simp only [PyData.depthAll, PyData.shownAll]
      exact .cons ((k1.more fun b hb => List.mem_append_left _ hb).level_le (Nat.le_max_left _ _)) (k2.more_le (fun b hb => List.mem_append_right _ hb) (Nat.le_max_right _ _))
theorem repr_items {prog : Program} {w : World} {A : Around} {E : Value → Shared → Prop} {s : Shared} {Q : Value → Shared → Prop} {a : Addr} {o : Obj} {vs : List Value} {n : Nat} {ds : List PyData} (h1 : s.heap.get? a = some o) (h2 : o.cls = .type "list") (h3 : o.data = .seq vs.toArray n) (h4 : ItemsR s.heap vs ds)
    (hs : PyData.showableAll ds = true) (hg : A.guards = some []) (hu : A.units + (PyData.depthAll ds + 2) < cLine) (hz : (PyData.list ds).shown.length ≤ sizeLine)
    (hQ : ∀ h' u tk, (∀ b o, s.heap.get? b = some o → h'.get? b = some o) → Q (.str (PyData.list ds).shown u) { s with heap := h', toks := tk }) : wpAny (model prog w) A (call (.builtin "repr") [.ref a]) Q E s := by
  have hz' : (listText (PyData.shownAll ds)).length ≤ sizeLine := by simpa only [PyData.shown] using hz
  obtain ⟨as, ra⟩ := h4.reads
  obtain ⟨bs, hb, hk⟩ := ItemsR.kept (prog := prog) (w := w) h4 hs (fun t ht => Nat.le_trans (listText_mem_le ht) hz')
  have hna : a ∉ bs := not_mem_of_deeper (.list h1 h2 h3 (by simpa using ra)) (by simp only [PyData.depth]; omega) hb
  refine call_repr_slot (by omega) ⟨o, h1, h2⟩ F.slot_list_repr.toG ?_
  simp only [PyData.shown] at hQ
  cases vs with
  | nil =>
    cases h4
    simp only [PyData.shownAll, listText_nil] at hQ
    exact call_list_repr_empty ⟨o, h1, h2⟩ h1 h3 ⟨_, _, rfl, hQ s.heap _ _ fun _ _ e => e⟩
  | cons x l =>
    exact call_list_reprK h1 h2 h3 hna (by simpa using hk.length_eq) (fun i y e => hk.item i y (by simpa using e)) (show A.in1.guards = some [] from hg) (fun b _ => Clear.nil b) (by show A.units + 1 + (PyData.depthAll ds + 1) < cLine; omega) (fun _ _ e => e) (fun h' u tk k => ⟨_, _, rfl, hQ h' u tk k⟩) hz'
theorem dict_reads {prog : Program} {w : World} {h : Heap} : ∀ (ps : List (Int × Int)) (es : List DictEntry) (vs : List (Key × Value)), KV (dkI ps) vs → Pairs (mixKind prog w) es vs → ReadsAll h (es.map (·.key)) (ps.map fun p => PyData.int p.1) [] ∧ ReadsAll h (es.map (·.val)) (ps.map fun p => PyData.int p.2) []
  | [], es, vs, r, p => by
    cases r
    cases p
    exact ⟨.nil, .nil⟩
  | q :: ps, es, vs, r, p => by
    cases r with
    | cons f r =>
      cases p with
      | cons k e p =>
        obtain ⟨i1, i2⟩ := dict_reads ps _ _ r p
        obtain ⟨f1, t, f2⟩ := f
        rw [← f1] at k
        have k' : keyIs (Sum.inl q.1 : Key) _ = true := k
        rcases keyIs_shape k' with ⟨i, t2, k1, k2⟩ | ⟨x, t2, k1, k2⟩
        · cases k1
          refine ⟨?_, ?_⟩
          · rw [List.map_cons, List.map_cons, k2]
            exact .cons (Reads.int _ _) i1
          · rw [List.map_cons, List.map_cons, e, f2]
            exact .cons (Reads.int _ _) i2
        · cases k1
/-- an item of such a list -/
def Dq (K : PySem.W.Frag) (H : Hp) (x : V) (d : PyData) : Prop := (Dp K H x d ∧ d.hasDict = false) ∨ ∃ a ps, x = .ref a ∧ H a = some (.dK (dkI ps)) ∧ d = ddI ps
inductive DqAll (K : PySem.W.Frag) (H : Hp) : List V → List PyData → Prop
  | nil : DqAll K H [] []
  | cons {x : V} {d : PyData} {xs : List V} {ds : List PyData} : Dq K H x d → DqAll K H xs ds → DqAll K H (x :: xs) (d :: ds)
theorem DqAll.items {X : Cx} {pins : List (Addr × Obj)} {σ : L2.St} {H : Hp} {s : Shared} (I : L2.Inv X pins σ H s) : ∀ {xs : List V} {ds : List PyData} {us : List Value}, DqAll X.K H xs ds → Vals xs us → ItemsR s.heap us ds
  | _, _, _, .nil, r => by cases r; exact .nil
  | _, _, _, .cons h hs, r => by
    cases r with
    | cons r1 r2 =>
      have rest := hs.items I r2
      rcases h with ⟨h, nd⟩ | ⟨a, ps, rfl, h, rfl⟩
      · obtain ⟨as, rd⟩ := Dp.reads I _ _ _ h r1
        exact .cons rd (fun z => by rw [nd] at z; cases z) rest
      · obtain ⟨z, hd, vs, rel, o, es, ep, h1, h2, h3, _, h5, _⟩ := dk_of I.hok h
        obtain ⟨d1, d2⟩ := dict_reads (h := s.heap) ps _ _ rel h5
        cases r1
        have e1 : (ps.map fun p => (PyData.int p.1, PyData.int p.2)).map (·.1) = ps.map fun p => PyData.int p.1 := by rw [List.map_map]; rfl
        have e2 : (ps.map fun p => (PyData.int p.1, PyData.int p.2)).map (·.2) = ps.map fun p => PyData.int p.2 := by rw [List.map_map]; rfl
        refine .cons (as := a :: [] ++ []) (Reads.dict h1 h2.1 h3 (by rw [e1]; exact d1) (by rw [e2]; exact d2)) (fun _ hm => ?_) rest
        simp at hm
        rw [hm] at hd
        simp at hd
/-! sizes -/
structure Rq (d : PyData) (w p : Nat) : Prop where
  shw : d.showable = true
  lsh : d.leavesShort 13 = true
  dep : d.depth ≤ p
  wgt : d.weight ≤ w
structure RqL (ds : List PyData) (w p : Nat) : Prop where
  shw : PyData.showableAll ds = true
  lsh : PyData.leavesShortAll 13 ds = true
  dep : PyData.depthAll ds ≤ p
  wgt : PyData.weightAll ds ≤ w
theorem Rp.q {d : PyData} {w p : Nat} (h : Rp d w p) : Rq d w p := ⟨h.shw, PyData.leavesShort_of_canLay0 13 d h.can h.sho, h.dep, h.wgt⟩
theorem RqL.nil (w p : Nat) : RqL [] w p := ⟨rfl, rfl, Nat.zero_le _, Nat.zero_le _⟩
theorem RqL.cons {d : PyData} {ds : List PyData} {w1 w2 p : Nat} (h : Rq d w1 p) (t : RqL ds w2 p) : RqL (d :: ds) (w1 + 1 + w2) p := by
  obtain ⟨a1, a2, a3, a4⟩ := h
  obtain ⟨b1, b2, b3, b4⟩ := t
  exact ⟨by simp [PyData.showableAll, a1, b1], by simp [PyData.leavesShortAll, a2, b2], by simp only [PyData.depthAll]; omega, by simp only [PyData.weightAll]; omega⟩
theorem Rq.mono {d : PyData} {w w' p p' : Nat} (h : Rq d w p) (a : w ≤ w') (b : p ≤ p') : Rq d w' p' := ⟨h.shw, h.lsh, Nat.le_trans h.dep b, Nat.le_trans h.wgt a⟩
theorem Rq.dict : ∀ {ps : List (Int × Int)}, (∀ p ∈ ps, (0 ≤ p.1 ∧ p.1 < 1000) ∧ (0 ≤ p.2 ∧ p.2 < 1000)) → Rq (ddI ps) (22 * ps.length) 1 := by
  have gen : ∀ ps : List (Int × Int), (∀ p ∈ ps, (0 ≤ p.1 ∧ p.1 < 1000) ∧ (0 ≤ p.2 ∧ p.2 < 1000)) → PyData.showableKv (ps.map fun p => (PyData.int p.1, PyData.int p.2)) = true ∧ PyData.leavesShortKv 13 (ps.map fun p => (PyData.int p.1, PyData.int p.2)) = true ∧
      PyData.depthKv (ps.map fun p => (PyData.int p.1, PyData.int p.2)) ≤ 0 ∧ PyData.weightKv (ps.map fun p => (PyData.int p.1, PyData.int p.2)) ≤ 22 * ps.length := by
    intro ps
    induction ps with
    | nil => intro _; exact ⟨rfl, rfl, Nat.le_refl _, Nat.le_refl _⟩
    | cons p ps ih =>
      intro h
      obtain ⟨i1, i2, i3, i4⟩ := ih fun q hq => h q (by simp [hq])
      have hp := h p (by simp)
      obtain ⟨a1, a2, a3, a4⟩ := (Rp.int hp.1).q
      obtain ⟨b1, b2, b3, b4⟩ := (Rp.int hp.2).q
      rw [List.map_cons]
      refine ⟨by simp [PyData.showableKv, a1, b1, i1], by simp [PyData.leavesShortKv, a2, b2, i2], by simp only [PyData.depthKv]; omega, by simp only [PyData.weightKv, List.length_cons]; omega⟩
  intro ps h
  obtain ⟨i1, i2, i3, i4⟩ := gen ps h
  exact ⟨by simpa [ddI, PyData.showable] using i1, by simpa [ddI, PyData.leavesShort] using i2, by simp only [ddI, PyData.depth]; omega, by simp only [ddI, PyData.weight]; omega⟩
def jReprM (K : PySem.W.Frag) : List V → Hp → VK → Prop := fun vs H Q => ∃ (a : Addr) (xs : List V) (ds : List PyData) (w p : Nat), vs = [.ref a] ∧ H a = some (.lst xs) ∧ DqAll K H xs ds ∧ RqL ds w p ∧ w ≤ 2 ^ 19 ∧ p ≤ 60 ∧ Q (.str (PyData.list ds).shown) H
theorem call_reprM {X : Cx} {K0 : PySem.W.Frag} (hg : X.A.guards = some []) (hu : X.A.units + 64 < cLine) (hK : X.K = K0 := by rfl) : CallR X (.builtin "repr") (jReprM K0) := by
  subst hK
  intro pins s σ H xs us Q I r h
  obtain ⟨a, xs', ds, w, p, rfl, hl, hd, hr, hw, hp, q⟩ := h
  obtain ⟨u, rfl, ru⟩ := vals1 r
  cases ru
  obtain ⟨hz, its, n, rv, ho⟩ : xs'.length ≤ sizeLine ∧ ∃ (its : List Value) (n : Nat), Vals xs' its ∧ s.heap.get? a = some { cls := .type "list", data := .seq its.toArray n } := I.hok a _ hl
  have d1 := hr.dep
  have len : (PyData.list ds).shown.length ≤ sizeLine := by
    have z := PyData.shown_le 13 (by decide) (PyData.list ds) (by simpa [PyData.leavesShort] using hr.lsh)
    have e : (PyData.list ds).weight = PyData.weightAll ds := by simp only [PyData.weight]
    have w1 := hr.wgt
    refine Nat.le_trans z ?_
    rw [e, sizeLine_eq]
    have : (13 + 2) * PyData.weightAll ds + 13 ≤ (13 + 2) * 2 ^ 19 + 13 := by omega
    exact Nat.le_trans this (by decide)
  exact repr_items ho rfl rfl (hd.items I rv) hr.shw hg (by omega) len (fun h' u tk k => ⟨.str (PyData.list ds).shown, H, I.kept (t' := tk) k, ⟨u, rfl⟩, q⟩)
end Jk

namespace Jk
open PySem PySem.Spec PyProof.Rows L2 Evl
/-! ## sorted(set(xs)), xs a list of ints -/
def hasM (f : Nat → Int) (i : Nat) : Int → Bool := fun k => (firstMet f i).any (· == k)
theorem setR_next {w : World} {h : Heap} {a : Addr} {f : Nat → Int} {i : Nat} (R : SetR w h a (fun j => hasM f i j || decide (j = f i)) (if hasM f i (f i) = true then (firstMet f i).length else (firstMet f i).length + 1)) : SetR w h a (hasM f (i + 1)) (firstMet f (i + 1)).length := by
  have e1 : (firstMet f (i + 1)).length = if hasM f i (f i) = true then (firstMet f i).length else (firstMet f i).length + 1 := by rw [firstMet_succ, step_length]; rfl
  rw [e1]
  exact R.congr fun k => by unfold hasM; rw [firstMet_succ, step_any]
section
variable {prog : Program} {w : World} {A : Around} {E : Value → Shared → Prop}
theorem update_loopR {B : Result → Shared → Prop} {J : Addr} {f1 f2 : List Addr} {Gs : Array GenState → Array GenState → Prop} {many : Nat} {Pv : Nat → Value → Prop} {Sv : Nat → Shared → Prop} (W : WalksS prog w A.in1 J f1 f2 Gs many Pv Sv) {d : Addr} (out : d ∉ f1) {f : Nat → Int} (hf : ∀ i v, Pv i v → ∃ t, v = .int (f i) t) (few : many + 1 < scanBound) :
    ∀ (left i : Nat) (s : Shared), many - i = left → i ≤ many → Sv i s → SetR w s.heap d (hasM f i) (firstMet f i).length →
      (∀ s', Moved (d :: f2) Gs s s' → SetR w s'.heap d (hasM f many) (firstMet f many).length → B (.ok (.ret .none)) s') → codeAny (model prog w) A (.builtin "set.update.loop" ⟨[.ref d, .ref J], []⟩) B s := by
  have out2 : d ∉ f2 := fun z => out (W.sub _ z)
  have inn : ∀ b ∈ f2, b ∈ d :: f2 := fun b z => List.mem_cons_of_mem _ z
  intro left
  induction left with
  | zero =>
    intro i s e le st R q
    obtain rfl : i = many := by omega
    refine codeAny_builtin F.entry_set_update_loop ?_
    rw [Around.under_plainId F.plain_set_update_loop _]
    refine wpAny_bind (m := pyNext (.ref J)) (W.done s _ _ st fun s' mv => ?_)
    show wpAny (model prog w) A.in1 (ret Value.none) _ _ s'
    exact wpAny_pure (q s' (mv.mono inn) (R.at fun o z => mv.heap d o out2 z))
  | succ left ih =>
    intro i s e le st R q
    have lt : i < many := by omega
    refine codeAny_builtin F.entry_set_update_loop ?_
    rw [Around.under_plainId F.plain_set_update_loop _]
    refine wpAny_bind (m := pyNext (.ref J)) (W.item i s _ _ lt st fun v s' pv st' mv => ?_)
    obtain ⟨t, rfl⟩ := hf i v pv
    have R' := R.at (h' := s'.heap) fun o z => mv.heap d o out2 z
    refine wpAny_bind (m := holding [Value.int (f i) t] (setAdd d (.int (f i) t))) (wpAny_holding ?_)
    unfold setAdd
    refine wpAny_holding (wpAny_bind ((intKind prog w).pyHash (k := f i) (intKind_is _ _ _ _) ?_))
    have room : (firstMet f i).length + 1 < scanBound := by have := firstMet_length_le f i; omega
    refine setR_add_hashed (s := { s' with toks := s'.toks + 1 }) R' room fun h' same R2 => ?_
    have R3 := setR_next R2
    refine wpAny_pure ⟨plainId_quiet F.plain_set_update_loop _, ih (i + 1) _ (by omega) lt (W.frame _ s' _ _ st' (Nat.le_succ _) fun b z o y => ?_) R3 fun s2 mv2 R4 => ?_⟩
    · have ne : ¬ b = d := fun y => out (by rw [← y]; exact z)
      rw [same.2 b ne]
      exact y
    · refine q s2 (Moved.trans W.gtrans ((mv.mono inn).then_heap (Nat.le_succ _) fun b o z y => ?_) mv2) R4
      have ne : ¬ b = d := fun y => z (by rw [y]; exact List.mem_cons_self)
      rw [same.2 b ne]
      exact y
def ldO (w : World) : Bool := !w.params.followText "set-order"
def newS (w : World) (h : Heap) : Heap := h.push { cls := .type "set", dict := none, data := .set #[] 0 (.fresh 0 0 (ldO w)) }
theorem set_new_led {s : Shared} (x : Value) {Q1 : Value → Shared → Prop} (q : Q1 (.ref s.heap.objs.size) { s with heap := newS w s.heap }) :
    codeAny (model prog w) A (.call (.builtin "set.__new__") ⟨[.type "set", x], []⟩) (wants Q1 E) s := by
  refine codeAny_of_tree ?_
  refine wpAny_bind (m := checkBuiltinCall "set.__new__" ⟨[.type "set", x], []⟩) (wpAny_of_eq (PySem.F.newCall_set_1 x) (wpAny_pure ⟨plainId_quiet F.plain_set_new _, codeAny_builtin F.entry_set_new ?_⟩))
  rw [Around.under_plainId F.plain_set_new _]
  unfold Builtin.«set.__new__» Builtin.Frozenset.newClass
  have sub := sub_set_self
  obtain ⟨hp, g, d, tk, os⟩ := s
  dsimp only
  wp_walk
  refine wpAny_askSetting (wpAny_pure ?_)
  dsimp only
  simp only [newObj]
  exact wpAny_bind (wpAny_alloc (wpAny_pure (wpAny_pure q)))
set_option maxHeartbeats 8000000 in
theorem set_initR {s : Shared} {l : Addr} {its : Array Value} {ns : List Int} (hh : A.handled = none) (hl : s.heap.IsList l its) (hi : IntsAre its.toList ns) (few : its.size + 1 < scanBound) :
    codeAny (model prog w) A (.call (.builtin "set.__init__") ⟨[.ref s.heap.objs.size, .ref l], []⟩) (wants (fun r s2 => r = .none ∧ ∃ h' tk, s2 = { s with heap := h', toks := tk } ∧ SetR w h' s.heap.objs.size (hasM (fun i => ns.getD i 0) its.size) (firstMet (fun i => ns.getD i 0) its.size).length ∧
      ∀ b o, b < s.heap.objs.size → s.heap.get? b = some o → h'.get? b = some o) E) { s with heap := newS w s.heap } := by
  have at0 : (newS w s.heap).get? s.heap.objs.size = some { cls := .type "set", dict := none, data := .set #[] 0 (.fresh 0 0 (ldO w)) } := Heap.get?_push_size _ rfl
  have ty0 : Shared.TypeIs { s with heap := newS w s.heap } (.ref s.heap.objs.size) "set" := ⟨_, at0, rfl⟩
  have size0 : (newS w s.heap).objs.size = s.heap.objs.size + 1 := Heap.size_push ..
  refine codeAny_call_builtin PySem.F.called_set.init.plain PySem.F.entry_set_init (check_set_init_1 ty0 ?_)
  obtain ⟨ol, hol, hcl, nl, hdl⟩ := hl
  obtain ⟨c1, c2, c3, c4⟩ := ol
  simp only at hcl hdl
  subst hcl hdl
  have hol' : (newS w s.heap).get? l = some { cls := .type "list", dict := c2, data := .seq its nl, slots := c4 } := Heap.get?_push_of_some _ hol
  have y1 := PySem.F.sub_list_set
  have y2 := PySem.F.sub_list_frozenset
  have y3 : (Value.type "list" == Value.type "dict") = false := by decide
  have hl1 : (newS w s.heap).IsList l its := ⟨_, hol', rfl, nl, rfl⟩
  unfold Builtin.«set.__init__» noKeywords Builtin.Frozenset.updateFrom
  generalize kept : pyIter = walked
  wp_walk
  subst kept
  refine wpAny_pyIter_list hl1 (wpAny_bind (wpAny_runValue ?_))
  have lt := Heap.lt_size hol
  have hh3 : A.in1.in1.handled = none := by simp [hh]
  have ne1 : l ≠ (newS w s.heap).objs.size := by rw [size0]; exact Nat.ne_of_lt (Nat.lt_succ_of_lt lt)
  have ne2 : s.heap.objs.size ∉ [(newS w s.heap).objs.size, l] := fun z => by
    rw [size0] at z
    rcases List.mem_cons.mp z with z | z
    · exact Nat.ne_of_lt (Nat.lt_succ_self _) z
    · exact Nat.ne_of_gt lt (List.mem_singleton.mp z)
  refine update_loopR ((Walks.list hh3 _ l ne1 its).toS) ne2 (f := fun i => ns.getD i 0) (fun i v hv => PyProof.Rows.IntsAre.int_at hi i v (by rw [Array.getElem?_toList]; exact hv)) few its.size 0 _ (Nat.sub_zero _) (Nat.zero_le _) ?_ ?_ fun s' mv R => ?_
  · exact ⟨⟨_, Heap.get?_push_size _ rfl, rfl, rfl⟩, hl1.push _⟩
  · exact (setR_fresh (h := s.heap) w).at fun o z => Heap.get?_push_of_some _ z
  · obtain ⟨h', g', d', tk', os'⟩ := s'
    obtain rfl : g' = s.gens := mv.gens
    obtain rfl : d' = s.drawn := mv.drawn
    obtain rfl : os' = s.os := mv.os
    show wpAny (model prog w) _ _ _ _ _
    refine wpAny_pure ?_
    show wpAny (model prog w) _ (ret Value.none) _ _ _
    refine wpAny_pure ⟨rfl, h', tk', rfl, R, fun b o hb z => mv.heap b o ?_ (Heap.get?_push_of_some _ (Heap.get?_push_of_some _ z))⟩
    rw [size0]
    intro y
    rcases List.mem_cons.mp y with y | y
    · exact Nat.ne_of_lt hb y
    · exact Nat.ne_of_lt (Nat.lt_succ_of_lt hb) (List.mem_singleton.mp y)
set_option maxHeartbeats 8000000 in
theorem set_listR {s : Shared} {l : Addr} {its : Array Value} {ns : List Int} {Q : Value → Shared → Prop} (hh : A.handled = none) (hl : s.heap.IsList l its) (hi : IntsAre its.toList ns) (few : its.size + 1 < scanBound)
    (q : ∀ (h' : Heap) (tk : Nat), SetR w h' s.heap.objs.size (hasM (fun i => ns.getD i 0) its.size) (firstMet (fun i => ns.getD i 0) its.size).length → (∀ b o, b < s.heap.objs.size → s.heap.get? b = some o → h'.get? b = some o) → Q (.ref s.heap.objs.size) { s with heap := h', toks := tk }) :
    wpAny (model prog w) A (call (.type "set") [.ref l]) Q E s := by
  obtain ⟨cc, tll, hmro⟩ := PySem.F.called_set.mro
  have mk1 := PySem.F.called_set.made
  have mk2 := PySem.F.called_set.sub
  refine wpAny_call (codeAny_of_tree ?_)
  show wpAny (model prog w) _ (callAny (.type "set") _) _ _ _
  refine wpAny_pure ⟨Code.quiet_builtin _ (by decide +kernel), codeAny_builtin PySem.F.entry_type_call ?_⟩
  rw [Around.under_plain (weight_type_call_type "set" [.ref l] []) rfl]
  have mk3 := PySem.F.called_set.notType
  have mk4 := PySem.F.called_set.canCreate
  have mk5 := PySem.F.typeCall_set_1 (.ref l)
  repeat any_goals (first | assumption | wp_step)
  refine codeAny_mono (set_new_led (.ref l) (E := E) (Q1 := fun x s1 => x = .ref s.heap.objs.size ∧ s1 = { s with heap := newS w s.heap }) ⟨rfl, rfl⟩) fun r s1 hr => ?_
  cases r with
  | error e => exact hr
  | ok fl =>
    cases fl with
    | ret x =>
      obtain ⟨rfl, rfl⟩ := hr
      have at0 : (newS w s.heap).get? s.heap.objs.size = some { cls := .type "set", dict := none, data := .set #[] 0 (.fresh 0 0 (ldO w)) } := Heap.get?_push_size _ rfl
      have ty0 : Shared.TypeIs { s with heap := newS w s.heap } (.ref s.heap.objs.size) "set" := ⟨_, at0, rfl⟩
      have in1 := PySem.F.called_set.init.lookup
      have in2 := PySem.F.called_set.init.bind (.ref s.heap.objs.size)
      repeat any_goals (first | assumption | wp_step)
      refine codeAny_mono (set_initR (E := E) (A := A.in1) (by simpa using hh) hl hi few) fun r2 s2 hr2 => ?_
      cases r2 with
      | error e => exact hr2
      | ok fl2 =>
        cases fl2 with
        | ret r =>
          obtain ⟨rfl, h', tk, rfl, R, kp⟩ := hr2
          repeat any_goals (first | assumption | wp_step)
          exact q _ _ R kp
        | _ => exact hr2.elim
    | _ => exact hr.elim
end
end Jk

namespace Jk
open PySem PySem.Spec PyProof.Rows L2 Evl
theorem lt_uniq : ∀ {l m : List Int}, l.Pairwise (· < ·) → m.Pairwise (· < ·) → (∀ x, x ∈ l ↔ x ∈ m) → l = m
  | [], [], _, _, _ => rfl
  | [], b :: m, _, _, h => by have := (h b).mpr (by simp); cases this
  | a :: l, [], _, _, h => by have := (h a).mp (by simp); cases this
  | a :: l, b :: m, p, q, h => by
    obtain ⟨p1, p2⟩ := List.pairwise_cons.mp p
    obtain ⟨q1, q2⟩ := List.pairwise_cons.mp q
    have e : a = b := by
      rcases List.mem_cons.mp ((h a).mp (by simp)) with z | z
      · exact z
      · rcases List.mem_cons.mp ((h b).mpr (by simp)) with y | y
        · exact y.symm
        · have := q1 a z; have := p1 b y; omega
    subst e
    rw [lt_uniq p2 q2 fun x => ?_]
    constructor
    · intro hx
      rcases List.mem_cons.mp ((h x).mp (List.mem_cons_of_mem _ hx)) with z | z
      · have := p1 x hx; omega
      · exact z
    · intro hx
      rcases List.mem_cons.mp ((h x).mpr (List.mem_cons_of_mem _ hx)) with z | z
      · have := q1 x hx; omega
      · exact z
def jSortSet (ta : TE) : TE := fun σ H Q => ta σ H fun x H1 => ∃ (l : Addr), x = .ref l ∧ ∃ (ns us : List Int), LsI H1 l ns ∧ ns.length ≤ 1000 ∧ us.Pairwise (· < ·) ∧ (∀ x, x ∈ us ↔ x ∈ ns) ∧ us.length < 64 ∧ ∀ p H2, H1 p = none → Ex H1 H2 → LsI H2 p us → Q (.ref p) H2
@[simp] theorem j_sortSet {ta : TE} {σ : L2.St} {H : Hp} {Q : VK} : jSortSet ta σ H Q = ta σ H fun x H1 => ∃ (l : Addr), x = .ref l ∧ ∃ (ns us : List Int), LsI H1 l ns ∧ ns.length ≤ 1000 ∧ us.Pairwise (· < ·) ∧ (∀ x, x ∈ us ↔ x ∈ ns) ∧ us.length < 64 ∧ ∀ p H2, H1 p = none → Ex H1 H2 → LsI H2 p us → Q (.ref p) H2 := rfl
theorem pe_sortSet {X : Cx} {a : Expr} {ta : TE} {p p2 pos pos2 : Pos} (hc : X.calm = true) (g1 : Gl X "sorted") (m1 : X.mg "sorted" = none) (g2 : Gl X "set") (m2 : X.mg "set" = none) (ha : PE X a ta)
    (na : starEach [a] X.env = (false, eval a X.env) :: starEach [] X.env := by rfl) : PE X (.Call (.Name "sorted" p) [.Call (.Name "set" p2) [a] [] pos2] [] pos) (jSortSet ta) := by
  refine ⟨fun pins s σ H Q I h => Call_ (ld_blt I g1 m1 (u := .builtin "sorted") (by decide +kernel) (PyProof.Rows.callWith_builtin1 (PyProof.Rows.args_cons (Call_ (ld_blt I g2 m2 PyProof.Rows.boot_set ?_)) rfl) rfl rfl))⟩
  refine PyProof.Rows.callWith_type1 (PyProof.Rows.args_cons (thn (ha.run pins s σ H _ I h) ?_) na) na rfl
  rintro v s1 ⟨x, H1, I1, r1, l, rfl, ns, us, hq, hlen, und, uin, u64, q1⟩
  refine PyProof.Rows.args_nil ?_
  cases r1
  obtain ⟨its, r, pl, hz⟩ := I1.list (.inl (.inl hq))
  have en : its.toArray.size = ns.length := by simpa using r.length.symm
  refine set_listR (I1.ok.hd hc) pl.isList (ns := ns) (by simpa using r.ints) (by unfold scanBound; omega) fun h2 tk R kp => PyProof.Rows.args_nil ?_
  rw [en] at R
  have J : L2.Inv X pins σ H1 { s1 with heap := h2, toks := tk } := I1.kept fun b o e => kp b o (Heap.lt_size e) e
  have same : (firstMet (fun i => ns.getD i 0) ns.length).length = us.length := same_len (met_nd _ _) (und.imp fun h => by omega) fun x => by rw [met_in, met_list, uin]
  refine sorted_set (s := { s1 with heap := h2, toks := tk }) R (J.ok.hd hc) (by rw [same]; exact u64) fun s2 p out c ms kk gg oo fresh at2 intz inc mem len => ?_
  have eu : ms = us := lt_uniq inc und fun x => by
    rw [mem]
    unfold hasM
    rw [uin, List.any_eq_true]
    constructor
    · rintro ⟨y, hy, e⟩
      rw [← eq_of_beq e]
      rw [met_in, met_list] at hy
      exact hy
    · intro hx
      exact ⟨x, by rw [met_in, met_list]; exact hx, beq_self_eq_true _⟩
  subst eu
  have no : H1 p = none := J.hok.fresh fresh
  have J2 : L2.Inv X pins σ (upd H1 p (.lst (ms.map V.int))) { { s1 with heap := h2, toks := tk } with heap := s2.heap, gens := s2.gens, drawn := s2.drawn, toks := s2.toks } :=
    J.call (ch := []) (Un.laid kk fresh no) (J.hok.laid kk fresh ⟨by rw [List.length_map, sizeLine_eq]; omega, out.toList, c, vals_of_ints intz, at2⟩) (by rw [gg]; exact J.bare) (fun _ z => nomatch z)
  have e2 : s2 = { { s1 with heap := h2, toks := tk } with heap := s2.heap, gens := s2.gens, drawn := s2.drawn, toks := s2.toks } := by
    obtain ⟨a1, a2, a3, a4, a5⟩ := s2
    obtain ⟨b1, b2, b3, b4, b5⟩ := s1
    cases oo
    rfl
  rw [e2]
  exact ⟨.ref p, _, J2, rfl, q1 p _ no (Ex.new no) upd_same⟩
/-! sorted(d), d a dict of ints -/
def jSortedD : List V → Hp → VK → Prop := fun vs H Q => ∃ a, vs = [.ref a] ∧ ∃ (kvs : List (Key × V)) (ks : List Int), H a = some (.dK kvs) ∧ kvs.map (·.1) = ks.map Sum.inl ∧ ks.length < 64 ∧ ∀ p H2, H p = none → Ex H H2 → LsI H2 p (srt ks) → Q (.ref p) H2
theorem call_sortedDJ {X : Cx} (hc : X.calm = true) : CallR X (.builtin "sorted") jSortedD := callBy (call_sortedDI hc) fun vs H Q ⟨a, e, kvs, ks, h, hk, l, q⟩ => ⟨a, kvs, ks, e, .inl h, hk, l, fun ys p h1 h2 h3 => q p _ h3 (Ex.new h3) (by rw [srt_uniq h1 h2] at *; exact upd_same)⟩
@[simp] theorem j_sortedD {a : Addr} {H : Hp} {Q : VK} : jSortedD [.ref a] H Q = ∃ (kvs : List (Key × V)) (ks : List Int), H a = some (.dK kvs) ∧ kvs.map (·.1) = ks.map Sum.inl ∧ ks.length < 64 ∧ ∀ p H2, H p = none → Ex H H2 → LsI H2 p (srt ks) → Q (.ref p) H2 := by simp [jSortedD]
/-! d.clear() -/
def jDClear (to : TE) : TE := fun σ H Q => to σ H fun x H1 => ∃ (a : Addr) (kvs : List (Key × V)), x = .ref a ∧ H1 a = some (.dK kvs) ∧ Q .non (upd H1 a (.dK []))
@[simp] theorem j_dclear {to : TE} {σ : L2.St} {H : Hp} {Q : VK} : jDClear to σ H Q = to σ H fun x H1 => ∃ (a : Addr) (kvs : List (Key × V)), x = .ref a ∧ H1 a = some (.dK kvs) ∧ Q .non (upd H1 a (.dK [])) := rfl
theorem pe_dclearJ {X : Cx} {o : Expr} {to : TE} {apos cpos : Pos} (ho : PE X o to) (h1 : attributeBase o "clear" X.env (eval o X.env) = eval o X.env := by rfl) (h2 : (apos.endLine == cpos.line) = true := by rfl) : PE X (.Call (.Attribute o "clear" apos) [] [] cpos) (jDClear to) :=
  (pe_dclear ho.cl h1 h2).by fun σ H Q q => ⟨_, q, fun x H1 ⟨a, kvs, e, h, q⟩ => ⟨by rw [e]; exact .inr (.inr (.inl ⟨rfl, .inl ⟨kvs, h⟩⟩)), a, kvs, e, rfl, h, q⟩⟩
end Jk

namespace Jk
open PySem L2 Evl
section
variable {X : Cx}
/-- t[lo:hi], t a tuple: t itself where that is all of it -/
def jSlTup : V → Option Int → Option Int → Hp → VK → Prop := fun x lo hi H Q => ∃ a xs, x = .ref a ∧ H a = some (.tup xs) ∧ (∀ i, lo = some i → 0 ≤ i) ∧ (∀ i, hi = some i → 0 ≤ i) ∧
  ∀ p H2, Ex H H2 → H2 p = some (.tup ((hiT xs hi).drop (loN lo))) → Q (.ref p) H2
theorem sl_tupJ : SlR X jSlTup := fun pins s σ H x v vl vu lo hi sl Q I rx hs pl pu ⟨a, xs, e, h, h1, h2, k⟩ => sl_tupA pins s σ H x v vl vu lo hi sl Q I rx hs pl pu ⟨a, xs, e, .inl (.inl h), fun ⟨z1, z2⟩ => k a H (Ex.refl _) (by
    have c := cut_eq xs lo hi h1 h2
    rw [← c, cutV, z1, z2, List.drop_zero, Nat.sub_zero, List.take_length]
    exact h), fun _ p hp => k p _ (Ex.new hp) (by rw [upd_same, cut_eq xs lo hi h1 h2])⟩
@[simp] theorem j_slTup {a : Addr} {lo hi : Option Int} {H : Hp} {Q : VK} : jSlTup (.ref a) lo hi H Q = ∃ xs, H a = some (.tup xs) ∧ (∀ i, lo = some i → 0 ≤ i) ∧ (∀ i, hi = some i → 0 ≤ i) ∧
  ∀ p H2, Ex H H2 → H2 p = some (.tup ((hiT xs hi).drop (loN lo))) → Q (.ref p) H2 := by simp [jSlTup]
@[simp] theorem j_sliceTup {te : TE} {tl th : TO} {σ : L2.St} {H : Hp} {Q : VK} : tSl jSlTup te tl th σ H Q = te σ H fun x H1 => tl σ H1 fun l H2 => th σ H2 fun u H3 => jSlTup x l u H3 Q := rfl
end
end Jk

namespace Jk
open PySem L2 Evl
def top (i : Nat) : Stmt := PySem.Challenge.pw_joinside_k10_whole_crowds_and_colours.main.body.getD i (.Pass ⟨0, 0, 0, 0⟩)

abbrev s_whole_within : Stmt := top 6
theorem sc_whole_within : FnScope ["number", "least", "most"] ["number", "least", "most"] (defScope s_whole_within) := ⟨rfl, rfl, rfl, by decide +kernel, rfl, by decide +kernel, by decide +kernel⟩

abbrev s_Point_init : Stmt := inClass (top 11) 0
theorem sc_Point_init : FnScope ["self", "number"] ["self", "number"] (defScope s_Point_init) := ⟨rfl, rfl, rfl, by decide +kernel, rfl, by decide +kernel, by decide +kernel⟩

abbrev s_Point_told : Stmt := inClass (top 11) 1
theorem sc_Point_told : FnScope ["self"] ["self"] (defScope s_Point_told) := ⟨rfl, rfl, rfl, by decide +kernel, rfl, by decide +kernel, by decide +kernel⟩

abbrev s_Point_points : Stmt := inClass (top 11) 2
theorem sc_Point_points : FnScope ["self"] ["self"] (defScope s_Point_points) := ⟨rfl, rfl, rfl, by decide +kernel, rfl, by decide +kernel, by decide +kernel⟩

abbrev s_Point_tied : Stmt := inClass (top 11) 3
theorem sc_Point_tied : FnScope ["self", "one", "other"] ["self", "one", "other"] (defScope s_Point_tied) := ⟨rfl, rfl, rfl, by decide +kernel, rfl, by decide +kernel, by decide +kernel⟩

abbrev s_Point_turned : Stmt := inClass (top 11) 4
theorem sc_Point_turned : FnScope ["self"] ["self"] (defScope s_Point_turned) := ⟨rfl, rfl, rfl, by decide +kernel, rfl, by decide +kernel, by decide +kernel⟩

abbrev s_Side_init : Stmt := inClass (top 12) 0
theorem sc_Side_init : FnScope ["self", "parts"] ["self", "parts"] (defScope s_Side_init) := ⟨rfl, rfl, rfl, by decide +kernel, rfl, by decide +kernel, by decide +kernel⟩

abbrev s_Side_told : Stmt := inClass (top 12) 1
theorem sc_Side_told : FnScope ["self"] ["self"] (defScope s_Side_told) := ⟨rfl, rfl, rfl, by decide +kernel, rfl, by decide +kernel, by decide +kernel⟩

abbrev s_Side_points : Stmt := inClass (top 12) 2
theorem sc_Side_points : FnScope ["self"] ["self"] (defScope s_Side_points) := ⟨rfl, rfl, rfl, by decide +kernel, rfl, by decide +kernel, by decide +kernel⟩

abbrev s_Side_tied : Stmt := inClass (top 12) 3
theorem sc_Side_tied : FnScope ["self", "one", "other"] ["self", "one", "other"] (defScope s_Side_tied) := ⟨rfl, rfl, rfl, by decide +kernel, rfl, by decide +kernel, by decide +kernel⟩

abbrev s_Side_turned : Stmt := inClass (top 12) 4
theorem sc_Side_turned : FnScope ["self"] ["self"] (defScope s_Side_turned) := ⟨rfl, rfl, rfl, by decide +kernel, rfl, by decide +kernel, by decide +kernel⟩

abbrev s_Join_init : Stmt := inClass (top 13) 0
theorem sc_Join_init : FnScope ["self", "parts"] ["self", "parts"] (defScope s_Join_init) := ⟨rfl, rfl, rfl, by decide +kernel, rfl, by decide +kernel, by decide +kernel⟩

abbrev s_Join_told : Stmt := inClass (top 13) 1
theorem sc_Join_told : FnScope ["self"] ["self"] (defScope s_Join_told) := ⟨rfl, rfl, rfl, by decide +kernel, rfl, by decide +kernel, by decide +kernel⟩

abbrev s_Join_points : Stmt := inClass (top 13) 2
theorem sc_Join_points : FnScope ["self"] ["self"] (defScope s_Join_points) := ⟨rfl, rfl, rfl, by decide +kernel, rfl, by decide +kernel, by decide +kernel⟩

abbrev s_Join_tied : Stmt := inClass (top 13) 3
theorem sc_Join_tied : FnScope ["self", "one", "other"] ["self", "one", "other"] (defScope s_Join_tied) := ⟨rfl, rfl, rfl, by decide +kernel, rfl, by decide +kernel, by decide +kernel⟩

abbrev s_Join_turned : Stmt := inClass (top 13) 4
theorem sc_Join_turned : FnScope ["self"] ["self"] (defScope s_Join_turned) := ⟨rfl, rfl, rfl, by decide +kernel, rfl, by decide +kernel, by decide +kernel⟩

abbrev s_points_of : Stmt := top 14
theorem sc_points_of : FnScope ["trees", "tree", "point"] ["trees"] (defScope s_points_of) := ⟨rfl, rfl, rfl, by decide +kernel, rfl, by decide +kernel, by decide +kernel⟩

abbrev s_told_of : Stmt := top 15
theorem sc_told_of : FnScope ["trees", "tree"] ["trees"] (defScope s_told_of) := ⟨rfl, rfl, rfl, by decide +kernel, rfl, by decide +kernel, by decide +kernel⟩

abbrev s_tied_among : Stmt := top 16
theorem sc_tied_among : FnScope ["trees", "one", "other", "across", "tree", "points"] ["trees", "one", "other", "across"] (defScope s_tied_among) := ⟨rfl, rfl, rfl, by decide +kernel, rfl, by decide +kernel, by decide +kernel⟩

abbrev s_tree_by : Stmt := top 17
theorem sc_tree_by : FnScope ["told"] ["told"] (defScope s_tree_by) := ⟨rfl, rfl, rfl, by decide +kernel, rfl, by decide +kernel, by decide +kernel⟩

abbrev s_tree_under : Stmt := top 18
theorem sc_tree_under : FnScope ["above", "told", "deep", "met", "word", "parts", "trees", "leasts", "within", "tree"] ["above", "told", "deep", "met"] (defScope s_tree_under) := ⟨rfl, rfl, rfl, by decide +kernel, rfl, by decide +kernel, by decide +kernel⟩

abbrev s_opened : Stmt := top 19
theorem sc_opened : FnScope ["told", "word", "parts"] ["told"] (defScope s_opened) := ⟨rfl, rfl, rfl, by decide +kernel, rfl, by decide +kernel, by decide +kernel⟩

abbrev s_crowd : Stmt := top 21
theorem sc_crowd : FnScope ["told"] ["told"] (defScope s_crowd) := ⟨rfl, rfl, rfl, by decide +kernel, rfl, by decide +kernel, by decide +kernel⟩

abbrev s_still : Stmt := top 22
theorem sc_still : FnScope ["told"] ["told"] (defScope s_still) := ⟨rfl, rfl, rfl, by decide +kernel, rfl, by decide +kernel, by decide +kernel⟩

abbrev s_colours : Stmt := top 23
theorem sc_colours : FnScope ["told", "found", "colour", "points", "point"] ["told"] (defScope s_colours) := ⟨rfl, rfl, rfl, by decide +kernel, rfl, by decide +kernel, by decide +kernel⟩

abbrev s_covers : Stmt := top 24
theorem sc_covers : FnScope ["told", "points"] ["told"] (defScope s_covers) := ⟨rfl, rfl, rfl, by decide +kernel, rfl, by decide +kernel, by decide +kernel⟩

abbrev s_greatest_by : Stmt := top 25
theorem sc_greatest_by : FnScope ["word", "told", "found", "within", "points", "point"] ["word", "told"] (defScope s_greatest_by) := ⟨rfl, rfl, rfl, by decide +kernel, rfl, by decide +kernel, by decide +kernel⟩

abbrev s_fewest_by : Stmt := top 26
theorem sc_fewest_by : FnScope ["word", "told", "found", "within", "lists", "points"] ["word", "told"] (defScope s_fewest_by) := ⟨rfl, rfl, rfl, by decide +kernel, rfl, by decide +kernel, by decide +kernel⟩

abbrev s_merged : Stmt := top 27
theorem sc_merged : FnScope ["found", "merged", "lists", "at", "points"] ["found"] (defScope s_merged) := ⟨rfl, rfl, rfl, by decide +kernel, rfl, by decide +kernel, by decide +kernel⟩

abbrev s_l_mixed : Stmt := top 29
theorem sc_l_mixed : FnScope ["_law_cell", "_law_k", "_law_number_here"] ["_law_cell", "_law_k"] (defScope s_l_mixed) := ⟨rfl, rfl, rfl, by decide +kernel, rfl, by decide +kernel, by decide +kernel⟩

abbrev s_l_number : Stmt := top 30
theorem sc_l_number : FnScope ["_law_script", "_law_k", "_law_cell"] ["_law_script", "_law_k"] (defScope s_l_number) := ⟨rfl, rfl, rfl, by decide +kernel, rfl, by decide +kernel, by decide +kernel⟩

abbrev s_l_order : Stmt := top 31
theorem sc_l_order : FnScope ["_law_many", "_law_number_here", "_law_left", "_law_found", "_law_k"] ["_law_many", "_law_number_here"] (defScope s_l_order) := ⟨rfl, rfl, rfl, by decide +kernel, rfl, by decide +kernel, by decide +kernel⟩

abbrev s_l_least : Stmt := top 32
theorem sc_l_least : FnScope ["_law_told_here"] ["_law_told_here"] (defScope s_l_least) := ⟨rfl, rfl, rfl, by decide +kernel, rfl, by decide +kernel, by decide +kernel⟩

abbrev s_l_told : Stmt := top 33
theorem sc_l_told : FnScope ["_law_nodes", "_law_at", "_law_names", "_law_node", "_law_parts", "_law_piece"] ["_law_nodes", "_law_at", "_law_names"] (defScope s_l_told) := ⟨rfl, rfl, rfl, by decide +kernel, rfl, by decide +kernel, by decide +kernel⟩

abbrev s_l_tree : Stmt := top 34
theorem sc_l_tree : FnScope ["_law_script", "_law_most", "_law_names", "_law_nodes", "_law_above", "_law_leaves", "_law_k", "_law_cell", "_law_old", "_law_word"] ["_law_script", "_law_most", "_law_names"] (defScope s_l_tree) := ⟨rfl, rfl, rfl, by decide +kernel, rfl, by decide +kernel, by decide +kernel⟩

abbrev s_l_points : Stmt := top 35
theorem sc_l_points : FnScope ["_law_told_here", "_law_found", "_law_piece"] ["_law_told_here"] (defScope s_l_points) := ⟨rfl, rfl, rfl, by decide +kernel, rfl, by decide +kernel, by decide +kernel⟩

abbrev s_l_ties : Stmt := top 36
theorem sc_l_ties : FnScope ["_law_told_here", "_law_found", "_law_ahead", "_law_piece", "_law_points_here", "_law_one", "_law_other"] ["_law_told_here"] (defScope s_l_ties) := ⟨rfl, rfl, rfl, by decide +kernel, rfl, by decide +kernel, by decide +kernel⟩

abbrev s_l_is_crowd : Stmt := top 37
theorem sc_l_is_crowd : FnScope ["_law_found", "_law_points_here", "_law_ties_here", "_law_is_tied", "_law_at", "_law_point", "_law_one"] ["_law_found", "_law_points_here", "_law_ties_here", "_law_is_tied"] (defScope s_l_is_crowd) := ⟨rfl, rfl, rfl, by decide +kernel, rfl, by decide +kernel, by decide +kernel⟩

abbrev s_l_shaded : Stmt := top 38
theorem sc_l_shaded : FnScope ["_law_found", "_law_points_here", "_law_ties_here", "_law_used", "_law_point", "_law_tie"] ["_law_found", "_law_points_here", "_law_ties_here"] (defScope s_l_shaded) := ⟨rfl, rfl, rfl, by decide +kernel, rfl, by decide +kernel, by decide +kernel⟩

abbrev s_l_covered : Stmt := top 39
theorem sc_l_covered : FnScope ["_law_found", "_law_points_here", "_law_ties_here", "_law_one", "_law_together"] ["_law_found", "_law_points_here", "_law_ties_here"] (defScope s_l_covered) := ⟨rfl, rfl, rfl, by decide +kernel, rfl, by decide +kernel, by decide +kernel⟩

abbrev s_l_right : Stmt := top 40
theorem sc_l_right : FnScope ["_law_told_here", "_law_points_here", "_law_ties_here", "_law_some", "_law_shades", "_law_crowds", "_law_kept", "_law_again", "_law_last"] ["_law_told_here"] (defScope s_l_right) := ⟨rfl, rfl, rfl, by decide +kernel, rfl, by decide +kernel, by decide +kernel⟩

abbrev s_law : Stmt := top 41
theorem sc_law : FnScope ["_law_script", "_law_first", "_law_names", "_law_second", "_law_told_here", "_law_piece"] ["_law_script"] (defScope s_law) := ⟨rfl, rfl, rfl, by decide +kernel, rfl, by decide +kernel, by decide +kernel⟩

structure Adr where
  a_whole_within : Addr
  d_whole_within : FuncData
  a_Point_init : Addr
  d_Point_init : FuncData
  a_Point_told : Addr
  d_Point_told : FuncData
  a_Point_points : Addr
  d_Point_points : FuncData
  a_Point_tied : Addr
  d_Point_tied : FuncData
  a_Point_turned : Addr
  d_Point_turned : FuncData
  a_Side_init : Addr
  d_Side_init : FuncData
  a_Side_told : Addr
  d_Side_told : FuncData
  a_Side_points : Addr
  d_Side_points : FuncData
  a_Side_tied : Addr
  d_Side_tied : FuncData
  a_Side_turned : Addr
  d_Side_turned : FuncData
  a_Join_init : Addr
  d_Join_init : FuncData
  a_Join_told : Addr
  d_Join_told : FuncData
  a_Join_points : Addr
  d_Join_points : FuncData
  a_Join_tied : Addr
  d_Join_tied : FuncData
  a_Join_turned : Addr
  d_Join_turned : FuncData
  a_points_of : Addr
  d_points_of : FuncData
  a_told_of : Addr
  d_told_of : FuncData
  a_tied_among : Addr
  d_tied_among : FuncData
  a_tree_by : Addr
  d_tree_by : FuncData
  a_tree_under : Addr
  d_tree_under : FuncData
  a_opened : Addr
  d_opened : FuncData
  a_crowd : Addr
  d_crowd : FuncData
  a_still : Addr
  d_still : FuncData
  a_colours : Addr
  d_colours : FuncData
  a_covers : Addr
  d_covers : FuncData
  a_greatest_by : Addr
  d_greatest_by : FuncData
  a_fewest_by : Addr
  d_fewest_by : FuncData
  a_merged : Addr
  d_merged : FuncData
  a_l_mixed : Addr
  d_l_mixed : FuncData
  a_l_number : Addr
  d_l_number : FuncData
  a_l_order : Addr
  d_l_order : FuncData
  a_l_least : Addr
  d_l_least : FuncData
  a_l_told : Addr
  d_l_told : FuncData
  a_l_tree : Addr
  d_l_tree : FuncData
  a_l_points : Addr
  d_l_points : FuncData
  a_l_ties : Addr
  d_l_ties : FuncData
  a_l_is_crowd : Addr
  d_l_is_crowd : FuncData
  a_l_shaded : Addr
  d_l_shaded : FuncData
  a_l_covered : Addr
  d_l_covered : FuncData
  a_l_right : Addr
  d_l_right : FuncData
  a_law : Addr
  d_law : FuncData
  c_Join : Addr
  c_Point : Addr
  c_Side : Addr

structure Txt (K : PySem.W.Frag) (mg : Str → Option Value) (A : Adr) : Prop where
  g_whole_within : mg "whole_within" = some (.ref A.a_whole_within)
  k_whole_within : PySem.W.keepIn K (.ref A.a_whole_within) = true
  b_whole_within : L2.Binds K A.d_whole_within ["number", "least", "most"] []
  F_whole_within : Fun K "whole_within" "whole_within" s_whole_within A.a_whole_within A.d_whole_within
  b_Point_init : L2.Binds K A.d_Point_init ["self", "number"] []
  F_Point_init : Fun K "__init__" "Point.__init__" s_Point_init A.a_Point_init A.d_Point_init
  m_Point_told : Meth K A.c_Point "told" A.a_Point_told
  b_Point_told : L2.Binds K A.d_Point_told ["self"] []
  F_Point_told : Fun K "told" "Point.told" s_Point_told A.a_Point_told A.d_Point_told
  m_Point_points : Meth K A.c_Point "points" A.a_Point_points
  b_Point_points : L2.Binds K A.d_Point_points ["self"] []
  F_Point_points : Fun K "points" "Point.points" s_Point_points A.a_Point_points A.d_Point_points
  m_Point_tied : Meth K A.c_Point "tied" A.a_Point_tied
  b_Point_tied : L2.Binds K A.d_Point_tied ["self", "one", "other"] []
  F_Point_tied : Fun K "tied" "Point.tied" s_Point_tied A.a_Point_tied A.d_Point_tied
  m_Point_turned : Meth K A.c_Point "turned" A.a_Point_turned
  b_Point_turned : L2.Binds K A.d_Point_turned ["self"] []
  F_Point_turned : Fun K "turned" "Point.turned" s_Point_turned A.a_Point_turned A.d_Point_turned
  b_Side_init : L2.Binds K A.d_Side_init ["self", "parts"] []
  F_Side_init : Fun K "__init__" "Side.__init__" s_Side_init A.a_Side_init A.d_Side_init
  m_Side_told : Meth K A.c_Side "told" A.a_Side_told
  b_Side_told : L2.Binds K A.d_Side_told ["self"] []
  F_Side_told : Fun K "told" "Side.told" s_Side_told A.a_Side_told A.d_Side_told
  m_Side_points : Meth K A.c_Side "points" A.a_Side_points
  b_Side_points : L2.Binds K A.d_Side_points ["self"] []
  F_Side_points : Fun K "points" "Side.points" s_Side_points A.a_Side_points A.d_Side_points
  m_Side_tied : Meth K A.c_Side "tied" A.a_Side_tied
  b_Side_tied : L2.Binds K A.d_Side_tied ["self", "one", "other"] []
  F_Side_tied : Fun K "tied" "Side.tied" s_Side_tied A.a_Side_tied A.d_Side_tied
  m_Side_turned : Meth K A.c_Side "turned" A.a_Side_turned
  b_Side_turned : L2.Binds K A.d_Side_turned ["self"] []
  F_Side_turned : Fun K "turned" "Side.turned" s_Side_turned A.a_Side_turned A.d_Side_turned
  b_Join_init : L2.Binds K A.d_Join_init ["self", "parts"] []
  F_Join_init : Fun K "__init__" "Join.__init__" s_Join_init A.a_Join_init A.d_Join_init
  m_Join_told : Meth K A.c_Join "told" A.a_Join_told
  b_Join_told : L2.Binds K A.d_Join_told ["self"] []
  F_Join_told : Fun K "told" "Join.told" s_Join_told A.a_Join_told A.d_Join_told
  m_Join_points : Meth K A.c_Join "points" A.a_Join_points
  b_Join_points : L2.Binds K A.d_Join_points ["self"] []
  F_Join_points : Fun K "points" "Join.points" s_Join_points A.a_Join_points A.d_Join_points
  m_Join_tied : Meth K A.c_Join "tied" A.a_Join_tied
  b_Join_tied : L2.Binds K A.d_Join_tied ["self", "one", "other"] []
  F_Join_tied : Fun K "tied" "Join.tied" s_Join_tied A.a_Join_tied A.d_Join_tied
  m_Join_turned : Meth K A.c_Join "turned" A.a_Join_turned
  b_Join_turned : L2.Binds K A.d_Join_turned ["self"] []
  F_Join_turned : Fun K "turned" "Join.turned" s_Join_turned A.a_Join_turned A.d_Join_turned
  g_points_of : mg "_points_of" = some (.ref A.a_points_of)
  k_points_of : PySem.W.keepIn K (.ref A.a_points_of) = true
  b_points_of : L2.Binds K A.d_points_of ["trees"] []
  F_points_of : Fun K "_points_of" "_points_of" s_points_of A.a_points_of A.d_points_of
  g_told_of : mg "_told_of" = some (.ref A.a_told_of)
  k_told_of : PySem.W.keepIn K (.ref A.a_told_of) = true
  b_told_of : L2.Binds K A.d_told_of ["trees"] []
  F_told_of : Fun K "_told_of" "_told_of" s_told_of A.a_told_of A.d_told_of
  g_tied_among : mg "_tied_among" = some (.ref A.a_tied_among)
  k_tied_among : PySem.W.keepIn K (.ref A.a_tied_among) = true
  b_tied_among : L2.Binds K A.d_tied_among ["trees", "one", "other", "across"] []
  F_tied_among : Fun K "_tied_among" "_tied_among" s_tied_among A.a_tied_among A.d_tied_among
  g_tree_by : mg "tree_by" = some (.ref A.a_tree_by)
  k_tree_by : PySem.W.keepIn K (.ref A.a_tree_by) = true
  b_tree_by : L2.Binds K A.d_tree_by ["told"] []
  F_tree_by : Fun K "tree_by" "tree_by" s_tree_by A.a_tree_by A.d_tree_by
  g_tree_under : mg "_tree_under" = some (.ref A.a_tree_under)
  k_tree_under : PySem.W.keepIn K (.ref A.a_tree_under) = true
  b_tree_under : L2.Binds K A.d_tree_under ["above", "told", "deep", "met"] []
  F_tree_under : Fun K "_tree_under" "_tree_under" s_tree_under A.a_tree_under A.d_tree_under
  g_opened : mg "_opened" = some (.ref A.a_opened)
  k_opened : PySem.W.keepIn K (.ref A.a_opened) = true
  b_opened : L2.Binds K A.d_opened ["told"] []
  F_opened : Fun K "_opened" "_opened" s_opened A.a_opened A.d_opened
  g_crowd : mg "crowd" = some (.ref A.a_crowd)
  k_crowd : PySem.W.keepIn K (.ref A.a_crowd) = true
  b_crowd : L2.Binds K A.d_crowd ["told"] []
  F_crowd : Fun K "crowd" "crowd" s_crowd A.a_crowd A.d_crowd
  g_still : mg "still" = some (.ref A.a_still)
  k_still : PySem.W.keepIn K (.ref A.a_still) = true
  b_still : L2.Binds K A.d_still ["told"] []
  F_still : Fun K "still" "still" s_still A.a_still A.d_still
  g_colours : mg "colours" = some (.ref A.a_colours)
  k_colours : PySem.W.keepIn K (.ref A.a_colours) = true
  b_colours : L2.Binds K A.d_colours ["told"] []
  F_colours : Fun K "colours" "colours" s_colours A.a_colours A.d_colours
  g_covers : mg "covers" = some (.ref A.a_covers)
  k_covers : PySem.W.keepIn K (.ref A.a_covers) = true
  b_covers : L2.Binds K A.d_covers ["told"] []
  F_covers : Fun K "covers" "covers" s_covers A.a_covers A.d_covers
  g_greatest_by : mg "_greatest_by" = some (.ref A.a_greatest_by)
  k_greatest_by : PySem.W.keepIn K (.ref A.a_greatest_by) = true
  b_greatest_by : L2.Binds K A.d_greatest_by ["word", "told"] []
  F_greatest_by : Fun K "_greatest_by" "_greatest_by" s_greatest_by A.a_greatest_by A.d_greatest_by
  g_fewest_by : mg "_fewest_by" = some (.ref A.a_fewest_by)
  k_fewest_by : PySem.W.keepIn K (.ref A.a_fewest_by) = true
  b_fewest_by : L2.Binds K A.d_fewest_by ["word", "told"] []
  F_fewest_by : Fun K "_fewest_by" "_fewest_by" s_fewest_by A.a_fewest_by A.d_fewest_by
  g_merged : mg "_merged" = some (.ref A.a_merged)
  k_merged : PySem.W.keepIn K (.ref A.a_merged) = true
  b_merged : L2.Binds K A.d_merged ["found"] []
  F_merged : Fun K "_merged" "_merged" s_merged A.a_merged A.d_merged
  g_l_mixed : mg "_law_mixed" = some (.ref A.a_l_mixed)
  k_l_mixed : PySem.W.keepIn K (.ref A.a_l_mixed) = true
  b_l_mixed : L2.Binds K A.d_l_mixed ["_law_cell", "_law_k"] []
  F_l_mixed : Fun K "_law_mixed" "_law_mixed" s_l_mixed A.a_l_mixed A.d_l_mixed
  g_l_number : mg "_law_number" = some (.ref A.a_l_number)
  k_l_number : PySem.W.keepIn K (.ref A.a_l_number) = true
  b_l_number : L2.Binds K A.d_l_number ["_law_script", "_law_k"] []
  F_l_number : Fun K "_law_number" "_law_number" s_l_number A.a_l_number A.d_l_number
  g_l_order : mg "_law_order" = some (.ref A.a_l_order)
  k_l_order : PySem.W.keepIn K (.ref A.a_l_order) = true
  b_l_order : L2.Binds K A.d_l_order ["_law_many", "_law_number_here"] []
  F_l_order : Fun K "_law_order" "_law_order" s_l_order A.a_l_order A.d_l_order
  g_l_least : mg "_law_least" = some (.ref A.a_l_least)
  k_l_least : PySem.W.keepIn K (.ref A.a_l_least) = true
  b_l_least : L2.Binds K A.d_l_least ["_law_told_here"] []
  F_l_least : Fun K "_law_least" "_law_least" s_l_least A.a_l_least A.d_l_least
  g_l_told : mg "_law_told" = some (.ref A.a_l_told)
  k_l_told : PySem.W.keepIn K (.ref A.a_l_told) = true
  b_l_told : L2.Binds K A.d_l_told ["_law_nodes", "_law_at", "_law_names"] []
  F_l_told : Fun K "_law_told" "_law_told" s_l_told A.a_l_told A.d_l_told
  g_l_tree : mg "_law_tree" = some (.ref A.a_l_tree)
  k_l_tree : PySem.W.keepIn K (.ref A.a_l_tree) = true
  b_l_tree : L2.Binds K A.d_l_tree ["_law_script", "_law_most", "_law_names"] []
  F_l_tree : Fun K "_law_tree" "_law_tree" s_l_tree A.a_l_tree A.d_l_tree
  g_l_points : mg "_law_points" = some (.ref A.a_l_points)
  k_l_points : PySem.W.keepIn K (.ref A.a_l_points) = true
  b_l_points : L2.Binds K A.d_l_points ["_law_told_here"] []
  F_l_points : Fun K "_law_points" "_law_points" s_l_points A.a_l_points A.d_l_points
  g_l_ties : mg "_law_ties" = some (.ref A.a_l_ties)
  k_l_ties : PySem.W.keepIn K (.ref A.a_l_ties) = true
  b_l_ties : L2.Binds K A.d_l_ties ["_law_told_here"] []
  F_l_ties : Fun K "_law_ties" "_law_ties" s_l_ties A.a_l_ties A.d_l_ties
  g_l_is_crowd : mg "_law_is_crowd" = some (.ref A.a_l_is_crowd)
  k_l_is_crowd : PySem.W.keepIn K (.ref A.a_l_is_crowd) = true
  b_l_is_crowd : L2.Binds K A.d_l_is_crowd ["_law_found", "_law_points_here", "_law_ties_here", "_law_is_tied"] []
  F_l_is_crowd : Fun K "_law_is_crowd" "_law_is_crowd" s_l_is_crowd A.a_l_is_crowd A.d_l_is_crowd
  g_l_shaded : mg "_law_shaded" = some (.ref A.a_l_shaded)
  k_l_shaded : PySem.W.keepIn K (.ref A.a_l_shaded) = true
  b_l_shaded : L2.Binds K A.d_l_shaded ["_law_found", "_law_points_here", "_law_ties_here"] []
  F_l_shaded : Fun K "_law_shaded" "_law_shaded" s_l_shaded A.a_l_shaded A.d_l_shaded
  g_l_covered : mg "_law_covered" = some (.ref A.a_l_covered)
  k_l_covered : PySem.W.keepIn K (.ref A.a_l_covered) = true
  b_l_covered : L2.Binds K A.d_l_covered ["_law_found", "_law_points_here", "_law_ties_here"] []
  F_l_covered : Fun K "_law_covered" "_law_covered" s_l_covered A.a_l_covered A.d_l_covered
  g_l_right : mg "_law_right" = some (.ref A.a_l_right)
  k_l_right : PySem.W.keepIn K (.ref A.a_l_right) = true
  b_l_right : L2.Binds K A.d_l_right ["_law_told_here"] []
  F_l_right : Fun K "_law_right" "_law_right" s_l_right A.a_l_right A.d_l_right
  g_law : mg "law" = some (.ref A.a_law)
  k_law : PySem.W.keepIn K (.ref A.a_law) = true
  b_law : L2.Binds K A.d_law ["_law_script"] []
  F_law : Fun K "law" "law" s_law A.a_law A.d_law
  cl_Join : Cls K A.c_Join
  mk_Join : Mk K A.c_Join A.a_Join_init
  n_Join__parts : NoAttr K A.c_Join "_parts"
  n_Join__points : NoAttr K A.c_Join "_points"
  cl_Point : Cls K A.c_Point
  mk_Point : Mk K A.c_Point A.a_Point_init
  n_Point__number : NoAttr K A.c_Point "_number"
  cl_Side : Cls K A.c_Side
  mk_Side : Mk K A.c_Side A.a_Side_init
  n_Side__parts : NoAttr K A.c_Side "_parts"
  n_Side__points : NoAttr K A.c_Side "_points"
  gJoin : mg "Join" = some (.ref A.c_Join)
  gPoint : mg "Point" = some (.ref A.c_Point)
  gSide : mg "Side" = some (.ref A.c_Side)
  NotImplementedError : mg "NotImplementedError" = none
  ValueError : mg "ValueError" = none
  all : mg "all" = none
  bool : mg "bool" = none
  dict : mg "dict" = none
  enumerate : mg "enumerate" = none
  int : mg "int" = none
  isinstance : mg "isinstance" = none
  len : mg "len" = none
  list : mg "list" = none
  max : mg "max" = none
  min : mg "min" = none
  range : mg "range" = none
  repr : mg "repr" = none
  set : mg "set" = none
  sorted : mg "sorted" = none
  str : mg "str" = none
  tuple : mg "tuple" = none
  cMOST_POINTS : ∃ t, mg "MOST_POINTS" = some (.int (30) t)
  cSIDE : ∃ t, mg "SIDE" = some (.str "side" t)
  cJOIN : ∃ t, mg "JOIN" = some (.str "join" t)

end Jk

namespace Jk
open PySem L2 Evl
/-! ## numbers -/
def mixN (c k : Int) : Int := (c % 1000000007 + 7919 * k * k + 31 * k + 17) * 48271 % 2147483647
def mixed (c k : Int) : Int := mixN c k * (mixN c k % 65521 + 16807) % 2147483629 / 4
theorem mixed_nn (c k : Int) : 0 ≤ mixed c k := by unfold mixed; omega
theorem mixed_lt (c k : Int) : mixed c k < 600000000 := by unfold mixed; omega
def spMixed : Sp := fun vs H Q _ => ∃ (c k : Int), vs = [.int c, .int k] ∧ (0 ≤ k ∧ k ≤ 100000) ∧ Q (.int (mixed c k)) H
def cellAt (ns : List Int) (k : Int) : Int := if ns.length = 0 then 0 else ns.getD (k % (ns.length : Int)).toNat 0
def num (ns : List Int) (k : Int) : Int := mixed (cellAt ns k) k
theorem cell_ix {ns : List Int} {k : Int} (h : 0 < ns.length) (hk : 0 ≤ k) : (ns.map V.int)[(k % (ns.length : Int)).toNat]? = some (.int (cellAt ns k)) := by
  have h1 : (k % (ns.length : Int)).toNat < ns.length := by
    have a := Int.emod_lt_of_pos k (show (0 : Int) < ns.length by omega)
    have b := Int.emod_nonneg k (show (ns.length : Int) ≠ 0 by omega)
    omega
  unfold cellAt
  rw [if_neg (by omega), List.getElem?_map, List.getD_eq_getElem?_getD, List.getElem?_eq_getElem h1]
  rfl
def spNumber (K : PySem.W.Frag) : Sp := fun vs H Q _ => ∃ (a : Addr) (ns : List Int) (k : Int), vs = [.ref a, .int k] ∧ SqL K H a (ns.map V.int) ∧ (0 ≤ k ∧ k ≤ 100000) ∧ Q (.int (num ns k)) H
section
variable {P : Program} {w : World} {K : PySem.W.Frag} {mg : Str → Option Value} {base : Heap} {A : Adr}
theorem ok_l_mixed (T : Txt K mg A) : FnOk P w K mg base CX0 1 A.a_l_mixed A.d_l_mixed ["_law_cell", "_law_k"] spMixed := by
  refine T.F_l_mixed.ok sc_l_mixed (fun vs H Q E h => ?_) (fun cdv C outer s H vs Q E hr h => ?_)
  · obtain ⟨c, k, rfl, _⟩ := h
    rfl
  · obtain ⟨c, k, rfl, hk, q⟩ := h
    refine ⟨_, (pss_cons (ps_set (i := 2) sc_l_mixed.nd rfl (Or.inl rfl) (pe_op op_mod (pe_op op_mul (pe_op op_add (pe_op op_add (pe_op op_add (pe_op op_mod (pv 0) pe_int) (pe_op op_mul (pe_op op_mul pe_int (pv 1)) (pv 1))) (pe_op op_mul pe_int (pv 1))) pe_int) pe_int) pe_int))
  (pss_one (ps_ret (pe_op op_fdiv (pe_op op_mod (pe_op op_mul (pv 2) (pe_op op_add (pe_op op_mod (pv 2) pe_int) pe_int)) pe_int) pe_int)))), ?_⟩
    have e : mixN c k = (c % 1000000007 + 7919 * k * k + 31 * k + 17) * 48271 % 2147483647 := rfl
    simp [L2.start, CMul, CDiv, ← e]
    refine ⟨?_, ?_, q⟩ <;> omega
theorem ok_l_number (T : Txt K mg A) : FnOk P w K mg base CX0 2 A.a_l_number A.d_l_number ["_law_script", "_law_k"] (spNumber K) := by
  refine T.F_l_number.ok sc_l_number (fun vs H Q E h => ?_) (fun cdv C outer s H vs Q E hr h => ?_)
  · obtain ⟨a, ns, k, rfl, _⟩ := h
    rfl
  · obtain ⟨a, ns, k, rfl, hS, hk, q⟩ := h
    refine ⟨_, (pss_cons (ps_set (i := 2) sc_l_number.nd rfl (Or.inl rfl) pe_int)
  (pss_cons (ps_if (pt_cmpR op_gt (pe_callB call_len_seq (by rfl) T.len (by decide +kernel) (pa_cons (pv 0) pa_nil)) pe_int (nomark _))
    (pss_one (ps_set (i := 2) sc_l_number.nd rfl (Or.inl rfl) (pe_ix ix_list (pv 0) (pe_op op_mod (pv 1) (pe_callB call_len_seq (by rfl) T.len (by decide +kernel) (pa_cons (pv 0) pa_nil))) (fun _ _ => rfl))))
    pss_nil)
  (pss_one (ps_ret (pe_call (ok_l_mixed T) (hr.mono (by decide)) rfl T.g_l_mixed T.k_l_mixed T.b_l_mixed .nil pass0 (pa_cons (pv 2) (pa_cons (pv 1) pa_nil))))))), ?_⟩
    simp [L2.start]
    refine ⟨_, .inl hS, ?_⟩
    simp [spMixed, hk, and_assoc]
    by_cases hn : ns = []
    · subst hn
      exact .inl ⟨rfl, q⟩
    · have h0 : 0 < ns.length := by cases ns with | nil => exact absurd rfl hn | cons _ _ => simp
      refine .inr ⟨h0, _, .inl hS, by simpa using h0, a, _, _, _, rfl, rfl, hS, at_toNat ?_ ?_, _, rfl, q⟩
      · exact Int.emod_nonneg k (by rw [List.length_map]; omega)
      · rw [List.length_map]
        exact cell_ix h0 hk.1
end
end Jk

namespace Jk
open PySem L2 Evl
/-! ## things -/
inductive Thing (H : Hp) : V → Prop where
  | non : Thing H .non
  | bl (b : Bool) : Thing H (.bl b)
  | int (i : Int) : Thing H (.int i)
  | str (s : Str) : Thing H (.str s)
  | lst {a : Addr} {xs : List V} (h : H a = some (.lst xs)) : Thing H (.ref a)
  | tup {a : Addr} {xs : List V} (h : H a = some (.tup xs)) : Thing H (.ref a)
  | dK {a : Addr} {xs : List (Key × V)} (h : H a = some (.dK xs)) : Thing H (.ref a)
theorem Thing.up {H H' : Hp} {x : V} (t : Thing H x) (e : Ex H H') : Thing H' x := by
  cases t with
  | non => exact .non
  | bl b => exact .bl b
  | int i => exact .int i
  | str s => exact .str s
  | lst h => exact .lst (e _ _ h)
  | tup h => exact .tup (e _ _ h)
  | dK h => exact .dK (e _ _ h)
def inR (x : V) (lo hi : Int) : Bool := match x with
  | .int i => decide (lo ≤ i ∧ i ≤ hi)
  | _ => false
def spWhole : Sp := fun vs H Q _ => ∃ (x : V) (lo hi : Int), vs = [x, .int lo, .int hi] ∧ Thing H x ∧ Q (.bl (inR x lo hi)) H
section
variable {P : Program} {w : World} {K : PySem.W.Frag} {mg : Str → Option Value} {base : Heap} {A : Adr}
theorem ok_whole_within (T : Txt K mg A) : FnOk P w K mg base CX0 1 A.a_whole_within A.d_whole_within ["number", "least", "most"] spWhole := by
  refine T.F_whole_within.ok sc_whole_within (fun vs H Q E h => ?_) (fun cdv C outer s H vs Q E hr h => ?_)
  · obtain ⟨x, lo, hi, rfl, _⟩ := h
    rfl
  · obtain ⟨x, lo, hi, rfl, th, q⟩ := h
    refine ⟨_, (pss_cons (ps_if (PW.pt (pw_or (pt_not (pt_val (pe_callB call_isJ (by rfl) T.isinstance (by decide +kernel) (pa_cons (pv 0) (pa_cons (pe_bltn (v := .ty "int") (u := .type "int") (by rfl) T.int (by decide +kernel) rfl) pa_nil))))) (pw_or1 (pt_val (pe_callB call_isJ (by rfl) T.isinstance (by decide +kernel) (pa_cons (pv 0) (pa_cons (pe_bltn (v := .ty "bool") (u := .type "bool") (by rfl) T.bool (by decide +kernel) rfl) pa_nil)))))))
    (pss_one (ps_ret pe_bl))
    pss_nil)
  (pss_one (ps_ret (pe_chain op_le op_le (pv 1) (pv 0) (pv 2))))), ?_⟩
    cases th with
    | non => simpa [L2.start, inR] using q
    | bl b => simpa [L2.start, inR] using q
    | int i =>
      simp [L2.start]
      by_cases h1 : lo ≤ i
      · refine .inr ⟨h1, ?_⟩
        simpa [inR, h1] using q
      · refine .inl ⟨by omega, ?_⟩
        simpa [inR, h1] using q
    | str s => simpa [L2.start, inR] using q
    | lst h => simpa [L2.start, inR, tyN_lst h] using q
    | tup h => simpa [L2.start, inR, tyN_tup h] using q
    | dK h => simpa [L2.start, inR, tyN_dK h] using q
end
end Jk

namespace Jk
open PySem L2 Evl
/-- all but what stands at M is as it was, and nothing is forgotten -/
structure But (M : List Addr) (H H' : Hp) : Prop where
  kp : ∀ b o, H b = some o → b ∉ M → H' b = some o
  dm : ∀ b, H' b = none → H b = none
theorem But.of_ex {M : List Addr} {H H' : Hp} (e : Ex H H') : But M H H' := ⟨fun b o h _ => e b o h, fun _ h => fresh_back e h⟩
theorem But.trans {M : List Addr} {H H1 H2 : Hp} (a : But M H H1) (b : But M H1 H2) : But M H H2 := ⟨fun c o h n => b.kp c o (a.kp c o h n) n, fun c h => a.dm c (b.dm c h)⟩
theorem But.mono {M N : List Addr} {H H' : Hp} (a : But M H H') (s : ∀ x ∈ M, x ∈ N) : But N H H' := ⟨fun c o h n => a.kp c o h fun z => n (s c z), a.dm⟩
theorem But.upd {M : List Addr} {H : Hp} {d : Addr} {o : HO} (h : d ∈ M) : But M H (upd H d o) := ⟨fun b u e n => by
  rw [upd_ne (show b ≠ d from fun z => n (by rw [z]; exact h))]
  exact e, fun b z => by
  by_cases q : b = d
  · subst q; rw [upd_same] at z; cases z
  · rw [upd_ne q] at z; exact z⟩
theorem But.updT {M : List Addr} {H H' : Hp} {d : Addr} {o : HO} (a : But M H H') (h : d ∈ M) : But M H (L2.upd H' d o) := a.trans (But.upd h)
def CompI (D : Addr) (H1 : Hp) (R : Nat → List V → Hp → Prop) (i : Nat) (H : Hp) : Prop := Ex H1 H ∧ ∃ acc, H D = some (.lst acc) ∧ acc.length ≤ 100000 ∧ R i acc H
theorem CompI.push {D : Addr} {H1 H4 : Hp} {R : Nat → List V → Hp → Prop} {i : Nat} {y : V} {acc : List V} (hD : H1 D = none) (e : Ex H1 H4) (ha : H4 D = some (.lst acc)) (hl : acc.length < 100000) (r : R (i + 1) (acc ++ [y]) (upd H4 D (.lst (acc ++ [y])))) :
    ∃ acc, H4 D = some (.lst acc) ∧ acc.length < sizeLine ∧ CompI D H1 R (i + 1) (upd H4 D (.lst (acc ++ [y]))) :=
  ⟨acc, ha, lt_line (by omega), Ex.mut e hD, _, upd_same, by rw [List.length_append]; exact hl, r⟩
end Jk

namespace Jk
open PySem L2 Evl
theorem erase_map {α β : Type} (f : α → β) : ∀ (l : List α) (i : Nat), (l.map f).eraseIdx i = (l.eraseIdx i).map f
  | [], i => by simp
  | a :: l, 0 => rfl
  | a :: l, i + 1 => by
    show f a :: (l.map f).eraseIdx i = f a :: (l.eraseIdx i).map f
    rw [erase_map f l i]
def rngI (n : Nat) : List Int := (List.range n).map fun (i : Nat) => (i : Int)
theorem rng_nd (n : Nat) : (rngI n).Nodup := by
  unfold rngI List.Nodup
  rw [List.pairwise_map]
  exact List.pairwise_lt_range.imp fun h => by omega
theorem rng_in {n : Nat} {z : Int} : z ∈ rngI n ↔ 0 ≤ z ∧ z < n := by
  unfold rngI
  rw [List.mem_map]
  constructor
  · rintro ⟨i, hi, rfl⟩
    have := List.mem_range.mp hi
    omega
  · intro h
    exact ⟨z.toNat, List.mem_range.mpr (by omega), by omega⟩
def spOrder : Sp := fun vs H Q _ => ∃ (n : Nat) (c : Int), vs = [.int n, .int c] ∧ n ≤ 1000 ∧ ∀ ns q H', ns.Perm (rngI n) → H q = none → Ex H H' → LsI H' q ns → Q (.ref q) H'
noncomputable def depV (H : Hp) (v : V) : Nat := open Classical in if h : ∃ u, ToldAt H v u then h.choose.dep else 0
theorem depV_at {H : Hp} {v : V} {u : Tr} (h : ToldAt H v u) : depV H v = u.dep := by
  have e : ∃ u, ToldAt H v u := ⟨u, h⟩
  unfold depV
  rw [dif_pos e, told_uniq _ _ v e.choose_spec h]
def spLeast : Sp := fun vs H Q _ => ∃ (v : V) (t : Tr), vs = [v] ∧ ToldAt H v t ∧ t.form ∧ Q (.int t.least) H
section
variable {P : Program} {w : World} {K : PySem.W.Frag} {mg : Str → Option Value} {base : Heap} {A : Adr}
theorem ok_l_order (T : Txt K mg A) : FnOk P w K mg base CX0 2 A.a_l_order A.d_l_order ["_law_many", "_law_number_here"] spOrder := by
  refine T.F_l_order.ok sc_l_order (fun vs H Q E h => ?_) (fun cdv C outer s H vs Q E hr h => ?_)
  · obtain ⟨n, c, rfl, _⟩ := h
    rfl
  · obtain ⟨n, c, rfl, hn, k⟩ := h
    refine ⟨_, (pss_cons (ps_set (i := 2) sc_l_order.nd rfl (Or.inl rfl) (pe_lstR rfl (by rfl) T.list (by rfl) T.range (pv 0)))
  (pss_cons (ps_set (i := 3) sc_l_order.nd rfl (Or.inl rfl) (pe_lstJ pa_nil))
  (pss_cons (ps_for PassesOwn.never rfl (pi_range1 rfl T.range (pa_cons (pv 0) pa_nil)) (pg_name (i := 4) sc_l_order.nd rfl (.inl rfl))
    (pss_cons (ps_expr (pe_bmL PySem.F.slot_list_append PySem.F.type_list_append mt_append (pv 3) (pa_cons (pe_bmL PySem.F.slot_list_pop PySem.F.type_list_pop mt_popA (pv 2) (pa_cons (pe_op op_mod (pv 1) (pe_callB call_lenJ (by rfl) T.len (by decide +kernel) (pa_cons (pv 2) pa_nil))) pa_nil)) pa_nil)))
      (pss_one (ps_set (i := 1) sc_l_order.nd rfl (Or.inl rfl) (pe_call (ok_l_mixed T) (hr.mono (by decide)) rfl T.g_l_mixed T.k_l_mixed T.b_l_mixed .nil pass0 (pa_cons (pv 1) (pa_cons (pv 4) pa_nil)))))))
  (pss_one (ps_ret (pv 3)))))), ?_⟩
    simp [L2.start, and_assoc]
    refine ⟨n, rfl, by omega, fun q H1 n1 e1 h1 D H2 n2 e2 h2 => ?_⟩
    refine ⟨_, rfl, n, rfl, by omega, by omega, for_range (n := n) (fun i σ H' => ∃ (b4 : Option V) (c' : Int) (xs ys : List Int), σ = [some (.int n), some (.int c'), some (.ref q), some (.ref D), b4] ∧ Ex H H' ∧ LsI H' q xs ∧ LsI H' D ys ∧ (ys ++ xs).Perm (rngI n) ∧ ys.length = i) ⟨none, c, rngI n, [], rfl, e1.trans e2, e2 _ _ h1, h2, List.Perm.refl _, rfl⟩ (fun i σ H' hi h => ?_) (fun σ H' h => ?_)⟩
    · obtain ⟨b4, c', xs, ys, rfl, e, hx, hy, hp, hl⟩ := h
      have hlen : ys.length + xs.length = n := by
        have z := hp.length_eq
        unfold rngI at z
        simpa using z
      have h0 : 0 < xs.length := by omega
      have hx' : H' q = some (.lst (xs.map V.int)) := hx
      have hy' : H' D = some (.lst (ys.map V.int)) := hy
      have qD : q ≠ D := ne_of_none h1 n2
      have m0 := Int.emod_nonneg c' (show (xs.length : Int) ≠ 0 by omega)
      have m1 := Int.emod_lt_of_pos c' (show (0 : Int) < xs.length by omega)
      have hj : (c' % (xs.length : Int)).toNat < xs.length := by omega
      have ex : xs[(c' % (xs.length : Int)).toNat]? = some xs[(c' % (xs.length : Int)).toNat] := List.getElem?_eq_getElem hj
      have hlt : xs.length ≤ 100000 := by omega
      have hlt2 : ys.length < sizeLine := lt_line (by omega)
      have hD2 : ∀ o, (upd H' q o) D = some (.lst (ys.map V.int)) := fun o => by rw [upd_ne qD.symm]; exact hy'
      simp [and_assoc, hx', hy', ex, h0, m0, hlt, hlt2, hD2, spMixed]
      refine ⟨by omega, ?_, xs.eraseIdx (c' % (xs.length : Int)).toNat, ?_, ys ++ [xs[(c' % (xs.length : Int)).toNat]], ?_, ?_, by simp [hl]⟩
      · have nq : H q = none := n1
        have nD : H D = none := fresh_back e1 n2
        refine fun b o hb => ?_
        rw [upd_ne (ne_of_none hb nD), upd_ne (ne_of_none hb nq)]
        exact e b o hb
      · unfold LsI
        rw [upd_ne qD, upd_same, erase_map]
      · unfold LsI
        rw [upd_same]; simp
      · rw [List.append_assoc]
        exact (List.Perm.append_left ys (erase_perm xs _ _ ex)).trans hp
    · obtain ⟨b4, c', xs, ys, rfl, e, hx, hy, hp, hl⟩ := h
      have z := hp.length_eq
      unfold rngI at z
      simp at z
      have x0 : xs = [] := List.length_eq_zero_iff.mp (by omega)
      subst x0
      rw [List.append_nil] at hp
      exact ⟨_, rfl, k ys D H' hp (fresh_back e1 n2) e hy⟩
theorem ok_l_least (T : Txt K mg A) : FnOk P w K mg base CX0 1 A.a_l_least A.d_l_least ["_law_told_here"] spLeast := by
  refine T.F_l_least.ok sc_l_least (fun vs H Q E h => ?_) (fun cdv C outer s H vs Q E hr h => ?_)
  · obtain ⟨v, t, rfl, _⟩ := h
    rfl
  · obtain ⟨v, t, rfl, hv, hf, k⟩ := h
    refine ⟨_, (pss_cons (ps_while PassesOwn.never (pt_val (pe_callB call_isJ (by rfl) T.isinstance (by decide +kernel) (pa_cons (pv 0) (pa_cons (pe_bltn (v := .ty "tuple") (u := .type "tuple") (by rfl) T.tuple (by decide +kernel) rfl) pa_nil))))
    (pss_one (ps_set (i := 0) sc_l_least.nd rfl (Or.inl rfl) (pe_ix ix_tupJ (pe_ix ix_tupJ (pv 0) pe_int (fun _ _ => rfl)) pe_int (fun _ _ => rfl)))))
  (pss_one (ps_ret (pv 0)))), ?_⟩
    refine while_by (fun σ H' => H' = H ∧ ∃ v u, σ = [some v] ∧ ToldAt H v u ∧ u.form ∧ u.least = t.least) (fun σ H' => match σ with | [some v] => depV H v | _ => 0) ⟨rfl, v, t, rfl, hv, hf, rfl⟩ (fun σ H' h => ?_) (fun σ H1 Q1 Q2 m h => ?_)
    rotate_left
    · simp only [j_B, j_cb, j_cons, j_var, j_c, j_nil, j_is] at h ⊢
      obtain ⟨v, h1, t, b, h2, h3, c, e, q⟩ := h
      exact ⟨v, h1, t, b, h2, h3, c, e, m _ _ q⟩
    obtain ⟨rfl, v, u, rfl, h1, h2, h3⟩ := h
    cases u with
    | pt n =>
      have e : v = .int n := by rw [ToldAt] at h1; exact h1
      subst e
      have e3 : n = t.least := by rw [← h3]; rw [Tr.least]
      simp
      rw [e3]; exact k
    | nd j ts =>
      have hd := depV_at h1
      rw [ToldAt] at h1
      obtain ⟨a, b, vs, rfl, g1, g2, g3⟩ := h1
      rw [Tr.form] at h2
      cases ts with
      | nil => simp at h2
      | cons t0 us =>
        cases vs with
        | nil => simp [ToldL] at g3
        | cons v0 vs =>
          rw [ToldL] at g3
          have f0 := (formL_iff.mp h2.2.2 t0 (by simp)).1
          simp [tyN_tup g1, g1, g2]
          refine ⟨⟨t0, g3.1, f0, ?_⟩, ?_⟩
          · rw [← h3]; rw [Tr.least, leastL]
          · rw [hd, depV_at g3.1]
            rw [Tr.dep, depL]
            omega
end
end Jk

namespace Jk
open PySem L2 Evl
def NodeAt (H : Hp) (a : Addr) : Nd → Prop
  | .leaf k => H a = some (.lst [.str "", .int (k : Int)])
  | .inner j cs => ∃ c, H a = some (.lst [.str (wdS j), .ref c]) ∧ H c = some (.lst (cs.map fun (x : Nat) => V.int x))
def NodesAt (H : Hp) (nl : Addr) (ns : List Nd) : Prop := ∃ as : List Addr, H nl = some (.lst (as.map V.ref)) ∧ as.length = ns.length ∧ ∀ (i : Nat) (a : Addr) (n : Nd), as[i]? = some a → ns[i]? = some n → NodeAt H a n
theorem NodeAt.up {H H' : Hp} {a : Addr} {n : Nd} (h : NodeAt H a n) (e : Ex H H') : NodeAt H' a n := by
  cases n with
  | leaf k => exact e _ _ h
  | inner j cs => obtain ⟨c, h1, h2⟩ := h; exact ⟨c, e _ _ h1, e _ _ h2⟩
theorem NodesAt.up {H H' : Hp} {nl : Addr} {ns : List Nd} (h : NodesAt H nl ns) (e : Ex H H') : NodesAt H' nl ns := by
  obtain ⟨as, h1, h2, h3⟩ := h
  exact ⟨as, e _ _ h1, h2, fun i a n x y => (h3 i a n x y).up e⟩
theorem NodesAt.at {H : Hp} {nl : Addr} {ns : List Nd} (h : NodesAt H nl ns) {i : Nat} {n : Nd} (e : ns[i]? = some n) : ∃ xs a, H nl = some (.lst xs) ∧ xs[i]? = some (.ref a) ∧ NodeAt H a n := by
  obtain ⟨as, h1, h2, h3⟩ := h
  have hi : i < as.length := by rw [h2]; exact lt_of_get e
  exact ⟨_, as[i], h1, by rw [List.getElem?_map, List.getElem?_eq_getElem hi]; rfl, h3 i _ n (List.getElem?_eq_getElem hi) e⟩
def Tall (ns : List Nd) (names : List Int) : Nat → Nat → Prop
  | 0, _ => False
  | d + 1, i => (∃ k, ns[i]? = some (Nd.leaf k) ∧ k < names.length) ∨ ∃ j cs, ns[i]? = some (Nd.inner j cs) ∧ ∀ c ∈ cs, Tall ns names d c
def spTold (d : Nat) : Sp := fun vs H Q _ => ∃ (nl ml : Addr) (at' : Nat) (ns : List Nd) (ab : List (Option Nat)) (lv dp : List Nat) (names : List Int), vs = [.ref nl, .int (at' : Int), .ref ml] ∧ NodesAt H nl ns ∧ LsI H ml names ∧ Grown ns ab lv dp ∧ names.Nodup ∧ lv.length ≤ 100 ∧ Tall ns names d at' ∧
  ∀ v t H', Ex H H' → ToldAt H' v t → Built ns names d at' t → Q v H'
theorem wd_ne (j : Bool) : ¬ wdS j = ("" : Str) := by cases j <;> exact (by decide +kernel)
theorem toldL_pairs {H : Hp} : ∀ {l : List (V × Tr)}, (∀ p ∈ l, ToldAt H p.1 p.2) → ToldL H (l.map (·.1)) (l.map (·.2))
  | [], _ => by simp [ToldL]
  | p :: l, h => by
    rw [List.map_cons, List.map_cons, ToldL]
    exact ⟨h p (by simp), toldL_pairs fun q hq => h q (by simp [hq])⟩
section
variable {P : Program} {w : World} {K : PySem.W.Frag} {mg : Str → Option Value} {base : Heap} {A : Adr}
theorem none_spTold {f : Addr} {fd : FuncData} {ps : List Str} {k : Nat} : FnOk P w K mg base CX0 k f fd ps (spTold 0) :=
  ⟨fun vs H Q E ⟨_, _, _, _, _, _, _, _, _, _, _, _, _, _, h, _⟩ => False.elim h, fun A outer s H args us vs Q E _ _ _ _ ⟨_, _, _, _, _, _, _, _, _, _, _, _, _, _, h, _⟩ => False.elim h⟩
theorem step_l_told (T : Txt K mg A) {d : Nat} (ih : FnOk P w K mg base CX0 (d + 3) A.a_l_told A.d_l_told ["_law_nodes", "_law_at", "_law_names"] (spTold d)) : FnOk P w K mg base CX0 (d + 4) A.a_l_told A.d_l_told ["_law_nodes", "_law_at", "_law_names"] (spTold (d + 1)) := by
  refine T.F_l_told.ok sc_l_told (fun vs H Q E h => ?_) (fun cdv C outer s H vs Q E hr h => ?_)
  · obtain ⟨nl, ml, at', ns, ab, lv, dp, names, rfl, _⟩ := h
    rfl
  · obtain ⟨nl, ml, at', ns, ab, lv, dp, names, rfl, hN, hM, G, nd, few, tall, k⟩ := h
    have hM' : H ml = some (.lst (names.map V.int)) := hM
    refine ⟨_, (pss_cons (ps_set (i := 3) sc_l_told.nd rfl (Or.inl rfl) (pe_ix ix_listJ (pv 0) (pv 1) (fun _ _ => rfl)))
  (pss_cons (ps_if (pt_cmpR op_eq (pe_ix ix_listJ (pv 3) pe_int (fun _ _ => rfl)) pe_str (nomark _))
    (pss_one (ps_ret (pe_ix ix_listJ (pv 2) (pe_ix ix_listJ (pv 3) pe_int (fun _ _ => rfl)) (fun _ _ => rfl))))
    pss_nil)
  (pss_cons (ps_setLc (i := 4) (own := [("_law_piece", 5)]) rfl sc_l_told.nd rfl rfl (sw_true rfl rfl rfl (by decide +kernel)) (pi_list (pe_ix ix_listJ (pv 3) pe_int (fun _ _ => rfl))) (blkOk_by (own := [("_law_piece", 5)]) (N := ["_law_nodes", "_law_at", "_law_names", "_law_node", "_law_parts", "_law_piece"]) (sc := defScope s_l_told) (by decide +kernel)) (fun _ _ _ _ _ => by exact (pg_name (i := 5) sc_l_told.nd rfl (Or.inl rfl))) (fun _ _ _ _ _ => by exact pts_nil) (fun _ _ _ _ _ => by exact (pe_call ih (hr.mono (by omega)) rfl T.g_l_told T.k_l_told T.b_l_told .nil pass0 (pa_cons (pv 0) (pa_cons (pv 5) (pa_cons (pv 2) pa_nil))))))
  (pss_one (ps_ret (pe_tupJ (pa_cons (pe_ix ix_listJ (pv 3) pe_int (fun _ _ => rfl)) (pa_cons (pe_callTy call_tupJ (by rfl) T.tuple (by decide +kernel) (pa_cons (pe_sortKF (ok_l_least T) (hr.mono (by omega)) T.b_l_least (by rfl) T.sorted (by rfl) T.g_l_least (pv 4)) pa_nil)) pa_nil)))))))), ?_⟩
    unfold Tall at tall
    rcases tall with ⟨kk, h1, h2⟩ | ⟨j, cs, h1, h2⟩
    · obtain ⟨xs, a, x1, x2, x3⟩ := hN.at h1
      have x3 : H a = some (.lst [.str "", .int (kk : Int)]) := x3
      have hn : names[kk]? = some names[kk] := List.getElem?_eq_getElem h2
      have hn' : (names.map V.int)[kk]? = some (.int names[kk]) := by rw [List.getElem?_map, hn]; rfl
      simp [L2.start, and_assoc, x1, x2, x3, hM', hn']
      exact k _ (.pt names[kk]) H (Ex.refl _) (by rw [ToldAt]) (by unfold Built; exact .inl ⟨kk, _, h1, hn, rfl⟩)
    · obtain ⟨xs, a, x1, x2, x3⟩ := hN.at h1
      obtain ⟨c, x3, x4⟩ := x3
      simp [L2.start, and_assoc, x1, x2, x3]
      refine .inl ⟨wd_ne j, ?_⟩
      refine ⟨_, rfl, a, _, 1, _, rfl, rfl, x3, by decide, rfl, c, rfl, ⟨_, .inl (.inl x4)⟩, fun D hD => lc_list (xs := cs.map fun (x : Nat) => V.int x) (CompI D H fun i acc H2 => ∃ ts : List Tr, ToldL H2 acc ts ∧ ts.length = i ∧ ∀ (m cc : Nat) (u : Tr), cs[m]? = some cc → ts[m]? = some u → Built ns names d cc u) ⟨Ex.new hD, [], upd_same, by simp, [], by simp [ToldL], rfl, fun m cc u _ h => by simp at h⟩ (fun i H2 _ cc => .inl (.inl (cc.1 _ _ x4))) (fun i x H2 hx cc => ?_) (fun H2 cc => ?_)⟩
      · obtain ⟨e, acc, g1, g2, ts, g3, g4, g5⟩ := cc
        rw [List.getElem?_map] at hx
        cases hci : cs[i]? with
        | none => rw [hci] at hx; cases hx
        | some ci =>
          rw [hci] at hx
          cases hx
          obtain ⟨gr1, gr2, gr3⟩ := G.inn _ j cs h1
          have cl : cs.length ≤ 1000 := by
            have hsub : cs.length ≤ ns.length := by
              have bound : ∀ x ∈ cs, x < ns.length := fun x hx => by
                have := lt_of_get (gr3 x hx).1
                rw [G.la] at this
                exact this
              have z := nd_len (ns := cs.map fun (x : Nat) => (x : Int)) (m := ns.length) (by
                unfold List.Nodup
                rw [List.pairwise_map]
                exact gr2.imp fun h e => h (by omega)) (fun n hn => by
                obtain ⟨x, hx, rfl⟩ := List.mem_map.mp hn
                have := bound x hx
                omega)
              simpa using z
            have := G.cnt
            have := G.la
            omega
          have il : i < cs.length := lt_of_get hci
          have al := g3.len
          simp [L2.start, wipe]
          refine ⟨nl, ml, ci, ns, ab, lv, dp, names, rfl, hN.up e, hM.up e, G, nd, few, h2 ci (List.mem_of_getElem? hci), fun v t H4 e4 ht hb => ?_⟩
          refine CompI.push hD (e.trans e4) (e4 _ _ g1) (by omega) ⟨ts ++ [t], ?_, by simp [g4], fun m cc u hm hu => ?_⟩
          · have z := (g3.up e4).snoc ht
            exact z.map (fun t' o q => by rw [upd_ne (ne_of q (e4 _ _ g1) (by simp))]; exact q)
          · rcases app_get hu with ⟨_, hu⟩ | ⟨hm', hu⟩
            · exact g5 m cc u hm hu
            · subst hu
              rw [g4] at hm'
              rw [hm', hci] at hm
              cases hm
              exact hb
      · obtain ⟨e, acc, g1, g2, ts, g3, g4, g5⟩ := cc
        rw [List.length_map] at g4
        have al := g3.len
        have each : ∀ (m : Nat) (u : Tr), ts[m]? = some u → u.form := fun m u hu => by
          have hm : m < cs.length := by rw [← g4]; exact lt_of_get hu
          exact (built_ok G nd d cs[m] u (g5 m _ u (List.getElem?_eq_getElem hm) hu)).1
        refine ⟨_, e _ _ x3, _, rfl, D, rfl, acc, g1, ts.map Tr.least, by simp [al], fun m x kk hx hk => ?_, fun zs D3 H3 hperm hsort n3 e3 h3 => ⟨_, h3, fun l H4 n4 e4 h4 p' H5 n5 e5 h5 => ?_⟩⟩
        · rw [List.getElem?_map] at hk
          cases hu : ts[m]? with
          | none => rw [hu] at hk; cases hk
          | some u =>
            rw [hu] at hk
            cases hk
            obtain ⟨u', hu', hat⟩ := g3.get hx
            rw [hu] at hu'
            cases hu'
            exact ⟨x, u, rfl, hat, each m u hu, rfl, rfl⟩
        · have hz : (acc.zip ts).map (fun q : V × Tr => (q.1, q.2.least)) = acc.zip (ts.map Tr.least) := by
            rw [List.zip_map_right]
            rfl
          obtain ⟨l', hl1, hl2⟩ := perm_lift (fun q : V × Tr => (q.1, q.2.least)) hperm _ hz
          have pairs : ∀ q ∈ l', ToldAt H2 q.1 q.2 := fun q hq => by
            obtain ⟨m, hm, em⟩ := List.mem_iff_getElem.mp (hl1.mem_iff.mp hq)
            have hq2 : (acc.zip ts)[m]? = some q := by rw [List.getElem?_eq_getElem hm, em]
            obtain ⟨y1, y2⟩ := List.getElem?_zip_eq_some.mp hq2
            obtain ⟨u', hu', hat⟩ := g3.get y1
            rw [y2] at hu'
            cases hu'
            exact hat
          have tl := toldL_pairs pairs
          have ef : zs.map (·.1) = l'.map (·.1) := by rw [← hl2, List.map_map]; rfl
          have up : (l'.map (·.2)).Perm ts := by
            have z := hl1.map (fun q : V × Tr => q.2)
            have y : (acc.zip ts).map Prod.snd = ts := List.map_snd_zip (by omega)
            exact z.trans (by rw [show (acc.zip ts).map (fun q : V × Tr => q.2) = (acc.zip ts).map Prod.snd from rfl, y])
          have us : (l'.map (·.2)).Pairwise (fun a b : Tr => a.least ≤ b.least) := by
            rw [← hl2, List.pairwise_map] at hsort
            rw [List.pairwise_map]
            exact hsort
          refine k (.ref p') (.nd j (l'.map (·.2))) H5 ((((e.trans e3).trans e4)).trans e5) ?_ ?_
          · rw [ToldAt]
            refine ⟨p', l, _, rfl, h5, e5 _ _ h4, ?_⟩
            rw [ef]
            exact tl.up ((e3.trans e4).trans e5)
          · unfold Built
            exact .inr ⟨j, cs, ts, _, h1, g4, g5, up, us, rfl⟩
theorem ok_l_told (T : Txt K mg A) : ∀ d : Nat, FnOk P w K mg base CX0 (d + 3) A.a_l_told A.d_l_told ["_law_nodes", "_law_at", "_law_names"] (spTold d)
  | 0 => none_spTold
  | d + 1 => step_l_told T (ok_l_told T d)
end
end Jk

namespace Jk
open PySem L2 Evl
theorem sql_up {K : PySem.W.Frag} {H H' : Hp} {a : Addr} {xs : List V} (h : SqL K H a xs) (e : Ex H H') : SqL K H' a xs := by
  rcases h with (h | ⟨o, h⟩) | h
  · exact .inl (.inl (e _ _ h))
  · exact .inl (.inr ⟨o, e _ _ h⟩)
  · exact .inr h
theorem ex_but {H0 H H' : Hp} {M : List Addr} (e : Ex H0 H) (b : But M H H') (n : ∀ m ∈ M, H0 m = none) : Ex H0 H' := fun x o h => b.kp x o (e x o h) fun z => by rw [n x z] at h; cases h
def abV : Option Nat → V
  | none => .non
  | some p => .int (p : Int)
/-- the nodes' own objects -/
structure Core (H0 H : Hp) (M : List Addr) (as : List Addr) (ci : Nat → Addr) (ns : List Nd) : Prop where
  ex : Ex H0 H
  la : as.length = ns.length
  lf : ∀ (i : Nat) (a : Addr) (k : Nat), as[i]? = some a → ns[i]? = some (Nd.leaf k) → H a = some (.lst [.str "", .int (k : Int)])
  inn : ∀ (i : Nat) (a : Addr) (j : Bool) (cs : List Nat), as[i]? = some a → ns[i]? = some (Nd.inner j cs) → H a = some (.lst [.str (wdS j), .ref (ci i)]) ∧ H (ci i) = some (.lst (cs.map fun (x : Nat) => V.int x)) ∧ H0 (ci i) = none ∧ ci i ∉ M
  sa : ∀ (i : Nat) (a : Addr), as[i]? = some a → a ∉ M
  sc : ∀ (i i2 : Nat) (a : Addr) (j : Bool) (cs : List Nat), as[i]? = some a → ns[i2]? = some (Nd.inner j cs) → a ≠ ci i2
  dis : ∀ (i i2 : Nat) (j j2 : Bool) (cs cs2 : List Nat), ns[i]? = some (Nd.inner j cs) → ns[i2]? = some (Nd.inner j2 cs2) → ci i = ci i2 → i = i2
theorem Core.keep {H0 H H' : Hp} {M as : List Addr} {ci : Nat → Addr} {ns : List Nd} (c : Core H0 H M as ci ns) (b : But M H H') (n : ∀ m ∈ M, H0 m = none) : Core H0 H' M as ci ns :=
  ⟨ex_but c.ex b n, c.la, fun i a k x y => b.kp _ _ (c.lf i a k x y) (c.sa i a x), fun i a j cs x y => let ⟨h1, h2, h3, h4⟩ := c.inn i a j cs x y; ⟨b.kp _ _ h1 (c.sa i a x), b.kp _ _ h2 h4, h3, h4⟩, c.sa, c.sc, c.dis⟩
theorem Core.up {H0 H H' : Hp} {M as : List Addr} {ci : Nat → Addr} {ns : List Nd} (c : Core H0 H M as ci ns) (e : Ex H H') : Core H0 H' M as ci ns :=
  ⟨c.ex.trans e, c.la, fun i a k x y => e _ _ (c.lf i a k x y), fun i a j cs x y => let ⟨h1, h2, h3, h4⟩ := c.inn i a j cs x y; ⟨e _ _ h1, e _ _ h2, h3, h4⟩, c.sa, c.sc, c.dis⟩
theorem Core.there {H0 H : Hp} {M as : List Addr} {ci : Nat → Addr} {ns : List Nd} (c : Core H0 H M as ci ns) {i : Nat} {a : Addr} (h : as[i]? = some a) : H a ≠ none := fun z => by
  have hi : i < ns.length := by rw [← c.la]; exact lt_of_get h
  cases e : ns[i] with
  | leaf k => have := c.lf i a k h (by rw [List.getElem?_eq_getElem hi, e]); rw [z] at this; cases this
  | inner j cs => have := (c.inn i a j cs h (by rw [List.getElem?_eq_getElem hi, e])).1; rw [z] at this; cases this
/-- a further leaf -/
theorem Core.leaf {H0 H : Hp} {M as : List Addr} {ci : Nat → Addr} {ns : List Nd} (c : Core H0 H M as ci ns) {a : Addr} {k : Nat} (ha : H a = some (.lst [.str "", .int (k : Int)])) (n1 : a ∉ M) (n2 : ∀ (i : Nat) (j : Bool) (cs : List Nat), ns[i]? = some (Nd.inner j cs) → a ≠ ci i) : Core H0 H M (as ++ [a]) ci (ns ++ [Nd.leaf k]) := by
  refine ⟨c.ex, by simp [c.la], fun i b m x y => ?_, fun i b j cs x y => ?_, fun i b x => ?_, fun i i2 b j cs x y => ?_, fun i i2 j j2 cs cs2 x y => ?_⟩
  · rcases app_get x with ⟨x1, x2⟩ | ⟨x1, x2⟩
    · rcases app_get y with ⟨_, y2⟩ | ⟨y1, _⟩
      · exact c.lf i b m x2 y2
      · rw [← c.la] at y1; omega
    · rcases app_get y with ⟨y1, _⟩ | ⟨_, y2⟩
      · rw [← c.la] at y1; omega
      · cases y2; rw [x2]; exact ha
  · rcases app_get y with ⟨y1, y2⟩ | ⟨_, y2⟩
    · rcases app_get x with ⟨_, x2⟩ | ⟨x1, _⟩
      · exact c.inn i b j cs x2 y2
      · rw [← c.la] at y1; omega
    · cases y2
  · rcases app_get x with ⟨_, x2⟩ | ⟨_, x2⟩
    · exact c.sa i b x2
    · rw [x2]; exact n1
  · rcases app_get y with ⟨_, y2⟩ | ⟨_, y2⟩
    · rcases app_get x with ⟨_, x2⟩ | ⟨_, x2⟩
      · exact c.sc i i2 b j cs x2 y2
      · rw [x2]; exact n2 i2 j cs y2
    · cases y2
  · rcases app_get x with ⟨_, x2⟩ | ⟨_, x2⟩
    · rcases app_get y with ⟨_, y2⟩ | ⟨_, y2⟩
      · exact c.dis i i2 j j2 cs cs2 x2 y2
      · cases y2
    · cases x2
/-- a further number in a node's list -/
theorem Core.more {H0 H : Hp} {M as : List Addr} {ci : Nat → Addr} {ns : List Nd} (c : Core H0 H M as ci ns) {p : Nat} {j : Bool} {cs : List Nat} (hp : ns[p]? = some (Nd.inner j cs)) (x : Nat) :
    Core H0 (upd H (ci p) (.lst ((cs ++ [x]).map fun (x : Nat) => V.int x))) M as ci (ns.set p (Nd.inner j (cs ++ [x]))) := by
  have pl := lt_of_get hp
  have hap : p < as.length := by rw [c.la]; exact pl
  obtain ⟨p1, p2, p3, p4⟩ := c.inn p as[p] j cs (List.getElem?_eq_getElem hap) hp
  have at' : ∀ i y, (ns.set p (Nd.inner j (cs ++ [x])))[i]? = some y → (i = p ∧ y = Nd.inner j (cs ++ [x])) ∨ (i ≠ p ∧ ns[i]? = some y) := fun i y h => by
    by_cases e : i = p
    · subst e
      rw [List.getElem?_set_self pl] at h
      cases h
      exact .inl ⟨rfl, rfl⟩
    · rw [List.getElem?_set_ne (Ne.symm e)] at h
      exact .inr ⟨e, h⟩
  have inner : ∀ i j2 cs2, (ns.set p (Nd.inner j (cs ++ [x])))[i]? = some (Nd.inner j2 cs2) → ∃ cs3, ns[i]? = some (Nd.inner j2 cs3) := fun i j2 cs2 h => by
    rcases at' i _ h with ⟨rfl, y⟩ | ⟨_, y⟩
    · cases y; exact ⟨cs, hp⟩
    · exact ⟨cs2, y⟩
  have bb : ∀ o, But [ci p] H (upd H (ci p) o) := fun o => But.upd (by simp)
  refine ⟨ex_but c.ex (bb _) (by simpa using p3), by simp [c.la], fun i a m h1 h2 => ?_, fun i a j2 cs2 h1 h2 => ?_, c.sa, fun i i2 a j2 cs2 h1 h2 => ?_, fun i i2 j1 j2 cs1 cs2 h1 h2 => ?_⟩
  · rcases at' i _ h2 with ⟨_, y⟩ | ⟨_, y⟩
    · cases y
    · rw [upd_ne (c.sc i p a j cs h1 hp)]
      exact c.lf i a m h1 y
  · rcases at' i _ h2 with ⟨rfl, y⟩ | ⟨ne, y⟩
    · cases y
      rw [List.getElem?_eq_getElem hap] at h1
      cases h1
      exact ⟨by rw [upd_ne (c.sc i i _ j cs (List.getElem?_eq_getElem hap) hp)]; exact p1, upd_same, p3, p4⟩
    · obtain ⟨q1, q2, q3, q4⟩ := c.inn i a j2 cs2 h1 y
      exact ⟨by rw [upd_ne (c.sc i p a j cs h1 hp)]; exact q1, by rw [upd_ne (fun z => ne (c.dis i p j2 j cs2 cs y hp z))]; exact q2, q3, q4⟩
  · obtain ⟨cs3, y⟩ := inner i2 j2 cs2 h2
    exact c.sc i i2 a j2 cs3 h1 y
  · obtain ⟨cs3, y1⟩ := inner i j1 cs1 h1
    obtain ⟨cs4, y2⟩ := inner i2 j2 cs2 h2
    exact c.dis i i2 j1 j2 cs3 cs4 y1 y2
/-- a leaf's place taken by a new node -/
theorem Core.turn {H0 H : Hp} {M as : List Addr} {ci : Nat → Addr} {ns : List Nd} (c : Core H0 H M as ci ns) {old k : Nat} (ho : ns[old]? = some (Nd.leaf k)) {a2 c2 : Addr} {j : Bool} {cs : List Nat} (ha : H a2 = some (.lst [.str (wdS j), .ref c2])) (hc : H c2 = some (.lst (cs.map fun (x : Nat) => V.int x))) (f0 : H0 c2 = none) (n1 : a2 ∉ M) (n2 : c2 ∉ M)
    (s1 : ∀ (i : Nat) (a : Addr), as[i]? = some a → a ≠ c2) (s2 : a2 ≠ c2) (s3 : ∀ (i : Nat) (j : Bool) (cs : List Nat), ns[i]? = some (Nd.inner j cs) → a2 ≠ ci i ∧ c2 ≠ ci i) :
    Core H0 H M (as.set old a2) (fun i => if i = old then c2 else ci i) (ns.set old (Nd.inner j cs)) := by
  have ol := lt_of_get ho
  have oal : old < as.length := by rw [c.la]; exact ol
  have at' : ∀ i y, (ns.set old (Nd.inner j cs))[i]? = some y → (i = old ∧ y = Nd.inner j cs) ∨ (i ≠ old ∧ ns[i]? = some y) := fun i y h => by
    by_cases e : i = old
    · subst e
      rw [List.getElem?_set_self ol] at h
      cases h
      exact .inl ⟨rfl, rfl⟩
    · rw [List.getElem?_set_ne (Ne.symm e)] at h
      exact .inr ⟨e, h⟩
  have aat : ∀ i y, (as.set old a2)[i]? = some y → (i = old ∧ y = a2) ∨ (i ≠ old ∧ as[i]? = some y) := fun i y h => by
    by_cases e : i = old
    · subst e
      rw [List.getElem?_set_self oal] at h
      cases h
      exact .inl ⟨rfl, rfl⟩
    · rw [List.getElem?_set_ne (Ne.symm e)] at h
      exact .inr ⟨e, h⟩
  refine ⟨c.ex, by simp [c.la], fun i a m h1 h2 => ?_, fun i a j2 cs2 h1 h2 => ?_, fun i a h1 => ?_, fun i i2 a j2 cs2 h1 h2 => ?_, fun i i2 j1 j2 cs1 cs2 h1 h2 h3 => ?_⟩
  · rcases at' i _ h2 with ⟨_, y⟩ | ⟨ne, y⟩
    · cases y
    · rcases aat i _ h1 with ⟨e, _⟩ | ⟨_, x⟩
      · exact absurd e ne
      · exact c.lf i a m x y
  · rcases at' i _ h2 with ⟨rfl, y⟩ | ⟨ne, y⟩
    · cases y
      rcases aat i _ h1 with ⟨_, x⟩ | ⟨ne, _⟩
      · rw [if_pos rfl, x]
        exact ⟨ha, hc, f0, n2⟩
      · exact absurd rfl ne
    · rcases aat i _ h1 with ⟨e, _⟩ | ⟨_, x⟩
      · exact absurd e ne
      · rw [if_neg ne]
        exact c.inn i a j2 cs2 x y
  · rcases aat i _ h1 with ⟨_, x⟩ | ⟨_, x⟩
    · rw [x]; exact n1
    · exact c.sa i a x
  · rcases at' i2 _ h2 with ⟨rfl, y⟩ | ⟨ne, y⟩
    · rw [if_pos rfl]
      rcases aat i _ h1 with ⟨_, x⟩ | ⟨_, x⟩
      · rw [x]; exact s2
      · exact s1 i a x
    · rw [if_neg ne]
      rcases aat i _ h1 with ⟨_, x⟩ | ⟨_, x⟩
      · rw [x]; exact (s3 i2 j2 cs2 y).1
      · exact c.sc i i2 a j2 cs2 x y
  · have h3 : (if i = old then c2 else ci i) = (if i2 = old then c2 else ci i2) := h3
    rcases at' i _ h1 with ⟨e1, y1⟩ | ⟨ne1, y1⟩
    · rcases at' i2 _ h2 with ⟨e2, _⟩ | ⟨ne2, y2⟩
      · rw [e1, e2]
      · rw [if_pos e1, if_neg ne2] at h3
        exact absurd h3 (s3 i2 j2 cs2 y2).2
    · rcases at' i2 _ h2 with ⟨e2, _⟩ | ⟨ne2, y2⟩
      · rw [if_neg ne1, if_pos e2] at h3
        exact absurd h3.symm (s3 i j1 cs1 y1).2
      · rw [if_neg ne1, if_neg ne2] at h3
        exact c.dis i i2 j1 j2 cs1 cs2 y1 y2 h3
theorem Core.nodes {H0 H : Hp} {M as : List Addr} {ci : Nat → Addr} {ns : List Nd} {nl : Addr} (c : Core H0 H M as ci ns) (h : H nl = some (.lst (as.map V.ref))) : NodesAt H nl ns := ⟨as, h, c.la, fun i a n x y => by
  cases n with
  | leaf k => exact c.lf i a k x y
  | inner j cs => obtain ⟨h1, h2, _⟩ := c.inn i a j cs x y; exact ⟨ci i, h1, h2⟩⟩
/-- nodes that grew are told -/
theorem tall_of {ns : List Nd} {ab : List (Option Nat)} {lv dp : List Nat} {names : List Int} (G : Grown ns ab lv dp) (hl : lv.length ≤ names.length) : ∀ (f i d : Nat), dp[i]? = some d → ns.length + 1 ≤ f + d + lv.length → Tall ns names f i
  | 0, i, d, h, hf => by
    have := G.dpb i d h
    omega
  | f + 1, i, d, h, hf => by
    unfold Tall
    have hi : i < ns.length := by rw [← G.ld]; exact lt_of_get h
    cases e : ns[i] with
    | leaf k =>
      have e' : ns[i]? = some (Nd.leaf k) := by rw [List.getElem?_eq_getElem hi, e]
      have := lt_of_get (G.fl i k e')
      exact .inl ⟨k, e', by omega⟩
    | inner j cs =>
      have e' : ns[i]? = some (Nd.inner j cs) := by rw [List.getElem?_eq_getElem hi, e]
      refine .inr ⟨j, cs, e', fun c hc => ?_⟩
      obtain ⟨_, ⟨d', h1, h2⟩, _⟩ := (G.inn i j cs e').2.2 c hc
      rw [h] at h1
      cases h1
      exact tall_of G hl f c (d + 1) h2 (by omega)
end Jk

namespace Jk
open PySem L2 Evl
/-- a tree in its form, its points among the names -/
def spTree (K : PySem.W.Frag) : Sp := fun vs H Q _ => ∃ (a ml : Addr) (sc names : List Int) (most : Int), vs = [.ref a, .int most, .ref ml] ∧ SqL K H a (sc.map V.int) ∧ LsI H ml names ∧ names.Nodup ∧ (1 ≤ most ∧ most ≤ 30) ∧ min (most - 1) (sc.length : Int) + 1 ≤ names.length ∧
  ∀ v t H', Ex H H' → ToldAt H' v t → t.form → t.pts.Nodup → t.pts.Perm (names.take (min (most - 1) (sc.length : Int) + 1).toNat) → Q v H'
structure GS (H0 H : Hp) (nl al ll : Addr) (m : Nat) : Prop where
  ex : ∃ (as : List Addr) (ci : Nat → Addr) (ns : List Nd) (ab : List (Option Nat)) (lv dp : List Nat), Core H0 H [nl, al, ll] as ci ns ∧ Grown ns ab lv dp ∧ lv.length = m + 1 ∧ H nl = some (.lst (as.map V.ref)) ∧ H al = some (.lst (ab.map abV)) ∧ H ll = some (.lst (lv.map fun (x : Nat) => V.int x))
section
variable {P : Program} {w : World} {K : PySem.W.Frag} {mg : Str → Option Value} {base : Heap} {A : Adr}
theorem ok_l_tree (T : Txt K mg A) : FnOk P w K mg base CX0 35 A.a_l_tree A.d_l_tree ["_law_script", "_law_most", "_law_names"] (spTree K) := by
  refine T.F_l_tree.ok sc_l_tree (fun vs H Q E h => ?_) (fun cdv C outer s H vs Q E hr h => ?_)
  · obtain ⟨a, ml, sc, names, most, rfl, _⟩ := h
    rfl
  · obtain ⟨a, ml, sc, names, most, rfl, hS, hM, nd, hm, hn, k⟩ := h
    refine ⟨_, (pss_cons (ps_set (i := 3) sc_l_tree.nd rfl (Or.inl rfl) (pe_lstJ (pa_cons (pe_lstJ (pa_cons pe_str (pa_cons pe_int pa_nil))) pa_nil)))
  (pss_cons (ps_set (i := 4) sc_l_tree.nd rfl (Or.inl rfl) (pe_lstJ (pa_cons pe_non pa_nil)))
  (pss_cons (ps_set (i := 5) sc_l_tree.nd rfl (Or.inl rfl) (pe_lstJ (pa_cons pe_int pa_nil)))
  (pss_cons (ps_for PassesOwn.never rfl (pi_range1 rfl T.range (pa_cons (pe_callB (call_min2 rfl) (by rfl) T.min (by decide +kernel) (pa_cons (pe_op op_sub (pv 1) pe_int) (pa_cons (pe_callB call_len_seq (by rfl) T.len (by decide +kernel) (pa_cons (pv 0) pa_nil)) pa_nil))) pa_nil)) (pg_name (i := 6) sc_l_tree.nd rfl (.inl rfl))
    (pss_cons (ps_set (i := 7) sc_l_tree.nd rfl (Or.inl rfl) (pe_call (ok_l_number T) (hr.mono (by decide)) rfl T.g_l_number T.k_l_number T.b_l_number .nil pass0 (pa_cons (pv 0) (pa_cons (pv 6) pa_nil))))
      (pss_cons (ps_set (i := 8) sc_l_tree.nd rfl (Or.inl rfl) (pe_ix ix_listJ (pv 5) (pe_op op_mod (pe_op op_fdiv (pv 7) pe_int) (pe_callB call_lenJ (by rfl) T.len (by decide +kernel) (pa_cons (pv 5) pa_nil))) (fun _ _ => rfl)))
      (pss_cons (ps_set (i := 9) sc_l_tree.nd rfl (Or.inl rfl) (pe_ix ix_listJ (pe_lstJ (pa_cons pe_str (pa_cons pe_str pa_nil))) (pe_op op_mod (pv 7) pe_int) (fun _ _ => rfl)))
      (pss_cons (ps_expr (pe_bmL PySem.F.slot_list_append PySem.F.type_list_append mt_append (pv 5) (pa_cons (pe_callB call_lenJ (by rfl) T.len (by decide +kernel) (pa_cons (pv 3) pa_nil)) pa_nil)))
      (pss_cons (ps_expr (pe_bmL PySem.F.slot_list_append PySem.F.type_list_append mt_append (pv 3) (pa_cons (pe_lstJ (pa_cons pe_str (pa_cons (pe_op op_sub (pe_callB call_lenJ (by rfl) T.len (by decide +kernel) (pa_cons (pv 5) pa_nil)) pe_int) pa_nil))) pa_nil)))
      (pss_cons (ps_if (PW.pt (pw_and (pt_cmpR op_notN (pe_ix ix_listJ (pv 4) (pv 8) (fun _ _ => rfl)) pe_non (nomark _)) (pw_and1 (pt_cmpR op_eq (pe_ix ix_listJ (pe_ix ix_listJ (pv 3) (pe_ix ix_listJ (pv 4) (pv 8) (fun _ _ => rfl)) (fun _ _ => rfl)) pe_int (fun _ _ => rfl)) (pv 9) (nomark _)))))
        (pss_cons (ps_expr (pe_bmL PySem.F.slot_list_append PySem.F.type_list_append mt_append (pe_ix ix_listJ (pe_ix ix_listJ (pv 3) (pe_ix ix_listJ (pv 4) (pv 8) (fun _ _ => rfl)) (fun _ _ => rfl)) pe_int (fun _ _ => rfl)) (pa_cons (pe_op op_sub (pe_callB call_lenJ (by rfl) T.len (by decide +kernel) (pa_cons (pv 3) pa_nil)) pe_int) pa_nil)))
          (pss_cons (ps_expr (pe_bmL PySem.F.slot_list_append PySem.F.type_list_append mt_append (pv 4) (pa_cons (pe_ix ix_listJ (pv 4) (pv 8) (fun _ _ => rfl)) pa_nil)))
          (pss_one ps_continue)))
        pss_nil)
      (pss_cons (ps_expr (pe_bmL PySem.F.slot_list_append PySem.F.type_list_append mt_append (pv 4) (pa_cons (pv 8) pa_nil)))
      (pss_cons (ps_asg (pe_callB call_lenJ (by rfl) T.len (by decide +kernel) (pa_cons (pv 3) pa_nil)) (pg_sub (pv 5) (pe_bmL PySem.F.slot_list_index PySem.F.type_list_index mt_indexI (pv 5) (pa_cons (pv 8) pa_nil)) set_listJ))
      (pss_cons (ps_expr (pe_bmL PySem.F.slot_list_append PySem.F.type_list_append mt_append (pv 4) (pa_cons (pv 8) pa_nil)))
      (pss_cons (ps_expr (pe_bmL PySem.F.slot_list_append PySem.F.type_list_append mt_append (pv 3) (pa_cons (pe_ix ix_listJ (pv 3) (pv 8) (fun _ _ => rfl)) pa_nil)))
      (pss_one (ps_asg (pe_lstJ (pa_cons (pv 9) (pa_cons (pe_lstJ (pa_cons (pe_op op_sub (pe_callB call_lenJ (by rfl) T.len (by decide +kernel) (pa_cons (pv 3) pa_nil)) pe_int) (pa_cons (pe_op op_sub (pe_callB call_lenJ (by rfl) T.len (by decide +kernel) (pa_cons (pv 3) pa_nil)) pe_int) pa_nil))) pa_nil))) (pg_sub (pv 3) (pv 8) set_listJ))))))))))))))
  (pss_one (ps_ret (pe_call (ok_l_told T 31) (hr.mono (by decide)) rfl T.g_l_told T.k_l_told T.b_l_told .nil pass0 (pa_cons (pv 3) (pa_cons pe_int (pa_cons (pv 2) pa_nil)))))))))), ?_⟩
    simp [L2.start, and_assoc]
    intro a0 K0 m0 g0 l0 nl K1 m1 g1 l1 al K2 m2 g2 l2 ll K3 m3 g3 l3
    have e02 := (g0.trans g1).trans g2
    have e03 := e02.trans g3
    have nal : nl ≠ al := ne_of_none l1 m2
    have nll : nl ≠ ll := ne_of_none (g2 _ _ l1) m3
    have all : al ≠ ll := ne_of_none l2 m3
    have fn : H nl = none := fresh_back g0 m1
    have fa : H al = none := fresh_back (g0.trans g1) m2
    have fl : H ll = none := fresh_back e02 m3
    have S0 : GS H K3 nl al ll 0 := by
      refine ⟨[a0], fun _ => 0, [Nd.leaf 0], [none], [0], [0], ⟨e03, rfl, fun i b q x y => ?_, fun i b j cs x y => ?_, fun i b x => ?_, fun i i2 b j cs x y => ?_, fun i i2 j j2 cs cs2 x y => ?_⟩, grown_start, rfl, (g2.trans g3) _ _ l1, g3 _ _ l2, l3⟩
      · match i, x, y with
        | 0, x, y => cases x; cases y; exact ((g1.trans g2).trans g3) _ _ l0
        | i + 1, x, y => simp at x
      · match i, y with
        | 0, y => cases y
        | i + 1, y => simp at y
      · match i, x with
        | 0, x =>
          cases x
          have b1 : a0 ≠ nl := ne_of_none l0 m1
          have b2 : a0 ≠ al := ne_of_none (g1 _ _ l0) m2
          have b3 : a0 ≠ ll := ne_of_none ((g1.trans g2) _ _ l0) m3
          simp [b1, b2, b3]
        | i + 1, x => simp at x
      · match i2, y with
        | 0, y => cases y
        | i + 1, y => simp at y
      · match i, x with
        | 0, x => cases x
        | i + 1, x => simp at x
    have hlen : ((sc.map V.int).length : Int) = sc.length := by rw [List.length_map]
    have fresh3 : ∀ m ∈ [nl, al, ll], H m = none := fun m h => by
      simp only [List.mem_cons, List.not_mem_nil, or_false] at h
      rcases h with rfl | rfl | rfl <;> assumption
    refine ⟨_, rfl, most, 1, rfl, rfl, _, rfl, a, rfl, _, .inl (sql_up hS e03), _, _, rfl, _, rfl, by rw [hlen]; split <;> omega, by rw [hlen]; split <;> omega, for_range (fun i σ H' => ∃ (b6 b7 b8 b9 : Option V), σ = [some (.ref a), some (.int most), some (.ref ml), some (.ref nl), some (.ref al), some (.ref ll), b6, b7, b8, b9] ∧ GS H H' nl al ll i) ⟨none, none, none, none, rfl, S0⟩ (fun i σ H' hi h => ?_) (fun σ H' h => ?_)⟩
    · obtain ⟨b6, b7, b8, b9, rfl, ⟨as, ci, ns, ab, lv, dp, c, G, hl, hn', ha', hl'⟩⟩ := h
      have hi30 : i < 29 := by rw [hlen] at hi; split at hi <;> omega
      have hS1 := sql_up hS c.ex
      rw [Int.zero_add]
      refine seq_by (fun σ1 H1 => ∃ c7 : Int, σ1 = [some (.ref a), some (.int most), some (.ref ml), some (.ref nl), some (.ref al), some (.ref ll), some (.int i), some (.int c7), b8, b9] ∧ 0 ≤ c7 ∧ H1 = H') (fun N hN => ?_) (fun s1 H1 m => ?_)
      · simp [and_assoc, spNumber]
        exact ⟨sc, hS1, by omega, hN _ _ ⟨_, rfl, mixed_nn _ _, rfl⟩⟩
      obtain ⟨c7, rfl, c70, rfl⟩ := m
      have lpos : 0 < lv.length := by omega
      have q0 := Int.emod_nonneg (c7 / 2) (show (lv.length : Int) ≠ 0 by omega)
      have q1 := Int.emod_lt_of_pos (c7 / 2) (show (0 : Int) < lv.length by omega)
      obtain ⟨kk, ekk⟩ : ∃ kk : Nat, c7 / 2 % (lv.length : Int) = kk := ⟨_, (Int.toNat_of_nonneg q0).symm⟩
      have kl : kk < lv.length := by omega
      obtain ⟨old, hk⟩ : ∃ old, lv[kk]? = some old := ⟨_, List.getElem?_eq_getElem kl⟩
      have ho := G.lf kk old hk
      have ol := lt_of_get ho
      obtain ⟨jw, ejw⟩ : ∃ jw : Bool, [V.str (Str.ofString "side"), V.str (Str.ofString "join")][(c7 % 2).toNat]? = some (.str (wdS jw)) := by
        rcases (show (c7 % 2).toNat = 0 ∨ (c7 % 2).toNat = 1 by omega) with e | e
        · exact ⟨false, by rw [e]; rfl⟩
        · exact ⟨true, by rw [e]; rfl⟩
      refine seq_by (fun σ1 H2 => σ1 = [some (.ref a), some (.int most), some (.ref ml), some (.ref nl), some (.ref al), some (.ref ll), some (.int i), some (.int c7), some (.int old), b9] ∧ H2 = H1) (fun N hN => ?_) (fun s1 H2 m => ?_)
      · simp [and_assoc, hl']
        refine ⟨by simp [CDiv], lpos, q0, .int old, ⟨old, ?_, rfl⟩, hN _ _ ⟨rfl, rfl⟩⟩
        rw [ekk]; exact hk
      obtain ⟨rfl, rfl⟩ := m
      refine seq_by (fun σ1 H3 => σ1 = [some (.ref a), some (.int most), some (.ref ml), some (.ref nl), some (.ref al), some (.ref ll), some (.int i), some (.int c7), some (.int old), some (.str (wdS jw))] ∧ Ex H2 H3) (fun N hN => ?_) (fun s1 H3 m => ?_)
      · simp [and_assoc]
        intro p1 K1 n1 e1 h1
        exact ⟨_, h1, by omega, _, ejw, hN _ _ ⟨rfl, e1⟩⟩
      obtain ⟨rfl, e23⟩ := m
      have c3 := c.up e23
      have hn3 := e23 _ _ hn'
      have ha3 := e23 _ _ ha'
      have hl3 := e23 _ _ hl'
      have cnt := G.cnt
      have gle := G.le
      have la := G.la
      have asl := c.la
      have bM : ∀ (m : Addr) (o : HO) (Hx : Hp), m ∈ [nl, al, ll] → But [nl, al, ll] Hx (upd Hx m o) := fun m o Hx h => But.upd h
      refine seq_by (fun σ1 H4 => σ1 = [some (.ref a), some (.int most), some (.ref ml), some (.ref nl), some (.ref al), some (.ref ll), some (.int i), some (.int c7), some (.int old), some (.str (wdS jw))] ∧ Core H H4 [nl, al, ll] as ci ns ∧ H4 nl = some (.lst (as.map V.ref)) ∧ H4 al = some (.lst (ab.map abV)) ∧ H4 ll = some (.lst ((lv ++ [ns.length]).map fun (x : Nat) => V.int x))) (fun N hN => ?_) (fun s1 H4 m => ?_)
      · simp [hl3, hn3]
        refine ⟨lt_line (by omega), hN _ _ ⟨rfl, c3.keep (bM ll _ _ (by simp)) fresh3, ?_, ?_, ?_⟩⟩
        · rw [upd_ne nll]; exact hn3
        · rw [upd_ne all]; exact ha3
        · rw [upd_same, List.map_append, asl]; rfl
      obtain ⟨rfl, c4, hn4, ha4, hl4⟩ := m
      refine seq_by (fun σ1 H5 => ∃ a5 : Addr, σ1 = [some (.ref a), some (.int most), some (.ref ml), some (.ref nl), some (.ref al), some (.ref ll), some (.int i), some (.int c7), some (.int old), some (.str (wdS jw))] ∧ Core H H5 [nl, al, ll] (as ++ [a5]) ci (ns ++ [Nd.leaf lv.length]) ∧ H5 nl = some (.lst ((as ++ [a5]).map V.ref)) ∧ H5 al = some (.lst (ab.map abV)) ∧ H5 ll = some (.lst ((lv ++ [ns.length]).map fun (x : Nat) => V.int x))) (fun N hN => ?_) (fun s1 H5 m => ?_)
      · simp [hn4, hl4]
        intro a5 K1 n1 e1 h1
        have b1 : a5 ≠ nl := (ne_of_none hn4 n1).symm
        have b2 : a5 ≠ al := (ne_of_none ha4 n1).symm
        have b3 : a5 ≠ ll := (ne_of_none hl4 n1).symm
        refine ⟨_, e1 _ _ hn4, lt_line (by simp; omega), hN _ _ ⟨a5, rfl, Core.leaf ((c4.up e1).keep (bM nl _ _ (by simp)) fresh3) ?_ (by simp [b1, b2, b3]) (fun i2 j cs hi2 => ?_), ?_, ?_, ?_⟩⟩
        · rw [upd_ne b1, h1]
        · have hb : i2 < as.length := by rw [asl]; exact lt_of_get hi2
          have := (c4.inn i2 as[i2] j cs (List.getElem?_eq_getElem hb) hi2).2.1
          exact (ne_of_none this n1).symm
        · rw [upd_same, List.map_append]; rfl
        · rw [upd_ne nal.symm]; exact e1 _ _ ha4
        · rw [upd_ne nll.symm]; exact e1 _ _ hl4
      obtain ⟨a5, rfl, c5, hn5, ha5, hl5⟩ := m
      obtain ⟨oa, hoa⟩ : ∃ oa, ab[old]? = some oa := ⟨_, List.getElem?_eq_getElem (by rw [la]; exact ol)⟩
      have haold : (ab.map abV)[old]? = some (abV oa) := by rw [List.getElem?_map, hoa]; rfl
      refine seq_by (fun σ1 H6 => σ1 = [some (.ref a), some (.int most), some (.ref ml), some (.ref nl), some (.ref al), some (.ref ll), some (.int i), some (.int c7), some (.int old), some (.str (wdS jw))] ∧ H6 = H5 ∧ ∀ p, ab[old]? = some (some p) → ∀ cs, ns[p]? ≠ some (Nd.inner jw cs)) (fun N hN => ?_) (fun s1 H6 m => ?_)
      · cases oa with
        | none =>
          simp [and_assoc, ha5, haold, abV]
          exact hN _ _ ⟨rfl, rfl, fun p hp => by rw [hoa] at hp; cases hp⟩
        | some p =>
          obtain ⟨j, cs, hp, hmem⟩ := G.par old p hoa
          have pl := lt_of_get hp
          have hp1 : (ns ++ [Nd.leaf lv.length])[p]? = some (Nd.inner j cs) := get_app hp
          obtain ⟨ap, hap⟩ : ∃ ap, (as ++ [a5])[p]? = some ap := ⟨_, List.getElem?_eq_getElem (by simp; omega)⟩
          have hapv : ((as ++ [a5]).map V.ref)[p]? = some (.ref ap) := by rw [List.getElem?_map, hap]; rfl
          obtain ⟨i1, i2, i3, i4⟩ := c5.inn p ap j cs hap hp1
          have hci : ci p ≠ nl ∧ ci p ≠ al ∧ ci p ≠ ll := by simpa using i4
          obtain ⟨dpp, hdp⟩ : ∃ dpp, dp[p]? = some dpp := ⟨_, List.getElem?_eq_getElem (by rw [G.ld]; exact pl)⟩
          simp [and_assoc, ha5, haold, abV]
          refine ⟨_, hn5, _, hapv, ?_⟩
          simp [i1]
          by_cases hjj : j = jw
          · subst hjj
            refine .inr ⟨rfl, _, ha5, .int p, haold, ?_⟩
            simp [hn5]
            refine ⟨.ref ap, by simpa using hapv, ?_⟩
            simp [i1, i2]
            have cl : cs.length < sizeLine := by
              have bound : ∀ x ∈ cs, x < ns.length := fun x hx => by
                have := lt_of_get ((G.inn p j cs hp).2.2 x hx).1
                omega
              have z := nd_len (ns := cs.map fun (x : Nat) => (x : Int)) (m := ns.length) (by
                unfold List.Nodup
                rw [List.pairwise_map]
                exact (G.inn p j cs hp).2.1.imp fun h e => h (by omega)) (fun n hn => by
                obtain ⟨x, hx, rfl⟩ := List.mem_map.mp hn
                have := bound x hx
                omega)
              exact lt_line (by simp at z; omega)
            have up1 : ∀ o, (upd H5 (ci p) o) al = some (.lst (ab.map abV)) := fun o => by rw [upd_ne hci.2.1.symm]; exact ha5
            refine ⟨_, hn5, cl, ⟨_, up1 _⟩, _, up1 _, .int p, haold, _, up1 _, lt_line (by simp; omega), ?_⟩
            have asz : (as.length : Int) + 1 - 1 = (ns.length : Int) := by omega
            have more := (c5.more hp1 ns.length).keep (bM al (.lst (ab.map abV ++ [.int p])) _ (by simp)) fresh3
            have eqc : (cs ++ [ns.length]).map (fun (x : Nat) => V.int x) = cs.map (fun (x : Nat) => V.int x) ++ [V.int ns.length] := by rw [List.map_append]; rfl
            rw [eqc] at more
            refine ⟨as ++ [a5], ci, _, ab ++ [some p], lv ++ [ns.length], dp ++ [dpp + 1], ?_, grown_more G hp hdp, by simp [hl], ?_, ?_, ?_⟩
            · have z : ((((as ++ [a5]).map V.ref).length : Int) - 1) = (ns.length : Int) := by simp [asl]
              rw [z]
              exact more
            · rw [upd_ne nal, upd_ne hci.1.symm]; exact hn5
            · rw [upd_same, List.map_append]; rfl
            · rw [upd_ne all.symm, upd_ne hci.2.2.symm]; exact hl5
          · refine .inl ⟨?_, hN _ _ ⟨rfl, rfl, fun p' hp' cs' z => ?_⟩⟩
            · cases j <;> cases jw <;> first | exact absurd rfl hjj | decide +kernel
            · rw [hoa] at hp'
              cases hp'
              rw [hp] at z
              have : j = jw := by cases z; rfl
              exact hjj this
      obtain ⟨rfl, rfl, hw⟩ := m
      have atk : (lv ++ [ns.length])[kk]? = some old := get_app hk
      obtain ⟨dpo, hdo⟩ : ∃ dpo, dp[old]? = some dpo := ⟨_, List.getElem?_eq_getElem (by rw [G.ld]; exact ol)⟩
      refine seq_by (fun σ1 H7 => σ1 = [some (.ref a), some (.int most), some (.ref ml), some (.ref nl), some (.ref al), some (.ref ll), some (.int i), some (.int c7), some (.int old), some (.str (wdS jw))] ∧ Core H H7 [nl, al, ll] (as ++ [a5]) ci (ns ++ [Nd.leaf lv.length]) ∧ H7 nl = some (.lst ((as ++ [a5]).map V.ref)) ∧ H7 al = some (.lst ((ab ++ [some old]).map abV)) ∧ H7 ll = some (.lst ((lv ++ [ns.length]).map fun (x : Nat) => V.int x))) (fun N hN => ?_) (fun s1 H7 m => ?_)
      · simp [ha5]
        refine ⟨lt_line (by omega), hN _ _ ⟨rfl, c5.keep (bM al _ _ (by simp)) fresh3, ?_, ?_, ?_⟩⟩
        · rw [upd_ne nal]; exact hn5
        · rw [upd_same, List.map_append]; rfl
        · rw [upd_ne all.symm]; exact hl5
      obtain ⟨rfl, c7', hn7, ha7, hl7⟩ := m
      refine seq_by (fun σ1 H8 => σ1 = [some (.ref a), some (.int most), some (.ref ml), some (.ref nl), some (.ref al), some (.ref ll), some (.int i), some (.int c7), some (.int old), some (.str (wdS jw))] ∧ Core H H8 [nl, al, ll] (as ++ [a5]) ci (ns ++ [Nd.leaf lv.length]) ∧ H8 nl = some (.lst ((as ++ [a5]).map V.ref)) ∧ H8 al = some (.lst ((ab ++ [some old]).map abV)) ∧ H8 ll = some (.lst (((lv ++ [ns.length]).set kk (ns.length + 1)).map fun (x : Nat) => V.int x))) (fun N hN => ?_) (fun s1 H8 m => ?_)
      · have hli : LsI H7 ll ((lv ++ [ns.length]).map fun (x : Nat) => (x : Int)) := by
          unfold LsI
          rw [hl7, List.map_map]
          rfl
        simp [hn7, hl7, lsI_ex hli]
        have le1 : (List.map (fun (x : Nat) => (x : Int)) lv ++ [(ns.length : Int)]) = (lv ++ [ns.length]).map (fun (x : Nat) => (x : Int)) := by rw [List.map_append]; rfl
        rw [le1]
        refine ⟨kk, by rw [List.getElem?_map, atk]; rfl, fun m hm z => ?_, by omega, hN _ _ ⟨rfl, c7'.keep (bM ll _ _ (by simp)) fresh3, ?_, ?_, ?_⟩⟩
        · rw [List.getElem?_map] at z
          cases zz : (lv ++ [ns.length])[m]? with
          | none => rw [zz] at z; cases z
          | some y =>
            rw [zz] at z
            have z : (y : Int) = old := Option.some.inj z
            have y0 : y = old := by omega
            subst y0
            have hm' : lv[m]? = some y := by
              rcases app_get zz with ⟨_, q⟩ | ⟨q, _⟩
              · exact q
              · omega
            have := G.lf m y hm'
            rw [ho] at this
            have : kk = m := by cases this; rfl
            omega
        · rw [upd_ne nll]; simpa using hn7
        · rw [upd_ne all]; simpa using ha7
        · rw [upd_same, List.map_set, List.map_append, asl]; rfl
      obtain ⟨rfl, c8, hn8, ha8, hl8⟩ := m
      refine seq_by (fun σ1 H9 => σ1 = [some (.ref a), some (.int most), some (.ref ml), some (.ref nl), some (.ref al), some (.ref ll), some (.int i), some (.int c7), some (.int old), some (.str (wdS jw))] ∧ Core H H9 [nl, al, ll] (as ++ [a5]) ci (ns ++ [Nd.leaf lv.length]) ∧ H9 nl = some (.lst ((as ++ [a5]).map V.ref)) ∧ H9 al = some (.lst ((ab ++ [some old] ++ [some old]).map abV)) ∧ H9 ll = some (.lst (((lv ++ [ns.length]).set kk (ns.length + 1)).map fun (x : Nat) => V.int x))) (fun N hN => ?_) (fun s1 H9 m => ?_)
      · simp [ha8]
        refine ⟨lt_line (by simp; omega), hN _ _ ⟨rfl, c8.keep (bM al _ _ (by simp)) fresh3, ?_, ?_, ?_⟩⟩
        · rw [upd_ne nal]; exact hn8
        · rw [upd_same]; simp [abV]
        · rw [upd_ne all.symm]; exact hl8
      obtain ⟨rfl, c9, hn9, ha9, hl9⟩ := m
      obtain ⟨ao, hao⟩ : ∃ ao, (as ++ [a5])[old]? = some ao := ⟨_, List.getElem?_eq_getElem (by simp; omega)⟩
      have haov : ((as ++ [a5]).map V.ref)[old]? = some (.ref ao) := by rw [List.getElem?_map, hao]; rfl
      have ho1 : (ns ++ [Nd.leaf lv.length])[old]? = some (Nd.leaf kk) := get_app ho
      refine seq_by (fun σ1 H10 => σ1 = [some (.ref a), some (.int most), some (.ref ml), some (.ref nl), some (.ref al), some (.ref ll), some (.int i), some (.int c7), some (.int old), some (.str (wdS jw))] ∧ Core H H10 [nl, al, ll] (as ++ [a5] ++ [ao]) ci (ns ++ [Nd.leaf lv.length] ++ [Nd.leaf kk]) ∧ H10 nl = some (.lst ((as ++ [a5] ++ [ao]).map V.ref)) ∧ H10 al = some (.lst ((ab ++ [some old] ++ [some old]).map abV)) ∧ H10 ll = some (.lst (((lv ++ [ns.length]).set kk (ns.length + 1)).map fun (x : Nat) => V.int x))) (fun N hN => ?_) (fun s1 H10 m => ?_)
      · simp [hn9]
        have le1 : (List.map V.ref as ++ [V.ref a5]) = (as ++ [a5]).map V.ref := by rw [List.map_append]; rfl
        rw [le1]
        refine ⟨.ref ao, haov, lt_line (by omega), hN _ _ ⟨rfl, Core.leaf (c9.keep (bM nl _ _ (by simp)) fresh3) ?_ (c9.sa old ao hao) (fun i2 j cs hi2 => c9.sc old i2 ao j cs hao hi2), ?_, ?_, ?_⟩⟩
        · have q := c9.sa old ao hao
          rw [upd_ne (fun z => q (by simp [z]))]
          exact c9.lf old ao kk hao ho1
        · rw [upd_same]; simp
        · rw [upd_ne nal.symm]; exact ha9
        · rw [upd_ne nll.symm]; exact hl9
      obtain ⟨rfl, c10, hn10, ha10, hl10⟩ := m
      have ho2 : (ns ++ [Nd.leaf lv.length] ++ [Nd.leaf kk])[old]? = some (Nd.leaf kk) := get_app ho1
      simp [hn10]
      intro c2 K1 n1 e1 h1 a2 K2 n2 e2 h2
      have e12 := e1.trans e2
      have hnK := e12 _ _ hn10
      have hnK' : K2 nl = some (.lst ((as ++ [a5] ++ [ao]).map V.ref)) := hnK
      have c11 := c10.up e12
      have nf : ∀ m ∈ [nl, al, ll], K1 m ≠ none ∧ H10 m ≠ none := fun m h => by
        simp only [List.mem_cons, List.not_mem_nil, or_false] at h
        rcases h with rfl | rfl | rfl
        · exact ⟨by rw [e1 _ _ hn10]; simp, by rw [hn10]; simp⟩
        · exact ⟨by rw [e1 _ _ ha10]; simp, by rw [ha10]; simp⟩
        · exact ⟨by rw [e1 _ _ hl10]; simp, by rw [hl10]; simp⟩
      have tn := c11.turn (a2 := a2) (c2 := c2) (j := jw) (cs := [ns.length + 1, ns.length]) ho2 h2 (by rw [e2 _ _ h1]; simp [asl]; omega) (fresh_back c10.ex n1) (fun z => (nf a2 z).1 n2) (fun z => (nf c2 z).2 n1)
        (fun i2 b hb z => c10.there hb (by rw [z]; exact n1)) (fun z => by rw [z, h1] at n2; cases n2) (fun i2 j cs hi2 => by
          have hb : i2 < (as ++ [a5] ++ [ao]).length := by rw [c10.la]; exact lt_of_get hi2
          have q := (c10.inn i2 _ j cs (List.getElem?_eq_getElem hb) hi2).2.1
          exact ⟨(ne_of_none (e1 _ _ q) n2).symm, (ne_of_none q n1).symm⟩)
      refine ⟨_, hnK, by simp; omega, (as ++ [a5] ++ [ao]).set old a2, _, _, ab ++ [some old] ++ [some old], (lv ++ [ns.length]).set kk (ns.length + 1), dp ++ [dpo + 1] ++ [dpo + 1], tn.keep (bM nl _ _ (by simp)) fresh3, grown_split G hk hdo hw, by simp [hl], ?_, ?_, ?_⟩
      · rw [upd_same, List.map_set]
      · rw [upd_ne nal.symm]; exact e12 _ _ ha10
      · rw [upd_ne nll.symm]; exact e12 _ _ hl10
    · obtain ⟨b6, b7, b8, b9, rfl, ⟨as, ci, ns, ab, lv, dp, c, G, hl, hn', ha', hl'⟩⟩ := h
      simp
      have hM' : LsI H' ml names := c.ex _ _ hM
      have elen : lv.length = (min (most - 1) (sc.length : Int) + 1).toNat := by rw [hl, hlen]; split <;> omega
      have ntop : dp[0]? = some 0 := (G.top 0 G.root).2
      have cnt := G.cnt
      have lve : lv.length ≤ names.length := by omega
      have l30 : lv.length ≤ 30 := by omega
      refine ⟨nl, ml, 0, ns, ab, lv, dp, names, rfl, c.nodes hn', hM', G, nd, by omega, tall_of G lve 31 0 0 ntop (by omega), fun v t H2 e2 ht hb => ?_⟩
      have ok := built_ok G nd 31 0 t hb
      have bp := built_pts G nd hb lve
      rw [elen] at bp
      exact k v t H2 (c.ex.trans e2) ht ok.1 ok.2.1 bp
end
end Jk

namespace Jk
open PySem L2 Evl
/-- a list's own place is not changed by what is new -/
theorem LsI.cat {H : Hp} {l b : Addr} {xs ys : List Int} (h : LsI H l xs) (g : LsI H b ys) {Q : VK} (hb : xs.length + ys.length ≤ 100000) (k : ∀ p H2, H p = none → Ex H H2 → LsI H2 p (xs ++ ys) → Q (.ref p) H2) : jCat (.ref l) (.ref b) H Q := by
  rw [j_cat]
  exact ⟨_, h, _, g, by simpa using hb, fun p H2 n e h2 => k p H2 n e (by unfold LsI; rw [h2, List.map_append])⟩
def spPts (d : Nat) : Sp := fun vs H Q _ => ∃ (v : V) (t : Tr), vs = [v] ∧ ToldAt H v t ∧ t.dep < d ∧ t.pts.length ≤ 1000 ∧ ∀ q H', H q = none → Ex H H' → LsI H' q t.pts → Q (.ref q) H'
theorem told_kind {H : Hp} {v : V} {t : Tr} (h : ToldAt H v t) : (∃ n, t = .pt n ∧ v = .int n) ∨ ∃ j ts a b vs, t = .nd j ts ∧ v = .ref a ∧ H a = some (.tup [.str (wdS j), .ref b]) ∧ H b = some (.tup vs) ∧ ToldL H vs ts := by
  cases t with
  | pt n => rw [ToldAt] at h; exact .inl ⟨n, rfl, h⟩
  | nd j ts =>
    rw [ToldAt] at h
    obtain ⟨a, b, vs, e, h1, h2, h3⟩ := h
    exact .inr ⟨j, ts, a, b, vs, rfl, e, h1, h2, h3⟩
theorem pts_take (ts : List Tr) (i : Nat) : (ptsL (ts.take i)).length ≤ (ptsL ts).length := by
  have z : ptsL ts = ptsL (ts.take i) ++ ptsL (ts.drop i) := by rw [← ptsL_app, List.take_append_drop]
  rw [z, List.length_append]; omega
theorem pts_step {ts : List Tr} {i : Nat} {u : Tr} (h : ts[i]? = some u) : ptsL (ts.take (i + 1)) = ptsL (ts.take i) ++ u.pts := by rw [take_one h, ptsL_app, ptsL, ptsL, List.append_nil]
section
variable {P : Program} {w : World} {K : PySem.W.Frag} {mg : Str → Option Value} {base : Heap} {A : Adr}
theorem none_spPts {f : Addr} {fd : FuncData} {ps : List Str} {k : Nat} : FnOk P w K mg base CX0 k f fd ps (spPts 0) :=
  ⟨fun vs H Q E ⟨_, _, _, _, h, _⟩ => absurd h (Nat.not_lt_zero _), fun A outer s H args us vs Q E _ _ _ _ ⟨_, _, _, _, h, _⟩ => absurd h (Nat.not_lt_zero _)⟩
theorem step_l_points (T : Txt K mg A) {d : Nat} (ih : FnOk P w K mg base CX0 (d + 1) A.a_l_points A.d_l_points ["_law_told_here"] (spPts d)) : FnOk P w K mg base CX0 (d + 2) A.a_l_points A.d_l_points ["_law_told_here"] (spPts (d + 1)) := by
  refine T.F_l_points.ok sc_l_points (fun vs H Q E h => ?_) (fun cdv C outer s H vs Q E hr h => ?_)
  · obtain ⟨v, t, rfl, _⟩ := h
    rfl
  · obtain ⟨v, t, rfl, hv, hd, few, k⟩ := h
    refine ⟨_, (pss_cons (ps_if (pt_not (pt_val (pe_callB call_isJ (by rfl) T.isinstance (by decide +kernel) (pa_cons (pv 0) (pa_cons (pe_bltn (v := .ty "tuple") (u := .type "tuple") (by rfl) T.tuple (by decide +kernel) rfl) pa_nil)))))
    (pss_one (ps_ret (pe_lstJ (pa_cons (pv 0) pa_nil))))
    pss_nil)
  (pss_cons (ps_set (i := 1) sc_l_points.nd rfl (Or.inl rfl) (pe_lstJ pa_nil))
  (pss_cons (ps_for PassesOwn.never rfl (pi_tup (pe_ix ix_tupJ (pv 0) pe_int (fun _ _ => rfl))) (pg_name (i := 2) sc_l_points.nd rfl (.inl rfl))
    (pss_one (ps_set (i := 1) sc_l_points.nd rfl (Or.inl rfl) (pe_op op_catJ (pv 1) (pe_call ih (hr.mono (by omega)) rfl T.g_l_points T.k_l_points T.b_l_points .nil pass0 (pa_cons (pv 2) pa_nil))))))
  (pss_one (ps_ret (pv 1)))))), ?_⟩
    rcases told_kind hv with ⟨n, rfl, rfl⟩ | ⟨j, ts, a, b, vs, rfl, rfl, h1, h2, h3⟩
    · simp [L2.start]
      intro q H1 n1 e1 h1
      exact k q H1 n1 e1 (by rw [Tr.pts]; exact h1)
    · simp [L2.start, and_assoc, tyN_tup h1]
      intro D H1 n1 e1 hD
      rw [Tr.pts] at few k
      rw [Tr.dep] at hd
      refine ⟨_, rfl, a, _, 1, _, rfl, rfl, e1 _ _ h1, by decide, rfl, b, rfl, ⟨_, .inl (.inl (e1 _ _ h2))⟩, for_tup (xs := vs) (fun i σ H2 => ∃ (D2 : Addr) (b2 : Option V), σ = [some (.ref a), some (.ref D2), b2] ∧ Ex H1 H2 ∧ H D2 = none ∧ LsI H2 D2 (ptsL (ts.take i))) ⟨D, none, rfl, Ex.refl _, n1, by unfold LsI; simpa [ptsL] using hD⟩ (fun i σ H2 _ h => ?_) (fun i x σ H2 hx h => ?_) (fun σ H2 h => ?_)⟩
      · obtain ⟨D2, b2, rfl, e, _⟩ := h
        exact .inl (.inl ((e1.trans e) _ _ h2))
      · obtain ⟨D2, b2, rfl, e, nD, hL⟩ := h
        obtain ⟨u, hu, hat⟩ := h3.get hx
        have pstep := pts_step hu
        have l1 := pts_take ts (i + 1)
        rw [pstep, List.length_append] at l1
        have e02 := e1.trans e
        simp
        refine ⟨x, u, rfl, hat.up e02, by have := depL_le (List.mem_of_getElem? hu); omega, by omega, fun q H3 n3 e3 h3' => ?_⟩
        refine LsI.cat (hL.up e3) h3' (by omega) fun p H4 n4 e4 h4 => ⟨p, rfl, ?_⟩
        have e14 := e.trans (e3.trans e4)
        exact ⟨e14, fresh_back (e02.trans e3) n4, by rw [pstep]; exact h4⟩
      · obtain ⟨D2, b2, rfl, e, nD, hL⟩ := h
        rw [List.take_of_length_le (by rw [h3.len]; exact Nat.le_refl _)] at hL
        exact ⟨_, rfl, k D2 H2 nD (e1.trans e) hL⟩
theorem ok_l_points (T : Txt K mg A) : ∀ d : Nat, FnOk P w K mg base CX0 (d + 1) A.a_l_points A.d_l_points ["_law_told_here"] (spPts d)
  | 0 => none_spPts
  | d + 1 => step_l_points T (ok_l_points T d)
end
end Jk

namespace Jk
open PySem L2 Evl
theorem LsP.cat {H : Hp} {l b : Addr} {xs ys : List (Int × Int)} (h : LsP H l xs) (g : LsP H b ys) {Q : VK} (hb : xs.length + ys.length ≤ 100000) (k : ∀ p H2, H p = none → Ex H H2 → LsP H2 p (xs ++ ys) → Q (.ref p) H2) : jCat (.ref l) (.ref b) H Q := by
  obtain ⟨ts, h1, h2⟩ := h
  obtain ⟨us, g1, g2⟩ := g
  rw [j_cat]
  exact ⟨_, h1, _, g1, by simp [h2.1, g2.1]; omega, fun p H2 n e z => k p H2 n e ⟨ts ++ us, by rw [z, List.map_append], (h2.up e).app (g2.up e)⟩⟩
theorem ite_min (a b : Int) : (if b < a then b else a) = min a b := by split <;> omega
theorem ite_max (a b : Int) : (if b > a then b else a) = max a b := by split <;> omega
theorem sq_le {a b : Nat} (h : a ≤ b) (hb : b ≤ 100) : a * a ≤ 10000 := Nat.le_trans (Nat.mul_le_mul (Nat.le_trans h hb) (Nat.le_trans h hb)) (by decide)
theorem wd_join (j : Bool) : (wdS j = ("join" : Str)) ↔ j = true := by cases j <;> simp [wdS] <;> decide +kernel
theorem ties_take (j : Bool) (ts : List Tr) (i : Nat) : (trTies j [] (ts.take i)).length ≤ (ptsL ts).length * (ptsL ts).length := by
  have := trTies_len j [] (ts.take i)
  have z := pts_take ts i
  simp at this
  exact Nat.le_trans this (Nat.mul_le_mul z z)
def spTiesT (d : Nat) : Sp := fun vs H Q _ => ∃ (v : V) (t : Tr), vs = [v] ∧ ToldAt H v t ∧ t.dep < d ∧ t.pts.length ≤ 100 ∧ ∀ q H', H q = none → Ex H H' → LsP H' q t.ties → Q (.ref q) H'
section
variable {P : Program} {w : World} {K : PySem.W.Frag} {mg : Str → Option Value} {base : Heap} {A : Adr}
theorem none_spTiesT {f : Addr} {fd : FuncData} {ps : List Str} {k : Nat} : FnOk P w K mg base CX0 k f fd ps (spTiesT 0) :=
  ⟨fun vs H Q E ⟨_, _, _, _, h, _⟩ => absurd h (Nat.not_lt_zero _), fun A outer s H args us vs Q E _ _ _ _ ⟨_, _, _, _, h, _⟩ => absurd h (Nat.not_lt_zero _)⟩
theorem step_l_ties (T : Txt K mg A) {d : Nat} (ih : FnOk P w K mg base CX0 (d + 2) A.a_l_ties A.d_l_ties ["_law_told_here"] (spTiesT d)) : FnOk P w K mg base CX0 (d + 3) A.a_l_ties A.d_l_ties ["_law_told_here"] (spTiesT (d + 1)) := by
  refine T.F_l_ties.ok sc_l_ties (fun vs H Q E h => ?_) (fun cdv C outer s H vs Q E hr h => ?_)
  · obtain ⟨v, t, rfl, _⟩ := h
    rfl
  · obtain ⟨v, t, rfl, hv, hd, few, k⟩ := h
    refine ⟨_, (pss_cons (ps_if (pt_not (pt_val (pe_callB call_isJ (by rfl) T.isinstance (by decide +kernel) (pa_cons (pv 0) (pa_cons (pe_bltn (v := .ty "tuple") (u := .type "tuple") (by rfl) T.tuple (by decide +kernel) rfl) pa_nil)))))
    (pss_one (ps_ret (pe_lstJ pa_nil)))
    pss_nil)
  (pss_cons (ps_set (i := 1) sc_l_ties.nd rfl (Or.inl rfl) (pe_lstJ pa_nil))
  (pss_cons (ps_set (i := 2) sc_l_ties.nd rfl (Or.inl rfl) (pe_lstJ pa_nil))
  (pss_cons (ps_for PassesOwn.never rfl (pi_tup (pe_ix ix_tupJ (pv 0) pe_int (fun _ _ => rfl))) (pg_name (i := 3) sc_l_ties.nd rfl (.inl rfl))
    (pss_cons (ps_set (i := 1) sc_l_ties.nd rfl (Or.inl rfl) (pe_op op_catJ (pv 1) (pe_call ih (hr.mono (by omega)) rfl T.g_l_ties T.k_l_ties T.b_l_ties .nil pass0 (pa_cons (pv 3) pa_nil))))
      (pss_cons (ps_set (i := 4) sc_l_ties.nd rfl (Or.inl rfl) (pe_call (ok_l_points T d) (hr.mono (by omega)) rfl T.g_l_points T.k_l_points T.b_l_points .nil pass0 (pa_cons (pv 3) pa_nil)))
      (pss_cons (ps_if (pt_cmpR op_eq (pe_ix ix_tupJ (pv 0) pe_int (fun _ _ => rfl)) pe_str (nomark _))
        (pss_one (ps_for PassesOwn.never rfl (pi_list (pv 2)) (pg_name (i := 5) sc_l_ties.nd rfl (.inr rfl))
            (pss_one (ps_set (i := 1) sc_l_ties.nd rfl (Or.inl rfl) (pe_op op_catJ (pv 1) (pe_lc (own := [("_law_other", 6)]) rfl sc_l_ties.nd (pi_list (pv 4)) (blkOk_by (own := [("_law_other", 6)]) (N := ["_law_told_here", "_law_found", "_law_ahead", "_law_piece", "_law_points_here", "_law_one", "_law_other"]) (sc := defScope s_l_ties) (by decide +kernel)) (fun _ _ _ _ _ => by exact (pg_name (i := 6) sc_l_ties.nd rfl (Or.inl rfl))) (fun _ _ _ _ _ => by exact pts_nil) (fun _ _ _ _ _ => by exact (pe_tupJ (pa_cons (pe_callB (call_min2 rfl) (by rfl) T.min (by decide +kernel) (pa_cons (pv 5) (pa_cons (pv 6) pa_nil))) (pa_cons (pe_callB (call_max2 rfl) (by rfl) T.max (by decide +kernel) (pa_cons (pv 5) (pa_cons (pv 6) pa_nil))) pa_nil))))))))))
        pss_nil)
      (pss_one (ps_set (i := 2) sc_l_ties.nd rfl (Or.inl rfl) (pe_op op_catJ (pv 2) (pv 4))))))))
  (pss_one (ps_ret (pv 1))))))), ?_⟩
    rcases told_kind hv with ⟨n, rfl, rfl⟩ | ⟨j, ts, a, b, vs, rfl, rfl, h1, h2, h3⟩
    · simp [L2.start]
      intro q H1 n1 e1 h1
      exact k q H1 n1 e1 ⟨[], h1, TupsAt.nil _⟩
    · simp [L2.start, and_assoc, tyN_tup h1]
      intro F0 H0 n0 e0 hF0 D H1 n1 e1 hD
      rw [Tr.pts] at few
      rw [Tr.dep] at hd
      have e01 := e0.trans e1
      refine ⟨_, rfl, a, _, 1, _, rfl, rfl, e01 _ _ h1, by decide, rfl, b, rfl, ⟨_, .inl (.inl (e01 _ _ h2))⟩, for_tup (xs := vs) (fun i σ H2 => ∃ (F2 D2 : Addr) (b3 b4 b5 b6 : Option V), σ = [some (.ref a), some (.ref F2), some (.ref D2), b3, b4, b5, b6] ∧ Ex H H2 ∧ H F2 = none ∧ LsP H2 F2 (trTies j [] (ts.take i)) ∧ LsI H2 D2 (ptsL (ts.take i))) ⟨F0, D, none, none, none, none, rfl, e01, n0, ⟨[], e1 _ _ hF0, TupsAt.nil _⟩, by unfold LsI; simpa [ptsL] using hD⟩ (fun i σ H2 _ h => ?_) (fun i x σ H2 hx h => ?_) (fun σ H2 h => ?_)⟩
      · obtain ⟨F2, D2, b3, b4, b5, b6, rfl, e, _⟩ := h
        exact .inl (.inl (e _ _ h2))
      · obtain ⟨F2, D2, b3, b4, b5, b6, rfl, e, nF, hF, hL⟩ := h
        obtain ⟨u, hu, hat⟩ := h3.get hx
        have pstep := pts_step hu
        have l1 := pts_take ts (i + 1)
        rw [pstep, List.length_append] at l1
        have tl0 := ties_take j ts i
        have tl1 := ties_take j ts (i + 1)
        have tstep : trTies j [] (ts.take (i + 1)) = trTies j [] (ts.take i) ++ (u.ties ++ if j = true then crossL (ptsL (ts.take i)) u.pts else []) := by rw [take_one hu, trTies_snoc]
        have sq := sq_le (Nat.le_refl _) few
        rw [tstep, List.length_append, List.length_append] at tl1
        simp
        refine ⟨x, u, rfl, hat.up e, by have := depL_le (List.mem_of_getElem? hu); omega, by omega, fun q H3 n3 e3 h3' => ?_⟩
        refine LsP.cat (hF.up e3) h3' (by omega) fun F4 H4 n4 e4 hF4 => ?_
        have e24 := e3.trans e4
        have eH4 := e.trans e24
        refine ⟨x, u, rfl, (hat.up eH4), by have := depL_le (List.mem_of_getElem? hu); omega, by omega, fun P5 H5 n5 e5 hP5 => ?_⟩
        have eH5 := eH4.trans e5
        have nF4 : H F4 = none := fresh_back (e.trans e3) n4
        have hL5 := hL.up (e24.trans e5)
        have hF5 := hF4.up e5
        simp [and_assoc, eH5 _ _ h1, wd_join]
        obtain ⟨hL5', hP5'⟩ : H5 D2 = some (.lst ((ptsL (ts.take i)).map V.int)) ∧ H5 P5 = some (.lst (u.pts.map V.int)) := ⟨hL5, hP5⟩
        cases j with
        | false =>
          refine .inl ⟨rfl, _, hL5', _, hP5', by simp; omega, fun p H6 n6 e6 h6 => ⟨eH5.trans e6, nF4, ?_, ?_⟩⟩
          · rw [tstep]
            simpa using hF5.up e6
          · unfold LsI
            rw [h6, pstep, List.map_append]
        | true =>
          have csl := cross_len (ptsL (ts.take i)) u.pts
          simp only [if_true] at tl1 tstep
          refine .inr ⟨rfl, _, rfl, D2, rfl, ⟨_, .inl (.inl hL5')⟩, for_list (xs := (ptsL (ts.take i)).map V.int) (fun m σ H6 => ∃ (F6 : Addr) (b5 b6 : Option V), σ = [some (.ref a), some (.ref F6), some (.ref D2), some x, some (.ref P5), b5, b6] ∧ Ex H5 H6 ∧ H F6 = none ∧ LsP H6 F6 (trTies true [] (ts.take i) ++ u.ties ++ crossL ((ptsL (ts.take i)).take m) u.pts)) ⟨F4, b5, b6, rfl, Ex.refl _, nF4, by simpa [crossL] using hF5⟩ (fun m σ H6 _ h => ?_) (fun m y σ H6 hy h => ?_) (fun σ H6 h => ?_)⟩
          · obtain ⟨F6, b5, b6, rfl, e6, _⟩ := h
            exact .inl (.inl (e6 _ _ hL5'))
          · obtain ⟨F6, b5, b6, rfl, e6, nF6, hF6⟩ := h
            rw [List.getElem?_map] at hy
            cases hone : (ptsL (ts.take i))[m]? with
            | none => rw [hone] at hy; cases hy
            | some one =>
              rw [hone] at hy
              cases hy
              have cstep : crossL ((ptsL (ts.take i)).take (m + 1)) u.pts = crossL ((ptsL (ts.take i)).take m) u.pts ++ u.pts.map fun z => mmI one z := by
                rw [take_one hone]
                simp [crossL]
              have cl : (crossL ((ptsL (ts.take i)).take (m + 1)) u.pts).length ≤ (crossL (ptsL (ts.take i)) u.pts).length := by
                rw [cross_len, cross_len]
                exact Nat.mul_le_mul (by rw [List.length_take]; omega) (Nat.le_refl _)
              rw [cstep, List.length_append, List.length_map] at cl
              simp
              refine ⟨_, rfl, P5, rfl, ⟨_, .inl (.inl (e6 _ _ hP5'))⟩, fun L nL => lc_listS (xs := u.pts.map V.int) (fun q y H => ∃ t, y = .ref t ∧ H t = some (.tup [.int (mmI one (u.pts.getD q 0)).1, .int (mmI one (u.pts.getD q 0)).2])) stay_pair nL (.inl (.inl (e6 _ _ hP5'))) (by simp; omega) (fun q y H7 N hy e7 hL7 hN => ?_) (fun acc H8 e8 h8 hacc hall => ?_)⟩
              · rw [List.getElem?_map] at hy
                cases hz : u.pts[q]? with
                | none => rw [hz] at hy; cases hy
                | some z =>
                  rw [hz] at hy
                  cases hy
                  simp [wipe, ite_min, ite_max]
                  refine ⟨one, z, ⟨rfl, rfl⟩, one, z, ⟨rfl, rfl⟩, fun p H9 n9 e9 h9 => ?_⟩
                  refine hN _ _ e9 ⟨p, rfl, ?_⟩
                  rw [h9]
                  simp [mmI, hz]
              · have lp : LsP H8 L (u.pts.map fun z => mmI one z) := lsP_of h8 (by simpa using hacc) fun q y hq => by
                  obtain ⟨t, e1, e2⟩ := hall q y hq
                  have hq' : q < u.pts.length := by have := lt_of_get hq; simp at hacc; omega
                  refine ⟨t, e1, mmI one u.pts[q], by rw [List.getElem?_map, List.getElem?_eq_getElem hq']; rfl, ?_⟩
                  rw [e2]
                  simp [List.getElem?_eq_getElem hq']
                refine LsP.cat (hF6.up e8) lp (by simp; omega) fun p H9 n9 e9 h9 => ?_
                simp
                refine ⟨e6.trans (e8.trans e9), fresh_back (eH5.trans (e6.trans e8)) n9, ?_⟩
                rw [cstep]
                simpa using h9
          · obtain ⟨F6, b5, b6, rfl, e6, nF6, hF6⟩ := h
            rw [List.length_map, List.take_length] at hF6
            simp
            refine ⟨_, e6 _ _ hL5', _, e6 _ _ hP5', by simp; omega, fun p H7 n7 e7 h7 => ⟨F6, p, ⟨rfl, rfl⟩, (eH5.trans e6).trans e7, nF6, ?_, ?_⟩⟩
            · rw [tstep, ← List.append_assoc]
              exact hF6.up e7
            · unfold LsI
              rw [h7, pstep, List.map_append]
      · obtain ⟨F2, D2, b3, b4, b5, b6, rfl, e, nF, hF, hL⟩ := h
        rw [List.take_of_length_le (by rw [h3.len]; exact Nat.le_refl _)] at hF
        exact ⟨_, rfl, k F2 H2 nF e (by rw [Tr.ties]; exact hF)⟩
theorem ok_l_ties (T : Txt K mg A) : ∀ d : Nat, FnOk P w K mg base CX0 (d + 2) A.a_l_ties A.d_l_ties ["_law_told_here"] (spTiesT d)
  | 0 => none_spTiesT
  | d + 1 => step_l_ties T (ok_l_ties T d)
end
end Jk

namespace Jk
open PySem L2 Evl
/-! ## Trees as objects -/
def pf (n : Int) : List (Str × V) := putF "_number" (.int n) []
def nf (l q : Addr) : List (Str × V) := putF "_points" (.ref q) (putF "_parts" (.ref l) [])
theorem pf_number (n : Int) : (pf n).lookup ("_number" : Str) = some (.int n) := by unfold pf; rw [lookup_putF, if_pos rfl]
theorem pf_no (n : Int) {m : Str} (h : ¬ m = "_number") : (pf n).lookup m = none := by unfold pf; rw [lookup_putF, if_neg h]; rfl
theorem nf_points (l q : Addr) : (nf l q).lookup ("_points" : Str) = some (.ref q) := by unfold nf; rw [lookup_putF, if_pos rfl]
theorem nf_parts (l q : Addr) : (nf l q).lookup ("_parts" : Str) = some (.ref l) := by unfold nf; rw [lookup_putF, if_neg (by decide +kernel), lookup_putF, if_pos rfl]
theorem nf_no (l q : Addr) {m : Str} (h : ¬ m = "_points") (h2 : ¬ m = "_parts") : (nf l q).lookup m = none := by unfold nf; rw [lookup_putF, if_neg h, lookup_putF, if_neg h2]; rfl
@[simp] theorem pf_m1 (n : Int) : NoFld (pf n) "told" := pf_no n (by decide +kernel)
@[simp] theorem pf_m2 (n : Int) : NoFld (pf n) "points" := pf_no n (by decide +kernel)
@[simp] theorem pf_m3 (n : Int) : NoFld (pf n) "tied" := pf_no n (by decide +kernel)
@[simp] theorem pf_m4 (n : Int) : NoFld (pf n) "turned" := pf_no n (by decide +kernel)
@[simp] theorem nf_m1 (l q : Addr) : NoFld (nf l q) "told" := nf_no l q (by decide +kernel) (by decide +kernel)
@[simp] theorem nf_m2 (l q : Addr) : NoFld (nf l q) "points" := nf_no l q (by decide +kernel) (by decide +kernel)
@[simp] theorem nf_m3 (l q : Addr) : NoFld (nf l q) "tied" := nf_no l q (by decide +kernel) (by decide +kernel)
@[simp] theorem nf_m4 (l q : Addr) : NoFld (nf l q) "turned" := nf_no l q (by decide +kernel) (by decide +kernel)
def cJ (A : Adr) (j : Bool) : Addr := if j = true then A.c_Join else A.c_Side
mutual
def TreeAt (A : Adr) (N : Addr → Prop) (H : Hp) : V → Tr → Prop
  | v, .pt n => ∃ a dx, v = .ref a ∧ N a ∧ H a = some (.ins A.c_Point dx (pf n))
  | v, .nd j ts => ∃ a dx l q vs, v = .ref a ∧ N a ∧ N l ∧ N q ∧ H a = some (.ins (cJ A j) dx (nf l q)) ∧ H l = some (.lst vs) ∧ LsI H q (srt (ptsL ts)) ∧ TreeL A N H vs ts
def TreeL (A : Adr) (N : Addr → Prop) (H : Hp) : List V → List Tr → Prop
  | [], [] => True
  | v :: vs, t :: ts => TreeAt A N H v t ∧ TreeL A N H vs ts
  | [], _ :: _ => False
  | _ :: _, [] => False
end
section
variable {A : Adr} {N N' : Addr → Prop} {H H' : Hp}
mutual
theorem TreeAt.to' (k : ∀ x o, N x → H x = some o → N' x ∧ H' x = some o) : ∀ (t : Tr) (v : V), TreeAt A N H v t → TreeAt A N' H' v t
  | .pt n, v, h => by
    rw [TreeAt] at h ⊢
    obtain ⟨a, dx, e, n1, h1⟩ := h
    exact ⟨a, dx, e, (k _ _ n1 h1).1, (k _ _ n1 h1).2⟩
  | .nd j ts, v, h => by
    rw [TreeAt] at h ⊢
    obtain ⟨a, dx, l, q, vs, e, n1, n2, n3, h1, h2, h3, h4⟩ := h
    exact ⟨a, dx, l, q, vs, e, (k _ _ n1 h1).1, (k _ _ n2 h2).1, (k _ _ n3 h3).1, (k _ _ n1 h1).2, (k _ _ n2 h2).2, (k _ _ n3 h3).2, TreeL.to' k ts vs h4⟩
theorem TreeL.to' (k : ∀ x o, N x → H x = some o → N' x ∧ H' x = some o) : ∀ (ts : List Tr) (vs : List V), TreeL A N H vs ts → TreeL A N' H' vs ts
  | [], [], _ => by simp [TreeL]
  | [], v :: vs, h => by simp [TreeL] at h
  | t :: ts, [], h => by simp [TreeL] at h
  | t :: ts, v :: vs, h => by
    rw [TreeL] at h ⊢
    exact ⟨TreeAt.to' k t v h.1, TreeL.to' k ts vs h.2⟩
end
theorem TreeAt.to {v : V} {t : Tr} (h : TreeAt A N H v t) (k : ∀ x o, N x → H x = some o → N' x ∧ H' x = some o) : TreeAt A N' H' v t := TreeAt.to' k t v h
theorem TreeL.to {vs : List V} {ts : List Tr} (h : TreeL A N H vs ts) (k : ∀ x o, N x → H x = some o → N' x ∧ H' x = some o) : TreeL A N' H' vs ts := TreeL.to' k ts vs h
theorem TreeAt.up {v : V} {t : Tr} (h : TreeAt A N H v t) (e : Ex H H') : TreeAt A N H' v t := h.to fun x o n z => ⟨n, e _ _ z⟩
theorem TreeL.up {vs : List V} {ts : List Tr} (h : TreeL A N H vs ts) (e : Ex H H') : TreeL A N H' vs ts := h.to fun x o n z => ⟨n, e _ _ z⟩
theorem TreeAt.any {v : V} {t : Tr} (h : TreeAt A N H v t) : TreeAt A (fun _ => True) H v t := h.to fun x o n z => ⟨trivial, z⟩
theorem tree_kind {v : V} {t : Tr} (h : TreeAt A N H v t) : (∃ n a dx, t = .pt n ∧ v = .ref a ∧ N a ∧ H a = some (.ins A.c_Point dx (pf n))) ∨ (∃ ts a dx l q vs, t = .nd false ts ∧ v = .ref a ∧ N a ∧ N l ∧ N q ∧ H a = some (.ins A.c_Side dx (nf l q)) ∧ H l = some (.lst vs) ∧ LsI H q (srt (ptsL ts)) ∧ TreeL A N H vs ts) ∨
    ∃ ts a dx l q vs, t = .nd true ts ∧ v = .ref a ∧ N a ∧ N l ∧ N q ∧ H a = some (.ins A.c_Join dx (nf l q)) ∧ H l = some (.lst vs) ∧ LsI H q (srt (ptsL ts)) ∧ TreeL A N H vs ts := by
  cases t with
  | pt n =>
    rw [TreeAt] at h
    obtain ⟨a, dx, e, n1, h1⟩ := h
    exact .inl ⟨n, a, dx, rfl, e, n1, h1⟩
  | nd j ts =>
    rw [TreeAt] at h
    obtain ⟨a, dx, l, q, vs, e, n1, n2, n3, h1, h2, h3, h4⟩ := h
    cases j with
    | false => exact .inr (.inl ⟨ts, a, dx, l, q, vs, rfl, e, n1, n2, n3, h1, h2, h3, h4⟩)
    | true => exact .inr (.inr ⟨ts, a, dx, l, q, vs, rfl, e, n1, n2, n3, h1, h2, h3, h4⟩)
theorem TreeL.len : ∀ {vs : List V} {ts : List Tr}, TreeL A N H vs ts → vs.length = ts.length
  | [], [], _ => rfl
  | [], t :: ts, h => by simp [TreeL] at h
  | v :: vs, [], h => by simp [TreeL] at h
  | v :: vs, t :: ts, h => by
    rw [TreeL] at h
    simp [h.2.len]
theorem TreeL.get : ∀ {vs : List V} {ts : List Tr}, TreeL A N H vs ts → ∀ {k : Nat} {v : V}, vs[k]? = some v → ∃ t, ts[k]? = some t ∧ TreeAt A N H v t
  | [], [], _, k, v, e => by simp at e
  | [], t :: ts, h, k, v, e => by simp at e
  | v :: vs, [], h, k, v', e => by simp [TreeL] at h
  | v :: vs, t :: ts, h, k, v', e => by
    rw [TreeL] at h
    cases k with
    | zero => cases e; exact ⟨t, rfl, h.1⟩
    | succ k => exact h.2.get (by simpa using e)
theorem treeL_of : ∀ {vs : List V} {ts : List Tr}, vs.length = ts.length → (∀ (k : Nat) (v : V), vs[k]? = some v → ∃ t, ts[k]? = some t ∧ TreeAt A N H v t) → TreeL A N H vs ts
  | [], [], _, _ => by simp [TreeL]
  | [], t :: ts, h, _ => by simp at h
  | v :: vs, [], h, _ => by simp at h
  | v :: vs, t :: ts, h, k => by
    obtain ⟨t', e, ht⟩ := k 0 v rfl
    cases e
    rw [TreeL]
    exact ⟨ht, treeL_of (by simpa using h) fun i u hu => k (i + 1) u (by simpa using hu)⟩
end
def spPointInit (A : Adr) : Sp := fun vs H Q _ => ∃ (p dx : Addr) (n : Int), vs = [.ref p, .int n] ∧ H p = some (.ins A.c_Point dx []) ∧ Q .non (upd H p (.ins A.c_Point dx (pf n)))
def spPointPts (A : Adr) : Sp := fun vs H Q _ => ∃ (a dx : Addr) (n : Int), vs = [.ref a] ∧ H a = some (.ins A.c_Point dx (pf n)) ∧ ∀ q H', H q = none → Ex H H' → LsI H' q [n] → Q (.ref q) H'
def spSidePts (A : Adr) : Sp := fun vs H Q _ => ∃ (a dx l q : Addr) (ps : List Int), vs = [.ref a] ∧ H a = some (.ins A.c_Side dx (nf l q)) ∧ LsI H q ps ∧ ∀ q H', H q = none → Ex H H' → LsI H' q ps → Q (.ref q) H'
def spJoinPts (A : Adr) : Sp := fun vs H Q _ => ∃ (a dx l q : Addr) (ps : List Int), vs = [.ref a] ∧ H a = some (.ins A.c_Join dx (nf l q)) ∧ LsI H q ps ∧ ∀ q H', H q = none → Ex H H' → LsI H' q ps → Q (.ref q) H'
def spPtsOf (A : Adr) : Sp := fun vs H Q _ => ∃ (l : Addr) (N : Addr → Prop) (vs0 : List V) (ts : List Tr), vs = [.ref l] ∧ H l = some (.lst vs0) ∧ TreeL A N H vs0 ts ∧ (ptsL ts).length < 64 ∧ ∀ q H', H q = none → Ex H H' → LsI H' q (srt (ptsL ts)) → Q (.ref q) H'
def spSideInit (A : Adr) : Sp := fun vs H Q _ => ∃ (p dx l0 : Addr) (N : Addr → Prop) (vs0 : List V) (ts : List Tr), vs = [.ref p, .ref l0] ∧ H p = some (.ins A.c_Side dx []) ∧ H l0 = some (.lst vs0) ∧ TreeL A N H vs0 ts ∧ (∀ x, N x → x ≠ p) ∧ l0 ≠ p ∧ (ptsL ts).length < 64 ∧
  ∀ H' l q, But [p] H H' → H l = none → H q = none → H' p = some (.ins A.c_Side dx (nf l q)) → H' l = some (.lst vs0) → LsI H' q (srt (ptsL ts)) → Q .non H'
def spJoinInit (A : Adr) : Sp := fun vs H Q _ => ∃ (p dx l0 : Addr) (N : Addr → Prop) (vs0 : List V) (ts : List Tr), vs = [.ref p, .ref l0] ∧ H p = some (.ins A.c_Join dx []) ∧ H l0 = some (.lst vs0) ∧ TreeL A N H vs0 ts ∧ (∀ x, N x → x ≠ p) ∧ l0 ≠ p ∧ (ptsL ts).length < 64 ∧
  ∀ H' l q, But [p] H H' → H l = none → H q = none → H' p = some (.ins A.c_Join dx (nf l q)) → H' l = some (.lst vs0) → LsI H' q (srt (ptsL ts)) → Q .non H'
def tpts (t : Tr) : List Int := srt t.pts
theorem flat_tpts (ts : List Tr) : (ts.map fun t => (tpts t).map V.int).flatten = (ts.flatMap tpts).map V.int := by
  induction ts with
  | nil => rfl
  | cons t ts ih => simp [ih]
theorem tpts_perm (ts : List Tr) : (ts.flatMap tpts).Perm (ptsL ts) := by
  induction ts with
  | nil => exact List.Perm.refl _
  | cons t ts ih => rw [List.flatMap_cons, ptsL]; exact (srt_perm _).append ih
theorem tpts_pt (n : Int) : tpts (.pt n) = [n] := by unfold tpts; rw [Tr.pts]; exact srt_fix (by simp)
theorem tpts_nd (j : Bool) (ts : List Tr) : tpts (.nd j ts) = srt (ptsL ts) := by unfold tpts; rw [Tr.pts]
section
variable {P : Program} {w : World} {K : PySem.W.Frag} {mg : Str → Option Value} {base : Heap} {A : Adr}
theorem ok_Point_init (T : Txt K mg A) : FnOk P w K mg base CX0 1 A.a_Point_init A.d_Point_init ["self", "number"] (spPointInit A) := by
  refine T.F_Point_init.ok sc_Point_init (fun vs H Q E h => ?_) (fun cdv C outer s H vs Q E hr h => ?_)
  · obtain ⟨p, dx, n, rfl, _⟩ := h
    rfl
  · obtain ⟨p, dx, n, rfl, h1, k⟩ := h
    refine ⟨_, (pss_one (ps_fld (pv 0) (pv 1) rfl)), ?_⟩
    simp [L2.start, and_assoc, h1, T.cl_Point, T.n_Point__number]
    exact k
theorem ok_Point_points (T : Txt K mg A) : FnOk P w K mg base CX0 1 A.a_Point_points A.d_Point_points ["self"] (spPointPts A) := by
  refine T.F_Point_points.ok sc_Point_points (fun vs H Q E h => ?_) (fun cdv C outer s H vs Q E hr h => ?_)
  · obtain ⟨a, dx, n, rfl, _⟩ := h
    rfl
  · obtain ⟨a, dx, n, rfl, h1, k⟩ := h
    refine ⟨_, (pss_one (ps_ret (pe_lstJ (pa_cons (pe_fldK (K0 := K) (pv 0)) pa_nil)))), ?_⟩
    simp [L2.start, and_assoc, h1, T.cl_Point, T.n_Point__number, pf_number]
    exact k
theorem ok_Side_points (T : Txt K mg A) : FnOk P w K mg base CX0 1 A.a_Side_points A.d_Side_points ["self"] (spSidePts A) := by
  refine T.F_Side_points.ok sc_Side_points (fun vs H Q E h => ?_) (fun cdv C outer s H vs Q E hr h => ?_)
  · obtain ⟨a, dx, l, q, ps, rfl, _⟩ := h
    rfl
  · obtain ⟨a, dx, l, q, ps, rfl, h1, h2, k⟩ := h
    refine ⟨_, (pss_one (ps_ret (pe_callTy call_listJ (by rfl) T.list (by decide +kernel) (pa_cons (pe_fldK (K0 := K) (pv 0)) pa_nil)))), ?_⟩
    have h2' : H q = some (.lst (ps.map V.int)) := h2
    simp [L2.start, and_assoc, h1, h2', jList, T.cl_Side, T.n_Side__points, nf_points]
    exact k
theorem ok_Join_points (T : Txt K mg A) : FnOk P w K mg base CX0 1 A.a_Join_points A.d_Join_points ["self"] (spJoinPts A) := by
  refine T.F_Join_points.ok sc_Join_points (fun vs H Q E h => ?_) (fun cdv C outer s H vs Q E hr h => ?_)
  · obtain ⟨a, dx, l, q, ps, rfl, _⟩ := h
    rfl
  · obtain ⟨a, dx, l, q, ps, rfl, h1, h2, k⟩ := h
    refine ⟨_, (pss_one (ps_ret (pe_callTy call_listJ (by rfl) T.list (by decide +kernel) (pa_cons (pe_fldK (K0 := K) (pv 0)) pa_nil)))), ?_⟩
    have h2' : H q = some (.lst (ps.map V.int)) := h2
    simp [L2.start, and_assoc, h1, h2', jList, T.cl_Join, T.n_Join__points, nf_points]
    exact k
/-- points() of any tree -/
theorem read_points {v : V} {t : Tr} {N : Addr → Prop} {H : Hp} {Q : VK} (h : TreeAt A N H v t) (k : ∀ q H', H q = none → Ex H H' → LsI H' q (tpts t) → Q (.ref q) H') :
    (∃ a, v = .ref a ∧ ∃ dx fs, H a = some (.ins A.c_Point dx fs) ∧ NoFld fs "points" ∧ spPointPts A [v] H Q E0) ∨ (∃ a, v = .ref a ∧ ∃ dx fs, H a = some (.ins A.c_Side dx fs) ∧ NoFld fs "points" ∧ spSidePts A [v] H Q E0) ∨ (∃ a, v = .ref a ∧ ∃ dx fs, H a = some (.ins A.c_Join dx fs) ∧ NoFld fs "points" ∧ spJoinPts A [v] H Q E0) := by
  rcases tree_kind h with ⟨n, a, dx, rfl, rfl, _, h1⟩ | ⟨ts, a, dx, l, q, vs, rfl, rfl, _, _, _, h1, h2, h3, _⟩ | ⟨ts, a, dx, l, q, vs, rfl, rfl, _, _, _, h1, h2, h3, _⟩
  · rw [tpts_pt] at k
    exact .inl ⟨a, rfl, dx, _, h1, by simp, a, dx, n, rfl, h1, k⟩
  · rw [tpts_nd] at k
    exact .inr (.inl ⟨a, rfl, dx, _, h1, by simp, a, dx, l, q, _, rfl, h1, h3, k⟩)
  · rw [tpts_nd] at k
    exact .inr (.inr ⟨a, rfl, dx, _, h1, by simp, a, dx, l, q, _, rfl, h1, h3, k⟩)
theorem read_points'  {a : Addr} {t : Tr} {N : Addr → Prop} {H : Hp} {Q : VK} (h : TreeAt A N H (.ref a) t) (k : ∀ q H', H q = none → Ex H H' → LsI H' q (tpts t) → Q (.ref q) H') :
    (∃ dx fs, H a = some (.ins A.c_Point dx fs) ∧ NoFld fs "points" ∧ spPointPts A [.ref a] H Q E0) ∨ (∃ dx fs, H a = some (.ins A.c_Side dx fs) ∧ NoFld fs "points" ∧ spSidePts A [.ref a] H Q E0) ∨ (∃ dx fs, H a = some (.ins A.c_Join dx fs) ∧ NoFld fs "points" ∧ spJoinPts A [.ref a] H Q E0) := by
  rcases read_points h k with ⟨b, e, r⟩ | ⟨b, e, r⟩ | ⟨b, e, r⟩
  · cases e; exact .inl r
  · cases e; exact .inr (.inl r)
  · cases e; exact .inr (.inr r)
theorem ok_points_of (T : Txt K mg A) : FnOk P w K mg base CX0 2 A.a_points_of A.d_points_of ["trees"] (spPtsOf A) := by
  refine T.F_points_of.ok sc_points_of (fun vs H Q E h => ?_) (fun cdv C outer s H vs Q E hr h => ?_)
  · obtain ⟨l, N, vs0, ts, rfl, _⟩ := h
    rfl
  · obtain ⟨l, N, vs0, ts, rfl, h1, h2, few, k⟩ := h
    refine ⟨_, (pss_one (ps_ret (pe_callB call_sortJ (by rfl) T.sorted (by decide +kernel) (pa_cons (pe_lc2 (own := [("tree", 1), ("point", 2)]) (vs1 := [2]) rfl sc_points_of.nd (pi_list (pv 0)) (blkOk_by (own := [("tree", 1), ("point", 2)]) (N := ["trees", "tree", "point"]) (sc := defScope s_points_of) (by decide +kernel)) (by decide) (fun _ _ _ _ _ => by exact (pg_name (i := 1) sc_points_of.nd rfl (Or.inl rfl))) (fun _ _ _ _ _ => by exact pts_nil) (fun _ _ _ _ _ => by exact (pi_listK (K0 := K) (PE.or (pe_meth0 (pv 1) T.cl_Point T.m_Point_points (ok_Point_points T) (hr.mono (by omega)) T.b_Point_points .nil pass0) (PE.or (pe_meth0 (pv 1) T.cl_Side T.m_Side_points (ok_Side_points T) (hr.mono (by omega)) T.b_Side_points .nil pass0) (pe_meth0 (pv 1) T.cl_Join T.m_Join_points (ok_Join_points T) (hr.mono (by omega)) T.b_Join_points .nil pass0))))) (fun _ _ _ _ _ => by exact (pg_name (i := 2) sc_points_of.nd rfl (Or.inl rfl))) (fun _ _ _ _ _ => by exact pts_nil) (fun _ _ _ _ _ => by exact (pv 2))) pa_nil)))), ?_⟩
    have fl := (tpts_perm ts).length_eq
    refine ⟨_, rfl, l, rfl, ⟨_, .inl (.inl h1)⟩, fun D hD => lc2_list (ts.map fun t => (tpts t).map V.int) hD (.inl (.inl h1)) (by simp [h2.len]) (by rw [flat_tpts, List.length_map, fl]; omega) (fun i x H1 hx e hH => ?_) (fun x σ H Q Q' m q => m _ _ q) (fun x σ H Q Q' m q => m _ _ q) (fun H1 e h => ?_)⟩
    · obtain ⟨t, ht, hat⟩ := h2.get hx
      simp [wipe, L2.start, iList]
      intro Nn hN
      refine read_points (hat.up e) fun q H2 n2 e2 h2 => ⟨q, rfl, ⟨_, .inl (.inl h2)⟩, hN q H2 e2 (fun z => hH (by rw [← z]; exact n2)) ?_⟩
      simp [ht]
      exact .inl (.inl h2)
    · rw [flat_tpts] at h
      refine ⟨D, _, rfl, h, by rw [fl]; exact few, fun p H2 n2 e2 h2 => k p H2 (fresh_back e n2) (e.trans e2) ?_⟩
      rw [← srt_of_perm (tpts_perm ts)]
      exact h2
theorem ok_Side_init (T : Txt K mg A) : FnOk P w K mg base CX0 3 A.a_Side_init A.d_Side_init ["self", "parts"] (spSideInit A) := by
  refine T.F_Side_init.ok sc_Side_init (fun vs H Q E h => ?_) (fun cdv C outer s H vs Q E hr h => ?_)
  · obtain ⟨p, dx, l0, N, vs0, ts, rfl, _⟩ := h
    rfl
  · obtain ⟨p, dx, l0, N, vs0, ts, rfl, h1, h2, h3, hn, hlp, few, k⟩ := h
    refine ⟨_, (pss_cons (ps_fld (pv 0) (pe_callTy call_listJ (by rfl) T.list (by decide +kernel) (pa_cons (pv 1) pa_nil)) rfl)
  (pss_one (ps_fld (pv 0) (pe_call (ok_points_of T) (hr.mono (by omega)) rfl T.g_points_of T.k_points_of T.b_points_of .nil pass0 (pa_cons (pe_fldK (K0 := K) (pv 0)) pa_nil)) rfl))), ?_⟩
    simp [L2.start, and_assoc, h1, h2, jList, T.cl_Side, T.n_Side__parts, T.n_Side__points]
    intro l H1 n1 e1 g1
    have g1p := e1 _ _ h1
    have lp : l ≠ p := (ne_of_none h1 n1).symm
    simp [g1p]
    have b1 : But [p] H (upd H1 p (.ins A.c_Side dx (putF "_parts" (.ref l) []))) := (But.of_ex e1).updT (by simp)
    have hl : (upd H1 p (.ins A.c_Side dx (putF "_parts" (.ref l) []))) l = some (.lst vs0) := by rw [upd_ne lp]; exact g1
    refine ⟨_, _, _, ⟨rfl, rfl, rfl⟩, T.cl_Side, T.n_Side__parts, by simp, _, _, _, upd_same, T.cl_Side, T.n_Side__parts, .ref l, by rw [lookup_putF, if_pos rfl], l, N, vs0, ts, rfl, hl, h3.to fun x o nx hx => ⟨nx, b1.kp _ _ hx (by simpa using hn x nx)⟩, few, fun q H2 n2 e2 h2 => ⟨_, _, _, e2 _ _ upd_same, T.cl_Side, T.n_Side__points, by unfold putF; simp, ?_⟩⟩
    have n2' := b1.dm _ n2
    have qp : q ≠ p := (ne_of_none h1 n2').symm
    refine k _ l q ((b1.trans (But.of_ex e2)).updT (by simp)) n1 n2' (by rw [upd_same]; rfl) (by rw [upd_ne lp]; exact e2 _ _ hl) ?_
    unfold LsI
    rw [upd_ne qp]
    exact h2
theorem ok_Join_init (T : Txt K mg A) : FnOk P w K mg base CX0 3 A.a_Join_init A.d_Join_init ["self", "parts"] (spJoinInit A) := by
  refine T.F_Join_init.ok sc_Join_init (fun vs H Q E h => ?_) (fun cdv C outer s H vs Q E hr h => ?_)
  · obtain ⟨p, dx, l0, N, vs0, ts, rfl, _⟩ := h
    rfl
  · obtain ⟨p, dx, l0, N, vs0, ts, rfl, h1, h2, h3, hn, hlp, few, k⟩ := h
    refine ⟨_, (pss_cons (ps_fld (pv 0) (pe_callTy call_listJ (by rfl) T.list (by decide +kernel) (pa_cons (pv 1) pa_nil)) rfl)
  (pss_one (ps_fld (pv 0) (pe_call (ok_points_of T) (hr.mono (by omega)) rfl T.g_points_of T.k_points_of T.b_points_of .nil pass0 (pa_cons (pe_fldK (K0 := K) (pv 0)) pa_nil)) rfl))), ?_⟩
    simp [L2.start, and_assoc, h1, h2, jList, T.cl_Join, T.n_Join__parts, T.n_Join__points]
    intro l H1 n1 e1 g1
    have g1p := e1 _ _ h1
    have lp : l ≠ p := (ne_of_none h1 n1).symm
    simp [g1p]
    have b1 : But [p] H (upd H1 p (.ins A.c_Join dx (putF "_parts" (.ref l) []))) := (But.of_ex e1).updT (by simp)
    have hl : (upd H1 p (.ins A.c_Join dx (putF "_parts" (.ref l) []))) l = some (.lst vs0) := by rw [upd_ne lp]; exact g1
    refine ⟨_, _, _, ⟨rfl, rfl, rfl⟩, T.cl_Join, T.n_Join__parts, by simp, _, _, _, upd_same, T.cl_Join, T.n_Join__parts, .ref l, by rw [lookup_putF, if_pos rfl], l, N, vs0, ts, rfl, hl, h3.to fun x o nx hx => ⟨nx, b1.kp _ _ hx (by simpa using hn x nx)⟩, few, fun q H2 n2 e2 h2 => ⟨_, _, _, e2 _ _ upd_same, T.cl_Join, T.n_Join__points, by unfold putF; simp, ?_⟩⟩
    have n2' := b1.dm _ n2
    have qp : q ≠ p := (ne_of_none h1 n2').symm
    refine k _ l q ((b1.trans (But.of_ex e2)).updT (by simp)) n1 n2' (by rw [upd_same]; rfl) (by rw [upd_ne lp]; exact e2 _ _ hl) ?_
    unfold LsI
    rw [upd_ne qp]
    exact h2
end
end Jk

namespace Jk
open PySem L2 Evl
theorem srt_head {l : List Int} {m : Int} (h : m ∈ l) (k : ∀ n ∈ l, m ≤ n) : (srt l)[0]? = some m := by
  have hp := srt_perm l
  have hs := srt_le l
  cases e : srt l with
  | nil => rw [e] at hp; have := hp.mem_iff.mpr h; simp at this
  | cons a r =>
    rw [e] at hp hs
    have h1 := k a (hp.mem_iff.mp (by simp))
    have h2 : a ≤ m := by
      rcases List.mem_cons.mp (hp.mem_iff.mpr h) with z | z
      · omega
      · exact (List.pairwise_cons.mp hs).1 m z
    have : a = m := by omega
    rw [this]; rfl
theorem least_le : ∀ (t : Tr), t.form → ∀ n ∈ t.pts, t.least ≤ n
  | .pt m, _, n, h => by simp [Tr.pts] at h; rw [Tr.least, h]; exact Int.le_refl _
  | .nd j ts, hf, n, h => by
    rw [Tr.form] at hf
    rw [Tr.pts, mem_ptsL] at h
    obtain ⟨u, hu, hn⟩ := h
    have h1 := least_le u (formL_iff.mp hf.2.2 u hu).1 n hn
    cases ts with
    | nil => cases hu
    | cons t us =>
      rw [Tr.least, leastL]
      rcases List.mem_cons.mp hu with rfl | hu
      · exact h1
      · have := (List.pairwise_cons.mp hf.2.1).1 u.least (List.mem_map_of_mem hu)
        omega
theorem tpts_head {t : Tr} (h : t.form) : (tpts t)[0]? = some t.least := srt_head (least_in t h) (least_le t h)
theorem leasts_srt {ts : List Tr} (h : (ts.map Tr.least).Pairwise (· < ·)) : srt (ts.map Tr.least) = ts.map Tr.least := srt_fix (h.imp fun z => by omega)
theorem parts_le {j : Bool} : ∀ {ts : List Tr}, formL j ts → ts.length ≤ (ptsL ts).length
  | [], _ => Nat.zero_le _
  | t :: ts, h => by
    rw [formL] at h
    have := t.dep_lt h.1
    have := parts_le h.2.2
    rw [ptsL, List.length_append, List.length_cons]
    omega
theorem TreeL.snoc {A : Adr} {N : Addr → Prop} {H : Hp} {vs : List V} {ts : List Tr} {v : V} {t : Tr} (h : TreeL A N H vs ts) (ht : TreeAt A N H v t) : TreeL A N H (vs ++ [v]) (ts ++ [t]) := by
  refine treeL_of (by simp [h.len]) fun k u hu => ?_
  rcases app_get hu with ⟨_, q⟩ | ⟨q1, q2⟩
  · obtain ⟨t', h1, h2⟩ := h.get q
    exact ⟨t', get_app h1, h2⟩
  · subst q2
    rw [q1, h.len]
    exact ⟨t, get_new, ht⟩
def metK (ns : List Int) : List (Key × V) := ns.map fun n => (Sum.inl n, V.bl true)
theorem valV_metK {kvs : List (Key × V)} {ns : List Int} {x : Int} (h : valV kvs (Sum.inl x) = none) (hx : x ∉ ns) : valV (kvs ++ ns.map fun n => (Sum.inl n, V.bl true)) (Sum.inl x) = none := by
  unfold valV at h ⊢
  rw [List.find?_append]
  simp only [Option.map_eq_none_iff] at h ⊢
  rw [h]
  simp only [Option.none_or, List.find?_eq_none]
  intro p hp
  obtain ⟨n, hn, rfl⟩ := List.mem_map.mp hp
  simp
  intro z
  exact hx (z ▸ hn)
def spOpened : Sp := fun vs H Q _ => ∃ (a b : Addr) (j : Bool) (xs : List V), vs = [.ref a] ∧ H a = some (.tup [.str (wdS j), .ref b]) ∧ H b = some (.tup xs) ∧ 2 ≤ xs.length ∧ ∀ q H', Ex H H' → H' q = some (.tup [.str (wdS j), .ref b]) → Q (.ref q) H'
def spUnder (A : Adr) (d : Nat) : Sp := fun vs H Q _ => ∃ (ab : Str) (v : V) (t : Tr) (deep : Int) (m : Addr) (kvs : List (Key × V)), vs = [.str ab, v, .int deep, .ref m] ∧ ToldAt H v t ∧ t.form ∧ t.pts.Nodup ∧ (∀ n ∈ t.pts, 0 ≤ n ∧ n ≤ 29) ∧ (∀ j, t.wd = some j → ¬ wdS j = ab) ∧ ((t.dep : Int) ≤ deep ∧ t.dep < d) ∧
  H m = some (.dK kvs) ∧ (∀ n ∈ t.pts, valV kvs (Sum.inl n) = none) ∧ kvs.length + t.pts.length ≤ 60 ∧
  ∀ a H', But [m] H H' → H' m = some (.dK (kvs ++ t.pts.map fun n => (Sum.inl n, V.bl true))) → TreeAt A (fun x => H x = none) H' (.ref a) t → Q (.ref a) H'
def spTreeBy (A : Adr) : Sp := fun vs H Q _ => ∃ (v : V) (t : Tr), vs = [v] ∧ ToldAt H v t ∧ t.form ∧ t.pts.Nodup ∧ (∀ n ∈ t.pts, 0 ≤ n ∧ n ≤ 29) ∧ ∀ a H', Ex H H' → TreeAt A (fun x => H x = none) H' (.ref a) t → Q (.ref a) H'
theorem pts_few {t : Tr} (nd : t.pts.Nodup) (h : ∀ n ∈ t.pts, 0 ≤ n ∧ n ≤ 29) : t.pts.length ≤ 30 := nd_len nd fun n hn => ⟨(h n hn).1, by have := (h n hn).2; omega⟩
theorem dep_few {t : Tr} (f : t.form) (nd : t.pts.Nodup) (h : ∀ n ∈ t.pts, 0 ≤ n ∧ n ≤ 29) : t.dep ≤ 29 := by have := t.dep_lt f; have := pts_few nd h; omega
section
variable {P : Program} {w : World} {K : PySem.W.Frag} {mg : Str → Option Value} {base : Heap} {A : Adr}
theorem ok_opened (T : Txt K mg A) : FnOk P w K mg base CX0 1 A.a_opened A.d_opened ["told"] spOpened := by
  refine T.F_opened.ok sc_opened (fun vs H Q E h => ?_) (fun cdv C outer s H vs Q E hr h => ?_)
  · obtain ⟨a, b, j, xs, rfl, _⟩ := h
    rfl
  · obtain ⟨a, b, j, xs, rfl, h1, h2, h3, k⟩ := h
    refine ⟨_, (pss_cons (ps_if (PW.pt (pw_or (pt_not (pt_val (pe_callB call_isJ (by rfl) T.isinstance (by decide +kernel) (pa_cons (pv 0) (pa_cons (pe_bltn (v := .ty "tuple") (u := .type "tuple") (by rfl) T.tuple (by decide +kernel) rfl) pa_nil))))) (pw_or1 (pt_cmpR op_ne (pe_callB call_lenT (by rfl) T.len (by decide +kernel) (pa_cons (pv 0) pa_nil)) pe_int (nomark _)))))
    (pss_one ps_never)
    pss_nil)
  (pss_cons (ps_asg (pv 0) (pg_tupJ (n := 2) rfl (pgs_cons (pg_name (i := 1) sc_opened.nd rfl (.inl rfl)) (pgs_cons (pg_name (i := 2) sc_opened.nd rfl (.inl rfl)) pgs_nil))))
  (pss_cons (ps_if (PW.pt (pw_or (pt_not (pt_val (pe_callB call_isJ (by rfl) T.isinstance (by decide +kernel) (pa_cons (pv 1) (pa_cons (pe_bltn (v := .ty "str") (u := .type "str") (by rfl) T.str (by decide +kernel) rfl) pa_nil))))) (pw_or1 (PW.pt (pw_and (pt_cmpR op_ne (pv 1) (pe_glob (v := .str "side") rfl T.cSIDE.choose_spec ⟨_, rfl⟩) (nomark _)) (pw_and1 (pt_cmpR op_ne (pv 1) (pe_glob (v := .str "join") rfl T.cJOIN.choose_spec ⟨_, rfl⟩) (nomark _))))))))
    (pss_one ps_never)
    pss_nil)
  (pss_cons (ps_if (PW.pt (pw_or (pt_not (pt_val (pe_callB call_isJ (by rfl) T.isinstance (by decide +kernel) (pa_cons (pv 2) (pa_cons (pe_bltn (v := .ty "tuple") (u := .type "tuple") (by rfl) T.tuple (by decide +kernel) rfl) pa_nil))))) (pw_or1 (pt_cmpR op_lt (pe_callB call_lenT (by rfl) T.len (by decide +kernel) (pa_cons (pv 2) pa_nil)) pe_int (nomark _)))))
    (pss_one ps_never)
    pss_nil)
  (pss_one (ps_ret (pe_tupJ (pa_cons (pv 1) (pa_cons (pv 2) pa_nil))))))))), ?_⟩
    have w1 : (wdS j = ("side" : Str)) ∨ (wdS j = ("join" : Str)) := by cases j; exact .inl rfl; exact .inr rfl
    simp [L2.start, and_assoc, h1, h2, tyN_tup h1, tyN_tup h2, jLenT]
    cases j with
    | false => exact .inl ⟨rfl, .inl ⟨by omega, fun p H2 _ e h => k p H2 e h⟩⟩
    | true => exact .inr ⟨by decide +kernel, .inl ⟨rfl, .inl ⟨by omega, fun p H2 _ e h => k p H2 e h⟩⟩⟩
theorem none_spUnder {f : Addr} {fd : FuncData} {ps : List Str} {k : Nat} : FnOk P w K mg base CX0 k f fd ps (spUnder A 0) :=
  ⟨fun vs H Q E ⟨_, _, _, _, _, _, _, _, _, _, _, _, h, _⟩ => absurd h.2 (Nat.not_lt_zero _), fun A outer s H args us vs Q E _ _ _ _ ⟨_, _, _, _, _, _, _, _, _, _, _, _, h, _⟩ => absurd h.2 (Nat.not_lt_zero _)⟩
theorem step_tree_under (T : Txt K mg A) {d : Nat} (ih : FnOk P w K mg base CX0 (d + 4) A.a_tree_under A.d_tree_under ["above", "told", "deep", "met"] (spUnder A d)) : FnOk P w K mg base CX0 (d + 5) A.a_tree_under A.d_tree_under ["above", "told", "deep", "met"] (spUnder A (d + 1)) := by
  refine T.F_tree_under.ok sc_tree_under (fun vs H Q E h => ?_) (fun cdv C outer s H vs Q E hr h => ?_)
  · obtain ⟨ab, v, t, deep, m, kvs, rfl, _⟩ := h
    rfl
  · obtain ⟨ab, v, t, deep, m, kvs, rfl, hv, hf, nd, inr, nab, ⟨hdp, hd⟩, hm, hfree, few, k⟩ := h
    have hu := hu_of hr
    refine ⟨_, (pss_cons (ps_if (pt_val (pe_call (ok_whole_within T) (hr.mono (by omega)) rfl T.g_whole_within T.k_whole_within T.b_whole_within .nil pass0 (pa_cons (pv 1) (pa_cons pe_int (pa_cons (pe_op op_sub (pe_glob (v := .int 30) rfl T.cMOST_POINTS.choose_spec ⟨_, rfl⟩) pe_int) pa_nil)))))
    (pss_cons (ps_if (pt_cmp (pc_dinJ (by exact hu) (pv 1) (pv 3)))
        (pss_one ps_never)
        pss_nil)
      (pss_cons (ps_dputJ (by exact hu) (pv 3) (pv 1) pe_bl rfl)
      (pss_one (ps_ret (pe_make T.mk_Point (ok_Point_init T) (hr.mono (by omega)) rfl T.gPoint T.b_Point_init .nil pass0 (pa_cons (pv 1) pa_nil))))))
    pss_nil)
  (pss_cons (ps_asg (pe_call (ok_opened T) (hr.mono (by omega)) rfl T.g_opened T.k_opened T.b_opened .nil pass0 (pa_cons (pv 1) pa_nil)) (pg_tupJ (n := 2) rfl (pgs_cons (pg_name (i := 4) sc_tree_under.nd rfl (.inr rfl)) (pgs_cons (pg_name (i := 5) sc_tree_under.nd rfl (.inl rfl)) pgs_nil))))
  (pss_cons (ps_if (pt_cmpR op_eq (pv 4) (pv 0) (nomark _))
    (pss_one ps_never)
    pss_nil)
  (pss_cons (ps_if (pt_cmpR op_eq (pv 2) pe_int (nomark _))
    (pss_one ps_never)
    pss_nil)
  (pss_cons (ps_setLc (i := 6) (own := [("within", 8)]) rfl sc_tree_under.nd rfl rfl (sw_true rfl rfl rfl (by decide +kernel)) (pi_tup (pv 5)) (blkOk_by (own := [("within", 8)]) (N := ["above", "told", "deep", "met", "word", "parts", "trees", "leasts", "within", "tree"]) (sc := defScope s_tree_under) (by decide +kernel)) (fun _ _ _ _ _ => by exact (pg_name (i := 8) sc_tree_under.nd rfl (Or.inl rfl))) (fun _ _ _ _ _ => by exact pts_nil) (fun _ _ _ _ _ => by exact (pe_call ih (hr.mono (by omega)) rfl T.g_tree_under T.k_tree_under T.b_tree_under .nil pass0 (pa_cons (pv 4) (pa_cons (pv 8) (pa_cons (pe_op op_sub (pv 2) pe_int) (pa_cons (pv 3) pa_nil)))))))
  (pss_cons (ps_setLc (i := 7) (own := [("tree", 9)]) rfl sc_tree_under.nd rfl rfl (sw_true rfl rfl rfl (by decide +kernel)) (pi_list (pv 6)) (blkOk_by (own := [("tree", 9)]) (N := ["above", "told", "deep", "met", "word", "parts", "trees", "leasts", "within", "tree"]) (sc := defScope s_tree_under) (by decide +kernel)) (fun _ _ _ _ _ => by exact (pg_name (i := 9) sc_tree_under.nd rfl (Or.inl rfl))) (fun _ _ _ _ _ => by exact pts_nil) (fun _ _ _ _ _ => by exact (pe_ix ix_listJ (PE.or (pe_meth0 (pv 9) T.cl_Point T.m_Point_points (ok_Point_points T) (hr.mono (by omega)) T.b_Point_points .nil pass0) (PE.or (pe_meth0 (pv 9) T.cl_Side T.m_Side_points (ok_Side_points T) (hr.mono (by omega)) T.b_Side_points .nil pass0) (pe_meth0 (pv 9) T.cl_Join T.m_Join_points (ok_Join_points T) (hr.mono (by omega)) T.b_Join_points .nil pass0))) pe_int (fun _ _ => rfl))))
  (pss_cons (ps_if (pt_cmpR (op_neI hr.units) (pv 7) (pe_callB call_sortJ (by rfl) T.sorted (by decide +kernel) (pa_cons (pv 7) pa_nil)) (nomark _))
    (pss_one ps_never)
    pss_nil)
  (pss_cons (ps_if (pt_cmpR op_eq (pv 4) (pe_glob (v := .str "side") rfl T.cSIDE.choose_spec ⟨_, rfl⟩) (nomark _))
    (pss_one (ps_ret (pe_make T.mk_Side (ok_Side_init T) (hr.mono (by omega)) rfl T.gSide T.b_Side_init .nil pass0 (pa_cons (pv 6) pa_nil))))
    pss_nil)
  (pss_one (ps_ret (pe_make T.mk_Join (ok_Join_init T) (hr.mono (by omega)) rfl T.gJoin T.b_Join_init .nil pass0 (pa_cons (pv 6) pa_nil)))))))))))), ?_⟩
    rcases told_kind hv with ⟨n, rfl, rfl⟩ | ⟨j, ts, a, b, vs, rfl, rfl, h1, h2, h3⟩
    · have in1 := inr n (by simp [Tr.pts])
      have hn := hfree n (by simp [Tr.pts])
      have hR : inR (.int n) 0 29 = true := by simp [inR]; omega
      have fw := few
      simp only [Tr.pts, List.length_singleton] at fw
      simp [L2.start, and_assoc, spWhole, hR, hm, hn]
      refine ⟨.int n, by omega, fun x dx nx ndx nxd => ?_⟩
      have bm : But [m] H (upd H m (.dK (putK kvs (Sum.inl n) (.bl true)))) := But.upd (by simp)
      have hx0 : H x = none := bm.dm _ nx
      have hd0 : H dx = none := bm.dm _ ndx
      have nxm : x ≠ m := fun z => by rw [z, hm] at hx0; cases hx0
      have ndm : dx ≠ m := fun z => by rw [z, hm] at hd0; cases hd0
      refine ⟨x, dx, n, rfl, upd_same, rfl, k x _ ?_ ?_ ?_⟩
      · refine ⟨fun y o hy ny => ?_, fun y hy => ?_⟩
        · rw [upd_ne (fun z => by rw [z, hx0] at hy; cases hy), upd_ne (fun z => by rw [z, hx0] at hy; cases hy), upd_ne (fun z => by rw [z, hd0] at hy; cases hy)]
          exact bm.kp _ _ hy ny
        · by_cases e1 : y = x
          · rw [e1]; exact hx0
          · rw [upd_ne e1, upd_ne e1] at hy
            by_cases e2 : y = dx
            · rw [e2]; exact hd0
            · rw [upd_ne e2] at hy
              exact bm.dm _ hy
      · rw [upd_ne nxm.symm, upd_ne nxm.symm, upd_ne ndm.symm, upd_same, putK_new _ hn]
        simp [Tr.pts]
      · rw [TreeAt]
        exact ⟨x, dx, rfl, hx0, upd_same⟩
    · have hR : inR (.ref a) 0 29 = false := rfl
      have n1 := wd_ne j
      rw [Tr.form] at hf
      rw [Tr.pts] at nd inr hfree few k
      rw [Tr.dep] at hdp hd
      have lenv := h3.len
      have plen := parts_le hf.2.2
      simp [L2.start, and_assoc, spWhole, hR]
      refine ⟨.tup h1, a, b, j, vs, rfl, h1, h2, by omega, fun q H1 e1 hq => ?_⟩
      have nab' := nab j rfl
      have dne : ¬ deep = 0 := by omega
      simp [hq, nab', dne]
      refine ⟨_, rfl, b, rfl, ⟨_, .inl (.inl (e1 _ _ h2))⟩, fun D hD => lc_tup (xs := vs) (fun i H2 => But [m] H1 H2 ∧ H2 m = some (.dK (kvs ++ (ptsL (ts.take i)).map fun n => (Sum.inl n, V.bl true))) ∧ ∃ acc, H2 D = some (.lst acc) ∧ TreeL A (fun x => H1 x = none ∧ x ≠ D) H2 acc (ts.take i)) ?_ (fun i H2 _ c => .inl (.inl (c.1.kp _ _ (e1 _ _ h2) (by simp; intro z; rw [z, hm] at h2; cases h2)))) (fun i x H2 hx c => ?_) (fun H4 c => ?_)⟩
      · have ne : m ≠ D := fun z => by rw [← z, e1 _ _ hm] at hD; cases hD
        refine ⟨But.of_ex (Ex.new hD), by rw [upd_ne ne]; simpa [ptsL] using e1 _ _ hm, [], upd_same, by simp [TreeL]⟩
      · obtain ⟨b2, hm2, acc, hD2, tl⟩ := c
        obtain ⟨u, hu, hat⟩ := h3.get hx
        have hmem := List.mem_of_getElem? hu
        have fu := formL_iff.mp hf.2.2 u hmem
        have pstep := pts_step hu
        have ptl := pts_take ts (i + 1)
        rw [pstep, List.length_append] at ptl
        have dl := depL_le hmem
        have al := tl.len
        simp [L2.start, wipe]
        refine ⟨wdS j, x, u, deep - 1, m, _, rfl, ?_, fu.1, nd_part nd hmem, fun n hn => inr n (mem_ptsL.mpr ⟨u, hmem, hn⟩), fun j2 e2 z => ?_, ⟨by omega, by omega⟩, hm2, fun n hn => ?_, by simp; omega, fun a4 H4 b4 hm4 ht4 => ?_⟩
        · exact ToldAt.map (fun y o z => b2.kp _ _ (e1 _ _ z) (by simp; intro e; rw [e, hm] at z; cases z)) u x hat
        · have : j2 = j := by cases j2 <;> cases j <;> first | rfl | exact absurd z (by decide +kernel)
          rw [this] at e2
          exact fu.2 e2
        · refine valV_metK (hfree n (mem_ptsL.mpr ⟨u, hmem, hn⟩)) fun z => ?_
          have nd2 : (ptsL (ts.take (i + 1) ++ ts.drop (i + 1))).Nodup := by rw [List.take_append_drop]; exact nd
          rw [ptsL_app, pstep] at nd2
          exact (List.nodup_append.mp (List.nodup_append.mp nd2).1).2.2 n z n hn rfl
        · have mD : m ≠ D := fun z => by rw [← z, hm2] at hD2; cases hD2
          have hD4 := b4.kp _ _ hD2 (by simp; exact mD.symm)
          refine ⟨acc, hD4, lt_line (by rw [al, List.length_take]; omega), ?_⟩
          have kD : ∀ y o, H4 y = some o → y ≠ D → (upd H4 D (.lst (acc ++ [.ref a4]))) y = some o := fun y o hy ny => by rw [upd_ne ny]; exact hy
          refine ⟨⟨fun y o hy ny => kD _ _ (b4.kp _ _ (b2.kp _ _ hy ny) ny) (fun z => by rw [z, hD] at hy; cases hy), fun y hy => ?_⟩, kD _ _ (by rw [hm4, pstep, List.map_append, List.append_assoc]) mD, _, upd_same, ?_⟩
          · by_cases e : y = D
            · rw [e]; exact hD
            · rw [upd_ne e] at hy
              exact b2.dm _ (b4.dm _ hy)
          · rw [take_one hu]
            have hmn : H1 m ≠ none := by rw [e1 _ _ hm]; simp
            refine TreeL.snoc (tl.to fun y o ny hy => ⟨ny, kD _ _ (b4.kp _ _ hy (by simp; intro z; exact hmn (z ▸ ny.1))) ny.2⟩) (ht4.to fun y o ny hy => ?_)
            have nyD : y ≠ D := fun z => by rw [z, hD2] at ny; cases ny
            exact ⟨⟨b2.dm _ ny, nyD⟩, kD _ _ hy nyD⟩
      · obtain ⟨b2, hm2, acc, hD2, tl⟩ := c
        rw [List.take_of_length_le (by omega)] at tl hm2
        refine ⟨_, rfl, D, rfl, ⟨_, .inl (.inl hD2)⟩, fun L hL => lc_listS (xs := acc) (fun i y _ => y = .int ((ts.map Tr.least).getD i 0)) (fun i y H H' acc h _ _ => h) hL (.inl (.inl hD2)) (by have := tl.len; omega) (fun i x H5 Nn hx e5 hL5 hN => ?_) (fun lst H5 e5 h5 hlen hall => ?_)⟩
        · obtain ⟨u, hu, hat⟩ := tl.get hx
          have fu := formL_iff.mp hf.2.2 u (List.mem_of_getElem? hu)
          simp [wipe]
          refine read_points (hat.up e5) fun q6 H6 n6 e6 h6 => ?_
          rw [j_ixL]
          refine ⟨_, .int u.least, h6, by omega, ?_, hN _ H6 e6 (by simp [hu])⟩
          rw [List.getElem?_map, show (0 : Int).toNat = 0 from rfl, tpts_head fu.1]
          rfl
        · have eI : lst = (ts.map Tr.least).map V.int := ints_of (by rw [hlen, tl.len, List.length_map]) fun i y hy => by
            have hi : i < ts.length := by have := lt_of_get hy; rw [hlen, tl.len] at this; exact this
            exact ⟨ts[i].least, by rw [List.getElem?_map, List.getElem?_eq_getElem hi]; rfl, by rw [hall i y hy]; simp [List.getElem?_eq_getElem hi]⟩
          subst eI
          have hI : LsI H5 L (ts.map Tr.least) := h5
          simp
          refine ⟨_, hI, by rw [List.length_map]; omega, fun p Hz n6 e6 h6 => ?_⟩
          rw [leasts_srt hf.2.1] at h6
          have e46 := e5.trans e6
          have b04 : But [m] H Hz := ((But.of_ex e1).trans b2).trans (But.of_ex e46)
          have hm4 := e46 _ _ hm2
          have hD4 := e46 _ _ hD2
          have htl4 := tl.up e46
          refine ⟨_, hI.up e6, _, h6, .inl ⟨rfl, ?_⟩⟩
          cases j with
          | true =>
            refine .inl ⟨by decide +kernel, ?_⟩
            intro x dx nx ndx nxd
            have e34 := (Ex.new (H := Hz) (p := dx) (o := .own x) ndx)
            have nx' : (upd Hz dx (.own x)) x = none := by rw [upd_ne (Ne.symm nxd)]; exact nx
            have e35 := e34.trans (Ex.new (H := upd Hz dx (.own x)) (p := x) (o := .ins A.c_Join dx []) nx')
            have hx0 : H x = none := b04.dm _ nx
            refine ⟨x, dx, D, fun y => H y = none ∧ y ≠ x, acc, ts, rfl, upd_same, e35 _ _ hD4, htl4.to (fun y o ny hy => ⟨⟨fresh_back e1 ny.1, fun z => by rw [z, nx] at hy; cases hy⟩, e35 _ _ hy⟩), (fun y ny => ny.2), (fun z => by rw [z, nx] at hD4; cases hD4), by omega, fun H6 l q b6 nl nq g1 g2 g3 => ⟨rfl, ?_⟩⟩
            have b46 : But [x] (upd (upd Hz dx (.own x)) x (.ins A.c_Join dx [])) H6 := b6
            have hm6 : H6 m = some (.dK (kvs ++ (ptsL ts).map fun n => (Sum.inl n, V.bl true))) := b6.kp _ _ (e35 _ _ hm4) (by simp; intro z; rw [z, nx] at hm4; cases hm4)
            have b06 : But [m] H H6 := ⟨fun y o hy ny => b6.kp _ _ (e35 _ _ (b04.kp _ _ hy ny)) (by simp; intro z; rw [z, hx0] at hy; cases hy), fun y hy => b04.dm _ (fresh_back e35 (b6.dm _ hy))⟩
            refine k x H6 b06 hm6 ?_
            rw [TreeAt]
            have fr : ∀ y, (upd (upd Hz dx (.own x)) x (.ins A.c_Join dx [])) y = none → H y = none := fun y hy => b04.dm _ (fresh_back e35 hy)
            exact ⟨x, dx, l, q, acc, rfl, hx0, fr _ nl, fr _ nq, g1, g2, g3, htl4.to fun y o ny hy => ⟨fresh_back e1 ny.1, b6.kp _ _ (e35 _ _ hy) (by simp; intro z; rw [z, nx] at hy; cases hy)⟩⟩
          | false =>
            refine .inr ⟨rfl, ?_⟩
            intro x dx nx ndx nxd
            have e34 := (Ex.new (H := Hz) (p := dx) (o := .own x) ndx)
            have nx' : (upd Hz dx (.own x)) x = none := by rw [upd_ne (Ne.symm nxd)]; exact nx
            have e35 := e34.trans (Ex.new (H := upd Hz dx (.own x)) (p := x) (o := .ins A.c_Side dx []) nx')
            have hx0 : H x = none := b04.dm _ nx
            refine ⟨x, dx, D, fun y => H y = none ∧ y ≠ x, acc, ts, rfl, upd_same, e35 _ _ hD4, htl4.to (fun y o ny hy => ⟨⟨fresh_back e1 ny.1, fun z => by rw [z, nx] at hy; cases hy⟩, e35 _ _ hy⟩), (fun y ny => ny.2), (fun z => by rw [z, nx] at hD4; cases hD4), by omega, fun H6 l q b6 nl nq g1 g2 g3 => ⟨rfl, ?_⟩⟩
            have b46 : But [x] (upd (upd Hz dx (.own x)) x (.ins A.c_Side dx [])) H6 := b6
            have hm6 : H6 m = some (.dK (kvs ++ (ptsL ts).map fun n => (Sum.inl n, V.bl true))) := b6.kp _ _ (e35 _ _ hm4) (by simp; intro z; rw [z, nx] at hm4; cases hm4)
            have b06 : But [m] H H6 := ⟨fun y o hy ny => b6.kp _ _ (e35 _ _ (b04.kp _ _ hy ny)) (by simp; intro z; rw [z, hx0] at hy; cases hy), fun y hy => b04.dm _ (fresh_back e35 (b6.dm _ hy))⟩
            refine k x H6 b06 hm6 ?_
            rw [TreeAt]
            have fr : ∀ y, (upd (upd Hz dx (.own x)) x (.ins A.c_Side dx [])) y = none → H y = none := fun y hy => b04.dm _ (fresh_back e35 hy)
            exact ⟨x, dx, l, q, acc, rfl, hx0, fr _ nl, fr _ nq, g1, g2, g3, htl4.to fun y o ny hy => ⟨fresh_back e1 ny.1, b6.kp _ _ (e35 _ _ hy) (by simp; intro z; rw [z, nx] at hy; cases hy)⟩⟩
theorem ok_tree_under (T : Txt K mg A) : ∀ d : Nat, FnOk P w K mg base CX0 (d + 4) A.a_tree_under A.d_tree_under ["above", "told", "deep", "met"] (spUnder A d)
  | 0 => none_spUnder
  | d + 1 => step_tree_under T (ok_tree_under T d)
theorem ok_tree_by (T : Txt K mg A) : FnOk P w K mg base CX0 35 A.a_tree_by A.d_tree_by ["told"] (spTreeBy A) := by
  refine T.F_tree_by.ok sc_tree_by (fun vs H Q E h => ?_) (fun cdv C outer s H vs Q E hr h => ?_)
  · obtain ⟨v, t, rfl, _⟩ := h
    rfl
  · obtain ⟨v, t, rfl, hv, hf, nd, inr, k⟩ := h
    refine ⟨_, (pss_one (ps_ret (pe_call (ok_tree_under T 30) (hr.mono (by decide)) rfl T.g_tree_under T.k_tree_under T.b_tree_under .nil pass0 (pa_cons pe_str (pa_cons (pv 0) (pa_cons (pe_op op_sub (pe_glob (v := .int 30) rfl T.cMOST_POINTS.choose_spec ⟨_, rfl⟩) pe_int) (pa_cons pe_dictJ pa_nil))))))), ?_⟩
    simp [L2.start, and_assoc]
    intro m H1 n1 e1 h1
    have pf := pts_few nd inr
    have df := dep_few hf nd inr
    refine ⟨_, v, t, _, m, [], rfl, hv.up e1, hf, nd, inr, fun j _ => wd_ne j, ⟨by omega, by omega⟩, h1, fun n _ => rfl, by simp; omega, fun a H' b hm ht => ?_⟩
    refine k a H' (fun y o hy => b.kp _ _ (e1 _ _ hy) (by simp; intro z; rw [z, n1] at hy; cases hy)) (ht.to fun y o ny hy => ⟨fresh_back e1 ny, hy⟩)
end
end Jk

namespace Jk
open PySem L2 Evl
/-- as many parts as the model lays at once -/
def okW (t : Tr) : Prop := t.pts.length ≤ 1000 ∧ t.form
def spPointTold (A : Adr) : Sp := fun vs H Q _ => ∃ (a dx : Addr) (n : Int), vs = [.ref a] ∧ H a = some (.ins A.c_Point dx (pf n)) ∧ Q (.int n) H
def spPointTied (A : Adr) : Sp := fun vs H Q _ => ∃ (a dx : Addr) (n x y : Int), vs = [.ref a, .int x, .int y] ∧ H a = some (.ins A.c_Point dx (pf n)) ∧ Q (.bl false) H
def spSideTold (A : Adr) (d : Nat) : Sp := fun vs H Q _ => ∃ (v : V) (N : Addr → Prop) (ts : List Tr), vs = [v] ∧ TreeAt A N H v (.nd false ts) ∧ (Tr.nd false ts).dep < d ∧ (∀ t ∈ ts, okW t) ∧ ts.length ≤ 1000 ∧ ∀ u H', Ex H H' → ToldAt H' u (.nd false ts) → Q u H'
def spSideTied (A : Adr) (d : Nat) : Sp := fun vs H Q _ => ∃ (v : V) (N : Addr → Prop) (ts : List Tr) (x y : Int), vs = [v, .int x, .int y] ∧ TreeAt A N H v (.nd false ts) ∧ (Tr.nd false ts).dep < d ∧ ∀ H', Ex H H' → Q (.bl ((Tr.nd false ts).tie x y)) H'
def spJoinTold (A : Adr) (d : Nat) : Sp := fun vs H Q _ => ∃ (v : V) (N : Addr → Prop) (ts : List Tr), vs = [v] ∧ TreeAt A N H v (.nd true ts) ∧ (Tr.nd true ts).dep < d ∧ (∀ t ∈ ts, okW t) ∧ ts.length ≤ 1000 ∧ ∀ u H', Ex H H' → ToldAt H' u (.nd true ts) → Q u H'
def spJoinTied (A : Adr) (d : Nat) : Sp := fun vs H Q _ => ∃ (v : V) (N : Addr → Prop) (ts : List Tr) (x y : Int), vs = [v, .int x, .int y] ∧ TreeAt A N H v (.nd true ts) ∧ (Tr.nd true ts).dep < d ∧ ∀ H', Ex H H' → Q (.bl ((Tr.nd true ts).tie x y)) H'
def spToldOf (A : Adr) (d : Nat) : Sp := fun vs H Q _ => ∃ (l : Addr) (N : Addr → Prop) (vs0 : List V) (ts : List Tr), vs = [.ref l] ∧ H l = some (.lst vs0) ∧ TreeL A N H vs0 ts ∧ (∀ t ∈ ts, t.dep < d) ∧ (∀ t ∈ ts, okW t) ∧ ts.length ≤ 1000 ∧ ∀ q us H', Ex H H' → H' q = some (.tup us) → ToldL H' us ts → Q (.ref q) H'
def spAmong (A : Adr) (d : Nat) : Sp := fun vs H Q _ => ∃ (l : Addr) (N : Addr → Prop) (vs0 : List V) (ts : List Tr) (x y : Int) (j : Bool), vs = [.ref l, .int x, .int y, .bl j] ∧ H l = some (.lst vs0) ∧ TreeL A N H vs0 ts ∧ (∀ t ∈ ts, t.dep < d) ∧ ∀ H', Ex H H' → Q (.bl (tieL j ts x y)) H'
theorem parts_few {j : Bool} {ts : List Tr} (h : okW (.nd j ts)) : (∀ t ∈ ts, okW t) ∧ ts.length ≤ 1000 := by
  obtain ⟨h1, h2⟩ := h
  rw [Tr.form] at h2
  rw [Tr.pts] at h1
  refine ⟨fun t ht => ⟨?_, (formL_iff.mp h2.2.2 t ht).1⟩, by have := parts_le h2.2.2; omega⟩
  obtain ⟨l, r, rfl⟩ := List.append_of_mem ht
  rw [ptsL_app, ptsL, List.length_append, List.length_append] at h1
  omega
theorem tpts_mem {t : Tr} {x : Int} : x ∈ tpts t ↔ x ∈ t.pts := srt_mem
section
variable {P : Program} {w : World} {K : PySem.W.Frag} {mg : Str → Option Value} {base : Heap} {A : Adr}
theorem ok_Point_told (T : Txt K mg A) : FnOk P w K mg base CX0 1 A.a_Point_told A.d_Point_told ["self"] (spPointTold A) := by
  refine T.F_Point_told.ok sc_Point_told (fun vs H Q E h => ?_) (fun cdv C outer s H vs Q E hr h => ?_)
  · obtain ⟨a, dx, n, rfl, _⟩ := h
    rfl
  · obtain ⟨a, dx, n, rfl, h1, k⟩ := h
    refine ⟨_, (pss_one (ps_ret (pe_fldK (K0 := K) (pv 0)))), ?_⟩
    simp [L2.start, and_assoc, h1, T.cl_Point, T.n_Point__number, pf_number]
    exact k
theorem ok_Point_tied (T : Txt K mg A) : FnOk P w K mg base CX0 1 A.a_Point_tied A.d_Point_tied ["self", "one", "other"] (spPointTied A) := by
  refine T.F_Point_tied.ok sc_Point_tied (fun vs H Q E h => ?_) (fun cdv C outer s H vs Q E hr h => ?_)
  · obtain ⟨a, dx, n, x, y, rfl, _⟩ := h
    rfl
  · obtain ⟨a, dx, n, x, y, rfl, h1, k⟩ := h
    refine ⟨_, (pss_one (ps_ret pe_bl)), ?_⟩
    simpa [L2.start, and_assoc] using k
/-- told() of any tree -/
theorem read_told {d : Nat} {v : V} {t : Tr} {N : Addr → Prop} {H : Hp} {Q : VK} (h : TreeAt A N H v t) (hd : t.dep < d) (hw : okW t) (k : ∀ u H', Ex H H' → ToldAt H' u t → Q u H') :
    (∃ a, v = .ref a ∧ ∃ dx fs, H a = some (.ins A.c_Point dx fs) ∧ NoFld fs "told" ∧ spPointTold A [v] H Q E0) ∨ (∃ a, v = .ref a ∧ ∃ dx fs, H a = some (.ins A.c_Side dx fs) ∧ NoFld fs "told" ∧ spSideTold A d [v] H Q E0) ∨ (∃ a, v = .ref a ∧ ∃ dx fs, H a = some (.ins A.c_Join dx fs) ∧ NoFld fs "told" ∧ spJoinTold A d [v] H Q E0) := by
  rcases tree_kind h with ⟨n, a, dx, rfl, rfl, _, h1⟩ | ⟨ts, a, dx, l, q, vs, rfl, rfl, _, _, _, h1, h2, h3, _⟩ | ⟨ts, a, dx, l, q, vs, rfl, rfl, _, _, _, h1, h2, h3, _⟩
  · exact .inl ⟨a, rfl, dx, _, h1, by simp, a, dx, n, rfl, h1, k _ H (Ex.refl _) (by rw [ToldAt])⟩
  · exact .inr (.inl ⟨a, rfl, dx, _, h1, by simp, _, N, ts, rfl, h, hd, (parts_few hw).1, (parts_few hw).2, k⟩)
  · exact .inr (.inr ⟨a, rfl, dx, _, h1, by simp, _, N, ts, rfl, h, hd, (parts_few hw).1, (parts_few hw).2, k⟩)
theorem read_told' {d : Nat} {a : Addr} {t : Tr} {N : Addr → Prop} {H : Hp} {Q : VK} (h : TreeAt A N H (.ref a) t) (hd : t.dep < d) (hw : okW t) (k : ∀ u H', Ex H H' → ToldAt H' u t → Q u H') :
    (∃ dx fs, H a = some (.ins A.c_Point dx fs) ∧ NoFld fs "told" ∧ spPointTold A [.ref a] H Q E0) ∨ (∃ dx fs, H a = some (.ins A.c_Side dx fs) ∧ NoFld fs "told" ∧ spSideTold A d [.ref a] H Q E0) ∨ (∃ dx fs, H a = some (.ins A.c_Join dx fs) ∧ NoFld fs "told" ∧ spJoinTold A d [.ref a] H Q E0) := by
  rcases read_told h hd hw k with ⟨b, e, r⟩ | ⟨b, e, r⟩ | ⟨b, e, r⟩
  · cases e; exact .inl r
  · cases e; exact .inr (.inl r)
  · cases e; exact .inr (.inr r)
/-- tied() of any tree -/
theorem read_tied {d : Nat} {v : V} {t : Tr} {N : Addr → Prop} {H : Hp} {Q : VK} {x y : Int} (h : TreeAt A N H v t) (hd : t.dep < d) (k : ∀ H', Ex H H' → Q (.bl (t.tie x y)) H') :
    (∃ a, v = .ref a ∧ ∃ dx fs, H a = some (.ins A.c_Point dx fs) ∧ NoFld fs "tied" ∧ spPointTied A [v, .int x, .int y] H Q E0) ∨ (∃ a, v = .ref a ∧ ∃ dx fs, H a = some (.ins A.c_Side dx fs) ∧ NoFld fs "tied" ∧ spSideTied A d [v, .int x, .int y] H Q E0) ∨ (∃ a, v = .ref a ∧ ∃ dx fs, H a = some (.ins A.c_Join dx fs) ∧ NoFld fs "tied" ∧ spJoinTied A d [v, .int x, .int y] H Q E0) := by
  rcases tree_kind h with ⟨n, a, dx, rfl, rfl, _, h1⟩ | ⟨ts, a, dx, l, q, vs, rfl, rfl, _, _, _, h1, h2, h3, _⟩ | ⟨ts, a, dx, l, q, vs, rfl, rfl, _, _, _, h1, h2, h3, _⟩
  · exact .inl ⟨a, rfl, dx, _, h1, by simp, a, dx, n, x, y, rfl, h1, by simpa [Tr.tie] using k H (Ex.refl _)⟩
  · exact .inr (.inl ⟨a, rfl, dx, _, h1, by simp, _, N, ts, x, y, rfl, h, hd, k⟩)
  · exact .inr (.inr ⟨a, rfl, dx, _, h1, by simp, _, N, ts, x, y, rfl, h, hd, k⟩)
theorem read_tied' {d : Nat} {x y : Int} {a : Addr} {t : Tr} {N : Addr → Prop} {H : Hp} {Q : VK} (h : TreeAt A N H (.ref a) t) (hd : t.dep < d) (k : ∀ H', Ex H H' → Q (.bl (t.tie x y)) H') :
    (∃ dx fs, H a = some (.ins A.c_Point dx fs) ∧ NoFld fs "tied" ∧ spPointTied A [.ref a, .int x, .int y] H Q E0) ∨ (∃ dx fs, H a = some (.ins A.c_Side dx fs) ∧ NoFld fs "tied" ∧ spSideTied A d [.ref a, .int x, .int y] H Q E0) ∨ (∃ dx fs, H a = some (.ins A.c_Join dx fs) ∧ NoFld fs "tied" ∧ spJoinTied A d [.ref a, .int x, .int y] H Q E0) := by
  rcases read_tied h hd k with ⟨b, e, r⟩ | ⟨b, e, r⟩ | ⟨b, e, r⟩
  · cases e; exact .inl r
  · cases e; exact .inr (.inl r)
  · cases e; exact .inr (.inr r)
theorem step_Side_told (T : Txt K mg A) {d : Nat} (ih : FnOk P w K mg base CX0 (2 * d + 2) A.a_told_of A.d_told_of ["trees"] (spToldOf A d)) : FnOk P w K mg base CX0 (2 * d + 3) A.a_Side_told A.d_Side_told ["self"] (spSideTold A (d + 1)) := by
  refine T.F_Side_told.ok sc_Side_told (fun vs H Q E h => ?_) (fun cdv C outer s H vs Q E hr h => ?_)
  · obtain ⟨v, N, ts, rfl, _⟩ := h
    rfl
  · obtain ⟨v, N, ts, rfl, h1, hd, hw, few, k⟩ := h
    rw [TreeAt] at h1
    obtain ⟨a, dx, l, q, us, rfl, _, _, _, g1, g2, g3, g4⟩ := h1
    rw [Tr.dep] at hd
    have g1 : H a = some (.ins A.c_Side dx (nf l q)) := g1
    refine ⟨_, (pss_one (ps_ret (pe_tupJ (pa_cons (pe_glob (v := .str "side") rfl T.cSIDE.choose_spec ⟨_, rfl⟩) (pa_cons (pe_call ih (hr.mono (by omega)) rfl T.g_told_of T.k_told_of T.b_told_of .nil pass0 (pa_cons (pe_fldK (K0 := K) (pv 0)) pa_nil)) pa_nil))))), ?_⟩
    simp [L2.start, and_assoc, g1, T.cl_Side, T.n_Side__parts, nf_parts]
    refine ⟨l, N, us, ts, rfl, g2, g4, fun t ht => by have := depL_le ht; omega, hw, few, fun p qs H1 e1 h1 h2 b H2 n2 e2 h3 => k (.ref b) H2 (e1.trans e2) ?_⟩
    rw [ToldAt]
    exact ⟨b, p, qs, rfl, h3, e2 _ _ h1, h2.up e2⟩
theorem step_Join_told (T : Txt K mg A) {d : Nat} (ih : FnOk P w K mg base CX0 (2 * d + 2) A.a_told_of A.d_told_of ["trees"] (spToldOf A d)) : FnOk P w K mg base CX0 (2 * d + 3) A.a_Join_told A.d_Join_told ["self"] (spJoinTold A (d + 1)) := by
  refine T.F_Join_told.ok sc_Join_told (fun vs H Q E h => ?_) (fun cdv C outer s H vs Q E hr h => ?_)
  · obtain ⟨v, N, ts, rfl, _⟩ := h
    rfl
  · obtain ⟨v, N, ts, rfl, h1, hd, hw, few, k⟩ := h
    rw [TreeAt] at h1
    obtain ⟨a, dx, l, q, us, rfl, _, _, _, g1, g2, g3, g4⟩ := h1
    rw [Tr.dep] at hd
    have g1 : H a = some (.ins A.c_Join dx (nf l q)) := g1
    refine ⟨_, (pss_one (ps_ret (pe_tupJ (pa_cons (pe_glob (v := .str "join") rfl T.cJOIN.choose_spec ⟨_, rfl⟩) (pa_cons (pe_call ih (hr.mono (by omega)) rfl T.g_told_of T.k_told_of T.b_told_of .nil pass0 (pa_cons (pe_fldK (K0 := K) (pv 0)) pa_nil)) pa_nil))))), ?_⟩
    simp [L2.start, and_assoc, g1, T.cl_Join, T.n_Join__parts, nf_parts]
    refine ⟨l, N, us, ts, rfl, g2, g4, fun t ht => by have := depL_le ht; omega, hw, few, fun p qs H1 e1 h1 h2 b H2 n2 e2 h3 => k (.ref b) H2 (e1.trans e2) ?_⟩
    rw [ToldAt]
    exact ⟨b, p, qs, rfl, h3, e2 _ _ h1, h2.up e2⟩
theorem step_Side_tied (T : Txt K mg A) {d : Nat} (ih : FnOk P w K mg base CX0 (2 * d + 2) A.a_tied_among A.d_tied_among ["trees", "one", "other", "across"] (spAmong A d)) : FnOk P w K mg base CX0 (2 * d + 3) A.a_Side_tied A.d_Side_tied ["self", "one", "other"] (spSideTied A (d + 1)) := by
  refine T.F_Side_tied.ok sc_Side_tied (fun vs H Q E h => ?_) (fun cdv C outer s H vs Q E hr h => ?_)
  · obtain ⟨v, N, ts, x, y, rfl, _⟩ := h
    rfl
  · obtain ⟨v, N, ts, x, y, rfl, h1, hd, k⟩ := h
    rw [TreeAt] at h1
    obtain ⟨a, dx, l, q, us, rfl, _, _, _, g1, g2, g3, g4⟩ := h1
    rw [Tr.dep] at hd
    have g1 : H a = some (.ins A.c_Side dx (nf l q)) := g1
    refine ⟨_, (pss_one (ps_ret (pe_call ih (hr.mono (by omega)) rfl T.g_tied_among T.k_tied_among T.b_tied_among .nil pass0 (pa_cons (pe_fldK (K0 := K) (pv 0)) (pa_cons (pv 1) (pa_cons (pv 2) (pa_cons pe_bl pa_nil))))))), ?_⟩
    simp [L2.start, and_assoc, g1, T.cl_Side, T.n_Side__parts, nf_parts]
    exact ⟨l, N, us, ts, x, y, false, rfl, g2, g4, fun t ht => by have := depL_le ht; omega, fun H1 e1 => by rw [Tr.tie] at k; exact k H1 e1⟩
theorem step_Join_tied (T : Txt K mg A) {d : Nat} (ih : FnOk P w K mg base CX0 (2 * d + 2) A.a_tied_among A.d_tied_among ["trees", "one", "other", "across"] (spAmong A d)) : FnOk P w K mg base CX0 (2 * d + 3) A.a_Join_tied A.d_Join_tied ["self", "one", "other"] (spJoinTied A (d + 1)) := by
  refine T.F_Join_tied.ok sc_Join_tied (fun vs H Q E h => ?_) (fun cdv C outer s H vs Q E hr h => ?_)
  · obtain ⟨v, N, ts, x, y, rfl, _⟩ := h
    rfl
  · obtain ⟨v, N, ts, x, y, rfl, h1, hd, k⟩ := h
    rw [TreeAt] at h1
    obtain ⟨a, dx, l, q, us, rfl, _, _, _, g1, g2, g3, g4⟩ := h1
    rw [Tr.dep] at hd
    have g1 : H a = some (.ins A.c_Join dx (nf l q)) := g1
    refine ⟨_, (pss_one (ps_ret (pe_call ih (hr.mono (by omega)) rfl T.g_tied_among T.k_tied_among T.b_tied_among .nil pass0 (pa_cons (pe_fldK (K0 := K) (pv 0)) (pa_cons (pv 1) (pa_cons (pv 2) (pa_cons pe_bl pa_nil))))))), ?_⟩
    simp [L2.start, and_assoc, g1, T.cl_Join, T.n_Join__parts, nf_parts]
    exact ⟨l, N, us, ts, x, y, true, rfl, g2, g4, fun t ht => by have := depL_le ht; omega, fun H1 e1 => by rw [Tr.tie] at k; exact k H1 e1⟩
theorem step_told_of (T : Txt K mg A) {d : Nat} (ihS : FnOk P w K mg base CX0 (2 * d + 1) A.a_Side_told A.d_Side_told ["self"] (spSideTold A d)) (ihJ : FnOk P w K mg base CX0 (2 * d + 1) A.a_Join_told A.d_Join_told ["self"] (spJoinTold A d)) : FnOk P w K mg base CX0 (2 * d + 2) A.a_told_of A.d_told_of ["trees"] (spToldOf A d) := by
  refine T.F_told_of.ok sc_told_of (fun vs H Q E h => ?_) (fun cdv C outer s H vs Q E hr h => ?_)
  · obtain ⟨l, N, vs0, ts, rfl, _⟩ := h
    rfl
  · obtain ⟨l, N, vs0, ts, rfl, h1, h2, hd, hw, few, k⟩ := h
    refine ⟨_, (pss_one (ps_ret (pe_callTy call_tupJ (by rfl) T.tuple (by decide +kernel) (pa_cons (pe_lc (own := [("tree", 1)]) rfl sc_told_of.nd (pi_list (pv 0)) (blkOk_by (own := [("tree", 1)]) (N := ["trees", "tree"]) (sc := defScope s_told_of) (by decide +kernel)) (fun _ _ _ _ _ => by exact (pg_name (i := 1) sc_told_of.nd rfl (Or.inl rfl))) (fun _ _ _ _ _ => by exact pts_nil) (fun _ _ _ _ _ => by exact (PE.or (pe_meth0 (pv 1) T.cl_Point T.m_Point_told (ok_Point_told T) (hr.mono (by omega)) T.b_Point_told .nil pass0) (PE.or (pe_meth0 (pv 1) T.cl_Side T.m_Side_told ihS (hr.mono (by omega)) T.b_Side_told .nil pass0) (pe_meth0 (pv 1) T.cl_Join T.m_Join_told ihJ (hr.mono (by omega)) T.b_Join_told .nil pass0))))) pa_nil)))), ?_⟩
    have tl := h2.len
    refine ⟨_, rfl, l, rfl, ⟨_, .inl (.inl h1)⟩, fun D hD => ?_⟩
    refine lc_listS (xs := vs0) (fun i y H => ∃ t, ts[i]? = some t ∧ ToldAt H y t) stay_told hD (.inl (.inl h1)) (by omega) (fun i x H1 Nn hx e hH hN => ?_) (fun acc H1 e h3 hlen hall => ?_)
    · obtain ⟨t, ht, hat⟩ := h2.get hx
      have hm := List.mem_of_getElem? ht
      simp [L2.start, wipe]
      exact read_told (hat.up e) (hd t hm) (hw t hm) fun u H2 e2 h2 => hN u H2 e2 ⟨t, ht, h2⟩
    · have tl2 : ToldL H1 acc ts := toldL_iff.mpr ⟨by omega, fun i v t hv ht => by
        obtain ⟨t', h1, h2⟩ := hall i v hv
        rw [ht] at h1
        cases h1
        exact h2⟩
      simp [h3]
      exact fun p H2 n2 e2 h4 => k p acc H2 (e.trans e2) h4 (tl2.up e2)
theorem step_tied_among (T : Txt K mg A) {d : Nat} (ihS : FnOk P w K mg base CX0 (2 * d + 1) A.a_Side_tied A.d_Side_tied ["self", "one", "other"] (spSideTied A d)) (ihJ : FnOk P w K mg base CX0 (2 * d + 1) A.a_Join_tied A.d_Join_tied ["self", "one", "other"] (spJoinTied A d)) : FnOk P w K mg base CX0 (2 * d + 2) A.a_tied_among A.d_tied_among ["trees", "one", "other", "across"] (spAmong A d) := by
  refine T.F_tied_among.ok sc_tied_among (fun vs H Q E h => ?_) (fun cdv C outer s H vs Q E hr h => ?_)
  · obtain ⟨l, N, vs0, ts, x, y, j, rfl, _⟩ := h
    rfl
  · obtain ⟨l, N, vs0, ts, x, y, j, rfl, h1, h2, hd, k⟩ := h
    refine ⟨_, (pss_cons (ps_for PassesOwn.never rfl (pi_list (pv 0)) (pg_name (i := 4) sc_tied_among.nd rfl (.inl rfl))
    (pss_cons (ps_set (i := 5) sc_tied_among.nd rfl (Or.inl rfl) (PE.or (pe_meth0 (pv 4) T.cl_Point T.m_Point_points (ok_Point_points T) (hr.mono (by omega)) T.b_Point_points .nil pass0) (PE.or (pe_meth0 (pv 4) T.cl_Side T.m_Side_points (ok_Side_points T) (hr.mono (by omega)) T.b_Side_points .nil pass0) (pe_meth0 (pv 4) T.cl_Join T.m_Join_points (ok_Join_points T) (hr.mono (by omega)) T.b_Join_points .nil pass0))))
      (pss_one (ps_if (PW.pt (pw_and (pt_cmpR op_inI (pv 1) (pv 5) (by rfl)) (pw_and1 (pt_cmpR op_inI (pv 2) (pv 5) (by rfl)))))
        (pss_one (ps_ret (PE.or (pe_meth (pv 4) T.cl_Point T.m_Point_tied (ok_Point_tied T) (hr.mono (by omega)) T.b_Point_tied .nil pass0 (pa_cons (pv 1) (pa_cons (pv 2) pa_nil))) (PE.or (pe_meth (pv 4) T.cl_Side T.m_Side_tied ihS (hr.mono (by omega)) T.b_Side_tied .nil pass0 (pa_cons (pv 1) (pa_cons (pv 2) pa_nil))) (pe_meth (pv 4) T.cl_Join T.m_Join_tied ihJ (hr.mono (by omega)) T.b_Join_tied .nil pass0 (pa_cons (pv 1) (pa_cons (pv 2) pa_nil)))))))
        pss_nil))))
  (pss_one (ps_ret (pv 3)))), ?_⟩
    have tl := h2.len
    refine ⟨_, rfl, l, rfl, ⟨_, .inl (.inl h1)⟩, for_list (xs := vs0) (fun i σ H1 => ∃ (b4 b5 : Option V), σ = [some (.ref l), some (.int x), some (.int y), some (.bl j), b4, b5] ∧ Ex H H1 ∧ tieL j ts x y = tieL j (ts.drop i) x y) ⟨none, none, rfl, Ex.refl _, rfl⟩ (fun i σ H1 _ h => ?_) (fun i v σ H1 hv h => ?_) (fun σ H1 h => ?_)⟩
    · obtain ⟨b4, b5, rfl, e, _⟩ := h
      exact .inl (.inl (e _ _ h1))
    · obtain ⟨b4, b5, rfl, e, ht⟩ := h
      obtain ⟨t, hti, hat⟩ := h2.get hv
      have hm := List.mem_of_getElem? hti
      have ds : ts.drop i = t :: ts.drop (i + 1) := by
        rw [List.drop_eq_getElem_cons (lt_of_get hti)]
        have := (List.getElem?_eq_some_iff.mp hti).2
        rw [this]
      rw [ds, tieL] at ht
      simp
      refine read_points (hat.up e) fun q H2 n2 e2 h2 => ?_
      have e02 := e.trans e2
      rw [j_inI, lsI_ex h2]
      by_cases hx : x ∈ t.pts
      · refine .inr ⟨by simp [tpts_mem, hx], ?_⟩
        rw [j_inI, lsI_ex h2]
        by_cases hy : y ∈ t.pts
        · refine .inr ⟨by simp [tpts_mem, hy], read_tied (hat.up e02) (hd t hm) fun H3 e3 => ?_⟩
          rw [if_pos ⟨hx, hy⟩] at ht
          rw [← ht]
          exact k H3 (e02.trans e3)
        · exact .inl ⟨by simp [tpts_mem, hy], e02, by rw [ht, if_neg (fun z => hy z.2)]⟩
      · exact .inl ⟨by simp [tpts_mem, hx], e02, by rw [ht, if_neg (fun z => hx z.1)]⟩
    · obtain ⟨b4, b5, rfl, e, ht⟩ := h
      rw [List.drop_eq_nil_of_le (by omega), tieL] at ht
      rw [ht] at k
      exact ⟨_, rfl, k H1 e⟩
theorem none_SideTold {f : Addr} {fd : FuncData} {ps : List Str} {k : Nat} : FnOk P w K mg base CX0 k f fd ps (spSideTold A 0) :=
  ⟨fun vs H Q E ⟨_, _, _, _, _, h, _⟩ => absurd h (Nat.not_lt_zero _), fun A outer s H args us vs Q E _ _ _ _ ⟨_, _, _, _, _, h, _⟩ => absurd h (Nat.not_lt_zero _)⟩
theorem none_JoinTold {f : Addr} {fd : FuncData} {ps : List Str} {k : Nat} : FnOk P w K mg base CX0 k f fd ps (spJoinTold A 0) :=
  ⟨fun vs H Q E ⟨_, _, _, _, _, h, _⟩ => absurd h (Nat.not_lt_zero _), fun A outer s H args us vs Q E _ _ _ _ ⟨_, _, _, _, _, h, _⟩ => absurd h (Nat.not_lt_zero _)⟩
theorem none_SideTied {f : Addr} {fd : FuncData} {ps : List Str} {k : Nat} : FnOk P w K mg base CX0 k f fd ps (spSideTied A 0) :=
  ⟨fun vs H Q E ⟨_, _, _, _, _, _, _, h, _⟩ => absurd h (Nat.not_lt_zero _), fun A outer s H args us vs Q E _ _ _ _ ⟨_, _, _, _, _, _, _, h, _⟩ => absurd h (Nat.not_lt_zero _)⟩
theorem none_JoinTied {f : Addr} {fd : FuncData} {ps : List Str} {k : Nat} : FnOk P w K mg base CX0 k f fd ps (spJoinTied A 0) :=
  ⟨fun vs H Q E ⟨_, _, _, _, _, _, _, h, _⟩ => absurd h (Nat.not_lt_zero _), fun A outer s H args us vs Q E _ _ _ _ ⟨_, _, _, _, _, _, _, h, _⟩ => absurd h (Nat.not_lt_zero _)⟩
theorem ok_tolds (T : Txt K mg A) : ∀ d : Nat, FnOk P w K mg base CX0 (2 * d + 1) A.a_Side_told A.d_Side_told ["self"] (spSideTold A d) ∧ FnOk P w K mg base CX0 (2 * d + 1) A.a_Join_told A.d_Join_told ["self"] (spJoinTold A d)
  | 0 => ⟨none_SideTold, none_JoinTold⟩
  | d + 1 => ⟨step_Side_told T (step_told_of T (ok_tolds T d).1 (ok_tolds T d).2), step_Join_told T (step_told_of T (ok_tolds T d).1 (ok_tolds T d).2)⟩
theorem ok_tieds (T : Txt K mg A) : ∀ d : Nat, FnOk P w K mg base CX0 (2 * d + 1) A.a_Side_tied A.d_Side_tied ["self", "one", "other"] (spSideTied A d) ∧ FnOk P w K mg base CX0 (2 * d + 1) A.a_Join_tied A.d_Join_tied ["self", "one", "other"] (spJoinTied A d)
  | 0 => ⟨none_SideTied, none_JoinTied⟩
  | d + 1 => ⟨step_Side_tied T (step_tied_among T (ok_tieds T d).1 (ok_tieds T d).2), step_Join_tied T (step_tied_among T (ok_tieds T d).1 (ok_tieds T d).2)⟩
theorem ok_Side_told (T : Txt K mg A) : FnOk P w K mg base CX0 61 A.a_Side_told A.d_Side_told ["self"] (spSideTold A 30) := (ok_tolds T 30).1
theorem ok_Join_told (T : Txt K mg A) : FnOk P w K mg base CX0 61 A.a_Join_told A.d_Join_told ["self"] (spJoinTold A 30) := (ok_tolds T 30).2
theorem ok_Side_tied (T : Txt K mg A) : FnOk P w K mg base CX0 61 A.a_Side_tied A.d_Side_tied ["self", "one", "other"] (spSideTied A 30) := (ok_tieds T 30).1
theorem ok_Join_tied (T : Txt K mg A) : FnOk P w K mg base CX0 61 A.a_Join_tied A.d_Join_tied ["self", "one", "other"] (spJoinTied A 30) := (ok_tieds T 30).2
end
end Jk

namespace Jk
open PySem L2 Evl
/-- a tree as the law and the program have it -/
structure OkT (t : Tr) : Prop where
  form : t.form
  nd : t.pts.Nodup
  inr : ∀ n ∈ t.pts, 0 ≤ n ∧ n ≤ 29
theorem OkT.few {t : Tr} (h : OkT t) : t.pts.length ≤ 30 := pts_few h.nd h.inr
theorem OkT.dep {t : Tr} (h : OkT t) : t.dep ≤ 29 := dep_few h.form h.nd h.inr
theorem OkT.w {t : Tr} (h : OkT t) : okW t := ⟨by have := h.few; omega, h.form⟩
theorem OkT.b {t : Tr} (h : OkT t) : ∀ n ∈ t.pts, 0 ≤ n ∧ n < 1000 := fun n hn => by have := h.inr n hn; omega
theorem OkT.part {j : Bool} {ts : List Tr} (h : OkT (.nd j ts)) {t : Tr} (ht : t ∈ ts) : OkT t := by
  obtain ⟨f, nd, inr⟩ := h
  rw [Tr.form] at f
  rw [Tr.pts] at nd inr
  exact ⟨(formL_iff.mp f.2.2 t ht).1, nd_part nd ht, fun n hn => inr n (mem_ptsL.mpr ⟨t, ht, hn⟩)⟩
theorem pts_pos {t : Tr} (h : t.form) : 1 ≤ t.pts.length := by have := t.dep_lt h; omega
theorem okT_of {t : Tr} {names : List Int} {n m : Nat} (hn : names.Perm (rngI n)) (h30 : n ≤ 30) (f : t.form) (nd : t.pts.Nodup) (p : t.pts.Perm (names.take m)) : OkT t :=
  ⟨f, nd, fun x hx => by
    have h1 := List.mem_of_mem_take (p.mem_iff.mp hx)
    have h2 := rng_in.mp (hn.mem_iff.mp h1)
    omega⟩
theorem rng_len (n : Nat) : (rngI n).length = n := by simp [rngI]
theorem pow60 {n : Nat} (h : n ≤ 60) : 2 ^ n ≤ 2 ^ 60 := Nat.pow_le_pow_right (by decide) h
theorem many_small {j : Bool} {t : Tr} (h : t.pts.length ≤ 60) : (manyN j t : Int) ≤ 2 ^ 60 := by
  have := Nat.le_trans (manyN_le j t) (pow60 h)
  have e : ((2 ^ 60 : Nat) : Int) = 2 ^ 60 := by decide
  omega
theorem prod_snoc (j : Bool) : ∀ (ts : List Tr) (t : Tr), prodN j (ts ++ [t]) = prodN j ts * manyN j t
  | [], t => by simp [prodN]
  | u :: ts, t => by rw [List.cons_append, prodN, prodN, prod_snoc j ts t, Nat.mul_assoc]
theorem sum_snoc (j : Bool) : ∀ (ts : List Tr) (t : Tr), sumN j (ts ++ [t]) = sumN j ts + (manyN j t - 1)
  | [], t => by simp [sumN]; omega
  | u :: ts, t => by rw [List.cons_append, sumN, sumN, sum_snoc j ts t]; omega
theorem wd_eq {i j : Bool} : wdS i = wdS j ↔ i = j := by cases i <;> cases j <;> simp <;> decide +kernel
theorem part_few {ts : List Tr} {t : Tr} (h : t ∈ ts) : t.pts.length ≤ (ptsL ts).length := by
  obtain ⟨l, r, rfl⟩ := List.append_of_mem h
  rw [ptsL_app, ptsL, List.length_append, List.length_append]
  omega
end Jk

namespace Jk
open PySem L2 Evl
def spGreat (d : Nat) : Sp := fun vs H Q _ => ∃ (j : Bool) (v : V) (t : Tr), vs = [.str (wdS j), v] ∧ ToldAt H v t ∧ t.dep < d ∧ OkT t ∧ ∀ q H', H q = none → Ex H H' → LsI H' q (greatT j t) → Q (.ref q) H'
theorem none_back {H H' : Hp} {p : Addr} (e : Ex H H') (h : H' p = none) : H p = none := by
  cases z : H p with
  | none => rfl
  | some o => rw [e _ _ z] at h; cases h
theorem parts_pts {i : Bool} {ts : List Tr} (ok : OkT (.nd i ts)) : (ptsL ts).length ≤ 30 := by have := ok.few; rw [Tr.pts] at this; exact this
theorem greatL_get {j : Bool} {ts : List Tr} {c : Nat} {u : Tr} (h : ts[c]? = some u) : (greatL j ts)[c]? = some (greatT j u) := by rw [greatL_map, List.getElem?_map, h]; rfl
theorem lnOf_get {ls : List (List Int)} {c : Nat} {l : List Int} (h : ls[c]? = some l) : lnOf ls c = l.length := by rw [lnOf, List.getD_eq_getElem?_getD, h]; rfl
section
variable {P : Program} {w : World} {K : PySem.W.Frag} {mg : Str → Option Value} {base : Heap} {A : Adr}
theorem none_spGreat {f : Addr} {fd : FuncData} {ps : List Str} {k : Nat} : FnOk P w K mg base CX0 k f fd ps (spGreat 0) :=
  ⟨fun vs H Q E ⟨_, _, _, _, _, h, _⟩ => absurd h (Nat.not_lt_zero _), fun A outer s H args us vs Q E _ _ _ _ ⟨_, _, _, _, _, h, _⟩ => absurd h (Nat.not_lt_zero _)⟩
theorem step_greatest_by (T : Txt K mg A) {d : Nat} (ih : FnOk P w K mg base CX0 (d + 1) A.a_greatest_by A.d_greatest_by ["word", "told"] (spGreat d)) : FnOk P w K mg base CX0 (d + 2) A.a_greatest_by A.d_greatest_by ["word", "told"] (spGreat (d + 1)) := by
  refine T.F_greatest_by.ok sc_greatest_by (fun vs H Q E h => ?_) (fun cdv C outer s H vs Q E hr h => ?_)
  · obtain ⟨j, v, t, rfl, _⟩ := h
    rfl
  · obtain ⟨j, v, t, rfl, hv, hd, ok, k⟩ := h
    refine ⟨_, (pss_cons (ps_if (pt_val (pe_callB call_isJ (by rfl) T.isinstance (by decide +kernel) (pa_cons (pv 1) (pa_cons (pe_bltn (v := .ty "int") (u := .type "int") (by rfl) T.int (by decide +kernel) rfl) pa_nil))))
    (pss_one (ps_ret (pe_lstJ (pa_cons (pv 1) pa_nil))))
    pss_nil)
  (pss_cons (ps_setLc (i := 2) (own := [("within", 3)]) rfl sc_greatest_by.nd rfl rfl (sw_true rfl rfl rfl (by decide +kernel)) (pi_tup (pe_ix ix_tupJ (pv 1) pe_int (fun _ _ => rfl))) (blkOk_by (own := [("within", 3)]) (N := ["word", "told", "found", "within", "points", "point"]) (sc := defScope s_greatest_by) (by decide +kernel)) (fun _ _ _ _ _ => by exact (pg_name (i := 3) sc_greatest_by.nd rfl (Or.inl rfl))) (fun _ _ _ _ _ => by exact pts_nil) (fun _ _ _ _ _ => by exact (pe_call ih (hr.mono (by omega)) rfl T.g_greatest_by T.k_greatest_by T.b_greatest_by .nil pass0 (pa_cons (pv 0) (pa_cons (pv 3) pa_nil)))))
  (pss_cons (ps_if (pt_cmpR op_eq (pe_ix ix_tupJ (pv 1) pe_int (fun _ _ => rfl)) (pv 0) (nomark _))
    (pss_one (ps_ret (pe_lc2 (own := [("points", 4), ("point", 5)]) (vs1 := [5]) rfl sc_greatest_by.nd (pi_list (pv 2)) (blkOk_by (own := [("points", 4), ("point", 5)]) (N := ["word", "told", "found", "within", "points", "point"]) (sc := defScope s_greatest_by) (by decide +kernel)) (by decide) (fun _ _ _ _ _ => by exact (pg_name (i := 4) sc_greatest_by.nd rfl (Or.inl rfl))) (fun _ _ _ _ _ => by exact pts_nil) (fun _ _ _ _ _ => by exact (pi_listK (K0 := K) (pv 4))) (fun _ _ _ _ _ => by exact (pg_name (i := 5) sc_greatest_by.nd rfl (Or.inl rfl))) (fun _ _ _ _ _ => by exact pts_nil) (fun _ _ _ _ _ => by exact (pv 5)))))
    pss_nil)
  (pss_one (ps_ret (pe_maxLen (K0 := K) rfl (by rfl) T.max (by rfl) T.len (pv 2))))))), ?_⟩
    rcases told_kind hv with ⟨n, rfl, rfl⟩ | ⟨i, ts, a, b, vs, rfl, rfl, h1, h2, h3⟩
    · refine seq_by (fun σ1 H1 => False) (fun N hN => ?_) (fun s1 H1 m => absurd m id)
      simp [L2.start]
      exact fun q H1 n1 e1 hq => k q H1 n1 e1 (by rw [greatT]; exact hq)
    · have hok : ∀ t ∈ ts, OkT t := fun t ht => ok.part ht
      rw [Tr.dep] at hd
      have few := ok.few
      have pl := (parts_few ok.w).2
      have lenv := h3.len
      refine seq_by (fun σ1 H1 => H = H1 ∧ σ1 = [some (.str (wdS j)), some (.ref a), none, none, none, none]) (fun N hN => ?_) (fun s1 H1 m => ?_)
      · simp [L2.start, tyN_tup h1]
        exact hN _ _ ⟨rfl, rfl⟩
      obtain ⟨rfl, rfl⟩ := m
      refine seq_by (fun σ1 H1 => ∃ (D : Addr) (acc : List V), σ1 = [some (.str (wdS j)), some (.ref a), some (.ref D), none, none, none] ∧ Ex H H1 ∧ H D = none ∧ H1 D = some (.lst acc) ∧ acc.length = ts.length ∧ ∀ (i : Nat) (y : V), acc[i]? = some y → ∃ q u, ts[i]? = some u ∧ y = .ref q ∧ H q = none ∧ LsI H1 q (greatT j u)) (fun N hN => ?_) (fun s1 H1 m => ?_)
      · refine ⟨_, rfl, a, _, 1, _, rfl, rfl, h1, by decide, rfl, b, rfl, ⟨_, .inl (.inl h2)⟩, fun D hD => ?_⟩
        refine lc_tupS (xs := vs) (fun i y H2 => ∃ q u, ts[i]? = some u ∧ y = .ref q ∧ H q = none ∧ q ≠ D ∧ LsI H2 q (greatT j u)) (fun i y H2 H3 acc ⟨q, u, z1, z2, z3, z4, z5⟩ hD2 kk => ⟨q, u, z1, z2, z3, z4, kk _ _ z5 z4⟩) hD (.inl (.inl h2)) (by omega) (fun i x H2 Nn hx e hH hN2 => ?_) (fun acc H2 e h4 hlen hall => ?_)
        · obtain ⟨u, hu, hat⟩ := h3.get hx
          have := depL_le (List.mem_of_getElem? hu)
          simp [L2.start, wipe]
          exact ⟨j, x, u, rfl, hat.up e, by omega, hok u (List.mem_of_getElem? hu), fun q H3 n3 e3 hq => hN2 _ H3 e3 ⟨q, u, hu, rfl, none_back e n3, fun z => hH (by rw [← z]; exact n3), hq⟩⟩
        · refine hN _ _ ⟨D, acc, rfl, e, hD, h4, by omega, fun i y hy => ?_⟩
          obtain ⟨q, u, z1, z2, z3, z4, z5⟩ := hall i y hy
          exact ⟨q, u, z1, z2, z3, z5⟩
      obtain ⟨D, acc, rfl, e1, nD, hD, la, hacc⟩ := m
      have gl := greatL_len j ts
      by_cases hij : i = j
      · subst hij
        have pw := parts_pts ok
        have fl := (greatL_sub i ts).1.length_le
        have ef : ((greatL i ts).map fun l => l.map V.int).flatten = (greatL i ts).flatten.map V.int := by rw [List.map_flatten]
        refine seq_by (fun σ1 H1 => False) (fun N hN => ?_) (fun s1 H1 m => absurd m id)
        simp [e1 _ _ h1]
        refine ⟨_, rfl, D, rfl, ⟨_, .inl (.inl hD)⟩, fun R hR => lc2_list ((greatL i ts).map fun l => l.map V.int) hR (.inl (.inl hD)) (by simp [gl, la]) (by rw [ef, List.length_map]; omega) (fun c x H2 hx e hH => ?_) (fun x σ H Q Q' m q => m _ _ q) (fun x σ H Q Q' m q => m _ _ q) (fun H2 e h => ?_)⟩
        · obtain ⟨q, u, z1, z2, z3, z5⟩ := hacc c x hx
          subst z2
          have qR : q ≠ R := fun z => by have z9 : H1 q = some (.lst ((greatT i u).map V.int)) := z5; rw [z, hR] at z9; cases z9
          simp [wipe, iList]
          intro Nn hN
          exact ⟨⟨_, .inl (.inl (e _ _ z5))⟩, hN q H2 (Ex.refl _) qR (by simp [greatL_get z1]; exact .inl (.inl (e _ _ z5)))⟩
        · rw [ef] at h
          exact k R H2 (none_back e1 hR) (e1.trans e) (by rw [greatT, if_pos rfl]; exact h)
      · refine seq_by (fun σ1 H2 => H1 = H2 ∧ σ1 = [some (.str (wdS j)), some (.ref a), some (.ref D), none, none, none]) (fun N hN => ?_) (fun s1 H2 m => ?_)
        · simp [e1 _ _ h1, wd_eq, hij]
          exact hN _ _ ⟨rfl, rfl⟩
        obtain ⟨rfl, rfl⟩ := m
        simp
        refine ⟨acc, .inl (.inl hD), ?_, lnOf (greatL j ts), fun c y hy => ?_, fun y hy => ?_⟩
        · have fm := ok.form
          rw [Tr.form] at fm
          omega
        · obtain ⟨q, u, z1, rfl, z3, z5⟩ := hacc c y hy
          exact ⟨q, rfl, (greatT j u).map V.int, .inl (.inl z5), by rw [lnOf_get (greatL_get z1), List.length_map]⟩
        · obtain ⟨q, u, z1, rfl, z3, z5⟩ := hacc _ y hy
          have p : 0 < (greatL j ts).length := by
            have fm := ok.form
            rw [Tr.form] at fm
            omega
          have e9 := pickL_at p
          rw [gl, ← la, greatL_get z1] at e9
          exact k q H1 z3 e1 (by rw [greatT, if_neg hij, ← Option.some.inj e9]; exact z5)
theorem ok_greatest_by (T : Txt K mg A) : ∀ d : Nat, FnOk P w K mg base CX0 (d + 1) A.a_greatest_by A.d_greatest_by ["word", "told"] (spGreat d)
  | 0 => none_spGreat
  | d + 1 => step_greatest_by T (ok_greatest_by T d)
end
end Jk

namespace Jk
open PySem L2 Evl
def spCrowd (j : Bool) : Sp := fun vs H Q _ => ∃ (v : V) (t : Tr), vs = [v] ∧ ToldAt H v t ∧ OkT t ∧ ∀ q H', H q = none → Ex H H' → LsI H' q (srt (greatT j t)) → Q (.ref q) H'
section
variable {P : Program} {w : World} {K : PySem.W.Frag} {mg : Str → Option Value} {base : Heap} {A : Adr}
theorem ok_crowd (T : Txt K mg A) : FnOk P w K mg base CX0 36 A.a_crowd A.d_crowd ["told"] (spCrowd true) := by
  refine T.F_crowd.ok sc_crowd (fun vs H Q E h => ?_) (fun cdv C outer s H vs Q E hr h => ?_)
  · obtain ⟨v, t, rfl, _⟩ := h
    rfl
  · obtain ⟨v, t, rfl, hv, ok, k⟩ := h
    refine ⟨_, (pss_cons (ps_expr (pe_call (ok_tree_by T) (hr.mono (by omega)) rfl T.g_tree_by T.k_tree_by T.b_tree_by .nil pass0 (pa_cons (pv 0) pa_nil)))
  (pss_one (ps_ret (pe_callB call_sortJ (by rfl) T.sorted (by decide +kernel) (pa_cons (pe_call (ok_greatest_by T 31) (hr.mono (by omega)) rfl T.g_greatest_by T.k_greatest_by T.b_greatest_by .nil pass0 (pa_cons (pe_glob (v := .str "join") rfl T.cJOIN.choose_spec ⟨_, rfl⟩) (pa_cons (pv 0) pa_nil))) pa_nil))))), ?_⟩
    have dep := ok.dep
    have few := ok.few
    have gl := (great_sub true t).length_le
    simp [L2.start, and_assoc]
    exact ⟨v, t, rfl, hv, ok.form, ok.nd, ok.inr, fun a H1 e1 _ => ⟨true, v, t, rfl, hv.up e1, by omega, ok, fun q H2 n2 e2 h2 => by
      show jSorted K [.ref q] H2 Q
      rw [j_sorted]
      exact ⟨_, h2, by omega, fun p H3 n3 e3 h3 => k p H3 (none_back (e1.trans e2) n3) (e1.trans (e2.trans e3)) h3⟩⟩⟩
theorem ok_still (T : Txt K mg A) : FnOk P w K mg base CX0 36 A.a_still A.d_still ["told"] (spCrowd false) := by
  refine T.F_still.ok sc_still (fun vs H Q E h => ?_) (fun cdv C outer s H vs Q E hr h => ?_)
  · obtain ⟨v, t, rfl, _⟩ := h
    rfl
  · obtain ⟨v, t, rfl, hv, ok, k⟩ := h
    refine ⟨_, (pss_cons (ps_expr (pe_call (ok_tree_by T) (hr.mono (by omega)) rfl T.g_tree_by T.k_tree_by T.b_tree_by .nil pass0 (pa_cons (pv 0) pa_nil)))
  (pss_one (ps_ret (pe_callB call_sortJ (by rfl) T.sorted (by decide +kernel) (pa_cons (pe_call (ok_greatest_by T 31) (hr.mono (by omega)) rfl T.g_greatest_by T.k_greatest_by T.b_greatest_by .nil pass0 (pa_cons (pe_glob (v := .str "side") rfl T.cSIDE.choose_spec ⟨_, rfl⟩) (pa_cons (pv 0) pa_nil))) pa_nil))))), ?_⟩
    have dep := ok.dep
    have few := ok.few
    have gl := (great_sub false t).length_le
    simp [L2.start, and_assoc]
    exact ⟨v, t, rfl, hv, ok.form, ok.nd, ok.inr, fun a H1 e1 _ => ⟨false, v, t, rfl, hv.up e1, by omega, ok, fun q H2 n2 e2 h2 => by
      show jSorted K [.ref q] H2 Q
      rw [j_sorted]
      exact ⟨_, h2, by omega, fun p H3 n3 e3 h3 => k p H3 (none_back (e1.trans e2) n3) (e1.trans (e2.trans e3)) h3⟩⟩⟩
end
end Jk

namespace Jk
open PySem L2 Evl
def FewAt (H : Hp) (j : Bool) (y : V) (u : Tr) : Prop := ∃ q as, y = .ref q ∧ LsLL H q (fewT j u) as
theorem FewAt.up {H H' : Hp} {j : Bool} {y : V} {u : Tr} (h : FewAt H j y u) (e : Ex H H') : FewAt H' j y u := let ⟨q, as, a, b⟩ := h; ⟨q, as, a, b.up e⟩
def spMerged : Sp := fun vs H Q _ => ∃ (F : Addr) (acc : List V) (j : Bool) (ts : List Tr), vs = [.ref F] ∧ H F = some (.lst acc) ∧ acc.length = ts.length ∧ (ptsL ts).length ≤ 100 ∧ (∀ (i : Nat) (y : V), acc[i]? = some y → ∃ u, ts[i]? = some u ∧ FewAt H j y u) ∧ ∀ q as H', H q = none → Ex H H' → (∀ a ∈ as, H a = none) → LsLL H' q (mergeL (fewL j ts)) as → Q (.ref q) H'
section
variable {P : Program} {w : World} {K : PySem.W.Frag} {mg : Str → Option Value} {base : Heap} {A : Adr}
theorem ok_merged (T : Txt K mg A) : FnOk P w K mg base CX0 1 A.a_merged A.d_merged ["found"] spMerged := by
  refine T.F_merged.ok sc_merged (fun vs H Q E h => ?_) (fun cdv C outer s H vs Q E hr h => ?_)
  · obtain ⟨F, acc, j, ts, rfl, _⟩ := h
    rfl
  · obtain ⟨F, acc, j, ts, rfl, hF, len, few, hall, k⟩ := h
    refine ⟨_, (pss_cons (ps_set (i := 1) sc_merged.nd rfl (Or.inl rfl) (pe_lstJ pa_nil))
  (pss_cons (ps_for PassesOwn.never rfl (pi_list (pv 0)) (pg_name (i := 2) sc_merged.nd rfl (.inl rfl))
    (pss_one (ps_for PassesOwn.never rfl (pi_enum (by rfl) T.enumerate (pa_cons (pv 2) pa_nil)) (pg_tupJ (n := 2) rfl (pgs_cons (pg_name (i := 3) sc_merged.nd rfl (.inl rfl)) (pgs_cons (pg_name (i := 4) sc_merged.nd rfl (.inl rfl)) pgs_nil)))
        (pss_cons (ps_if (pt_cmpR op_eq (pv 3) (pe_callB call_lenJ (by rfl) T.len (by decide +kernel) (pa_cons (pv 1) pa_nil)) (nomark _))
            (pss_one (ps_expr (pe_bmL PySem.F.slot_list_append PySem.F.type_list_append mt_append (pv 1) (pa_cons (pe_lstJ pa_nil) pa_nil))))
            pss_nil)
          (pss_one (ps_asg (pe_op op_catJ (pe_ix ix_listJ (pv 1) (pv 3) (fun _ _ => rfl)) (pv 4)) (pg_sub (pv 1) (pv 3) set_listJ)))))))
  (pss_one (ps_ret (pv 1))))), ?_⟩
    simp [L2.start, and_assoc]
    intro M0 H0 n0 e0 hM0
    refine ⟨_, rfl, F, rfl, ⟨_, .inl (.inl (e0 _ _ hF))⟩, for_list (xs := acc) (fun i σ H1 => ∃ (M : Addr) (aM : List Addr) (b2 b3 b4 : Option V), σ = [some (.ref F), some (.ref M), b2, b3, b4] ∧ Ex H H1 ∧ H M = none ∧ LsLL H1 M (mergeL (fewL j (ts.take i))) aM ∧ ∀ a ∈ aM, a ≠ M ∧ H a = none) ⟨M0, [], none, none, none, rfl, e0, n0, ⟨by simpa using hM0, by simp [fewL, mergeL], by simp⟩, by simp⟩ (fun i σ H1 _ h => ?_) (fun i y σ H1 hy h => ?_) (fun σ H1 h => ?_)⟩
    · obtain ⟨M, aM, b2, b3, b4, rfl, e, _⟩ := h
      exact .inl (.inl (e _ _ hF))
    · obtain ⟨M, aM, b2, b3, b4, rfl, e, nM, hM, ne⟩ := h
      obtain ⟨u, hu, q, as, rfl, hq⟩ := hall i y hy
      have hq1 := hq.up e
      have qM : q ≠ M := fun z => by have := hq.at'; rw [z, nM] at this; cases this
      have mb := merge_bounds j (ts.take i)
      have pt := pts_take ts i
      have fb := few_bounds j u
      have pu := part_few (List.mem_of_getElem? hu)
      refine ⟨_, rfl, q, _, rfl, .inl (.inl hq1.at'), for_it (walk_enum (xs := as.map V.ref)) (fun m σ H2 => ∃ (M : Addr) (aM : List Addr) (b3 b4 : Option V), σ = [some (.ref F), some (.ref M), some (.ref q), b3, b4] ∧ Ex H H2 ∧ H M = none ∧ LsLL H2 M (zipApp (mergeL (fewL j (ts.take i))) ((fewT j u).take m)) aM ∧ ∀ a ∈ aM, a ≠ M ∧ H a = none) ⟨M, aM, b3, b4, rfl, e, nM, by simpa [zipApp_nil] using hM, ne⟩ (fun m σ H2 _ h => ?_) (fun m x σ H2 H3 hm h y => ?_) (fun σ H2 h => ?_)⟩
      · obtain ⟨M2, aM2, b3, b4, rfl, e2, _⟩ := h
        exact .inl (.inl (e2 _ _ hq.at'))
      · obtain ⟨M2, aM2, b3, b4, rfl, e2, nM2, hM2, ne2⟩ := h
        obtain ⟨T0, x1, x2, rfl, nT, rfl, hx1, hx2⟩ := y
        obtain ⟨p0, b0, rfl, hp0, hb0, hl0⟩ := hq.get hx2
        cases hx1
        have e3 : Ex H2 (upd H2 T0 (.tup [.int (m : Nat), .ref p0])) := Ex.new nT
        refine j_tupG.mpr ⟨_, upd_same, rfl, ?_⟩
        generalize upd H2 T0 (.tup [.int (m : Nat), .ref p0]) = H3 at e3
        have e13 := e2.trans e3
        have hM3 := hM2.up e3
        obtain ⟨ms, ems, hms, hset, ltm⟩ := zipApp_next (as := mergeL (fewL j (ts.take i))) hb0
        have nxl := zipApp_len (mergeL (fewL j (ts.take i))) ((fewT j u).take m)
        have tkl : ((fewT j u).take m).length ≤ (fewT j u).length := by rw [List.length_take]; omega
        have zl : (zipApp (mergeL (fewL j (ts.take i))) ((fewT j u).take m)).length ≤ 100 := by omega
        rw [j_gcons, j_gname, j_gcons, j_gname, j_gnil]
        refine seq_by (fun σ1 H4 => ∃ aM, σ1 = [some (.ref F), some (.ref M2), some (.ref q), some (.int (m : Nat)), some (.ref p0)] ∧ Ex H H4 ∧ LsLL H4 M2 ms aM ∧ ∀ a ∈ aM, a ≠ M2 ∧ H a = none) (fun N hN => ?_) (fun s1 H4 mm => ?_)
        · simp
          refine ⟨_, hM3.at', ?_⟩
          have lm := hM3.len
          by_cases cm : m = (zipApp (mergeL (fewL j (ts.take i))) ((fewT j u).take m)).length
          · rw [if_pos cm] at ems
            refine .inr ⟨by simp; omega, ⟨_, hM3.at'⟩, fun p H4 n4 e4 h4 => ⟨_, e4 _ _ hM3.at', lt_line (by simp; omega), hN _ _ ⟨aM2 ++ [p], rfl, Ex.mut (e13.trans e4) nM2, ?_, ?_⟩⟩⟩
            · rw [ems]
              have pM : p ≠ M2 := fun z => by rw [z, hM3.at'] at n4; cases n4
              exact (hM3.up e4).snoc (by unfold LsI; rw [h4]; rfl) pM fun a ha => (ne2 a ha).1
            · intro a ha
              rcases List.mem_append.mp ha with ha | ha
              · exact ne2 a ha
              · simp at ha
                subst ha
                exact ⟨fun z => (by rw [z, hM3.at'] at n4; cases n4), none_back e13 n4⟩
          · rw [if_neg cm] at ems
            refine .inl ⟨by simp; omega, hN _ _ ⟨aM2, rfl, e13, by rw [ems]; exact hM3, ne2⟩⟩
        · obtain ⟨aM4, rfl, e4, hM4, ne4⟩ := mm
          simp
          have lm := hM4.len
          have lta : m < aM4.length := by omega
          have hat : aM4[m]? = some aM4[m] := List.getElem?_eq_getElem lta
          have hold := hM4.all m _ _ hat hms
          have b1 := getD_le (m := m) mb.2
          have b2 := fb.2 b0 (List.mem_of_getElem? hb0)
          have hp4 : LsI H4 p0 b0 := e4 _ _ hl0
          refine ⟨_, hM4.at', _, by rw [List.getElem?_map, hat]; rfl, ?_⟩
          rw [j_cat]
          refine ⟨_, hold, _, hp4, by rw [List.length_map, List.length_map]; omega, fun p H5 n5 e5 h5 => ⟨_, e5 _ _ hM4.at', by simpa using lta, Ex.mut (e4.trans e5) nM2, nM2, aM4.set m p, ?_, ?_⟩⟩
          · rw [← hset]
            have pM : p ≠ M2 := fun z => by rw [z, hM4.at'] at n5; cases n5
            exact (hM4.up e5).put (by unfold LsI; rw [h5, List.map_append]) pM fun a ha => (ne4 a ha).1
          · intro a ha
            rcases List.mem_or_eq_of_mem_set ha with ha | rfl
            · exact ne4 a ha
            · exact ⟨fun z => (by rw [z, hM4.at'] at n5; cases n5), none_back e4 n5⟩
      · obtain ⟨M2, aM2, b3, b4, rfl, e2, nM2, hM2, ne2⟩ := h
        have el : (as.map V.ref).length = (fewT j u).length := by rw [List.length_map]; exact hq.len
        rw [el, List.take_length] at hM2
        exact ⟨M2, aM2, _, b3, b4, rfl, e2, nM2, by rw [fewL_step hu]; exact hM2, ne2⟩
    · obtain ⟨M, aM, b2, b3, b4, rfl, e, nM, hM, ne⟩ := h
      rw [len, List.take_length] at hM
      exact ⟨_, rfl, k M aM H1 nM e (fun a ha => (ne a ha).2) hM⟩
end
end Jk

namespace Jk
open PySem L2 Evl
def spFew (d : Nat) : Sp := fun vs H Q _ => ∃ (j : Bool) (v : V) (t : Tr), vs = [.str (wdS j), v] ∧ ToldAt H v t ∧ t.dep < d ∧ OkT t ∧ ∀ q as H', H q = none → Ex H H' → (∀ a ∈ as, H a = none) → LsLL H' q (fewT j t) as → Q (.ref q) H'
def AllI (H : Hp) (as : List Addr) (lss : List (List Int)) : Prop := as.length = lss.length ∧ ∀ (i : Nat) (a : Addr) (ls : List Int), as[i]? = some a → lss[i]? = some ls → LsI H a ls
theorem AllI.app {H : Hp} {as bs : List Addr} {xs ys : List (List Int)} (h : AllI H as xs) (g : AllI H bs ys) : AllI H (as ++ bs) (xs ++ ys) := by
  refine ⟨by simp [h.1, g.1], fun i a ls x y => ?_⟩
  by_cases hi : i < as.length
  · rw [List.getElem?_append_left hi] at x
    rw [List.getElem?_append_left (by rw [← h.1]; exact hi)] at y
    exact h.2 i a ls x y
  · rw [List.getElem?_append_right (by omega)] at x
    rw [List.getElem?_append_right (by rw [← h.1]; omega), ← h.1] at y
    exact g.2 _ a ls x y
theorem AllI.flat {H : Hp} : ∀ (ass : List (List Addr)) (lsss : List (List (List Int))), ass.length = lsss.length → (∀ (c : Nat) (as : List Addr) (ls : List (List Int)), ass[c]? = some as → lsss[c]? = some ls → AllI H as ls) → AllI H ass.flatten lsss.flatten
  | [], [], _, _ => ⟨rfl, fun i a ls x => by simp at x⟩
  | as :: ass, ls :: lsss, e, h => by
    rw [List.flatten_cons, List.flatten_cons]
    exact (h 0 as ls rfl rfl).app (AllI.flat ass lsss (by simpa using e) fun c x y hx hy => h (c + 1) x y (by simpa using hx) (by simpa using hy))
  | [], ls :: lsss, e, _ => by simp at e
  | as :: ass, [], e, _ => by simp at e
theorem LsLL.allI {H : Hp} {l : Addr} {lss : List (List Int)} {as : List Addr} (h : LsLL H l lss as) : AllI H as lss := ⟨h.len, h.all⟩
theorem fewL_get {j : Bool} {ts : List Tr} {c : Nat} {u : Tr} (h : ts[c]? = some u) : (fewL j ts)[c]? = some (fewT j u) := by rw [fewL_map, List.getElem?_map, h]; rfl
theorem fewFlat_le (j : Bool) (ts : List Tr) : (fewL j ts).flatten.length ≤ (ptsL ts).length := by rw [(fewL_len j ts).1]; exact addG_le _ _
section
variable {P : Program} {w : World} {K : PySem.W.Frag} {mg : Str → Option Value} {base : Heap} {A : Adr}
theorem none_spFew {f : Addr} {fd : FuncData} {ps : List Str} {k : Nat} : FnOk P w K mg base CX0 k f fd ps (spFew 0) :=
  ⟨fun vs H Q E ⟨_, _, _, _, _, h, _⟩ => absurd h (Nat.not_lt_zero _), fun A outer s H args us vs Q E _ _ _ _ ⟨_, _, _, _, _, h, _⟩ => absurd h (Nat.not_lt_zero _)⟩
theorem step_fewest_by (T : Txt K mg A) {d : Nat} (ih : FnOk P w K mg base CX0 (d + 1) A.a_fewest_by A.d_fewest_by ["word", "told"] (spFew d)) : FnOk P w K mg base CX0 (d + 2) A.a_fewest_by A.d_fewest_by ["word", "told"] (spFew (d + 1)) := by
  refine T.F_fewest_by.ok sc_fewest_by (fun vs H Q E h => ?_) (fun cdv C outer s H vs Q E hr h => ?_)
  · obtain ⟨j, v, t, rfl, _⟩ := h
    rfl
  · obtain ⟨j, v, t, rfl, hv, hd, ok, k⟩ := h
    refine ⟨_, (pss_cons (ps_if (pt_val (pe_callB call_isJ (by rfl) T.isinstance (by decide +kernel) (pa_cons (pv 1) (pa_cons (pe_bltn (v := .ty "int") (u := .type "int") (by rfl) T.int (by decide +kernel) rfl) pa_nil))))
    (pss_one (ps_ret (pe_lstJ (pa_cons (pe_lstJ (pa_cons (pv 1) pa_nil)) pa_nil))))
    pss_nil)
  (pss_cons (ps_setLc (i := 2) (own := [("within", 3)]) rfl sc_fewest_by.nd rfl rfl (sw_true rfl rfl rfl (by decide +kernel)) (pi_tup (pe_ix ix_tupJ (pv 1) pe_int (fun _ _ => rfl))) (blkOk_by (own := [("within", 3)]) (N := ["word", "told", "found", "within", "lists", "points"]) (sc := defScope s_fewest_by) (by decide +kernel)) (fun _ _ _ _ _ => by exact (pg_name (i := 3) sc_fewest_by.nd rfl (Or.inl rfl))) (fun _ _ _ _ _ => by exact pts_nil) (fun _ _ _ _ _ => by exact (pe_call ih (hr.mono (by omega)) rfl T.g_fewest_by T.k_fewest_by T.b_fewest_by .nil pass0 (pa_cons (pv 0) (pa_cons (pv 3) pa_nil)))))
  (pss_cons (ps_if (pt_cmpR op_eq (pe_ix ix_tupJ (pv 1) pe_int (fun _ _ => rfl)) (pv 0) (nomark _))
    (pss_one (ps_ret (pe_call (ok_merged T) (hr.mono (by omega)) rfl T.g_merged T.k_merged T.b_merged .nil pass0 (pa_cons (pv 2) pa_nil))))
    pss_nil)
  (pss_one (ps_ret (pe_lc2 (own := [("lists", 4), ("points", 5)]) (vs1 := [5]) rfl sc_fewest_by.nd (pi_list (pv 2)) (blkOk_by (own := [("lists", 4), ("points", 5)]) (N := ["word", "told", "found", "within", "lists", "points"]) (sc := defScope s_fewest_by) (by decide +kernel)) (by decide) (fun _ _ _ _ _ => by exact (pg_name (i := 4) sc_fewest_by.nd rfl (Or.inl rfl))) (fun _ _ _ _ _ => by exact pts_nil) (fun _ _ _ _ _ => by exact (pi_listK (K0 := K) (pv 4))) (fun _ _ _ _ _ => by exact (pg_name (i := 5) sc_fewest_by.nd rfl (Or.inl rfl))) (fun _ _ _ _ _ => by exact pts_nil) (fun _ _ _ _ _ => by exact (pv 5)))))))), ?_⟩
    rcases told_kind hv with ⟨n, rfl, rfl⟩ | ⟨i, ts, a, b, vs, rfl, rfl, h1, h2, h3⟩
    · refine seq_by (fun σ1 H1 => False) (fun N hN => ?_) (fun s1 H1 m => absurd m id)
      simp [L2.start]
      intro p H1 n1 e1 g1 q H2 n2 e2 g2
      refine k q [p] H2 (none_back e1 n2) (e1.trans e2) (by simpa using n1) ⟨g2, by rw [fewT]; rfl, fun i a ls x y => ?_⟩
      rw [fewT] at y
      cases i with
      | zero =>
        simp at x y
        subst x y
        exact e2 _ _ g1
      | succ i => simp at x
    · have hok : ∀ t ∈ ts, OkT t := fun t ht => ok.part ht
      rw [Tr.dep] at hd
      have few := ok.few
      have pl := (parts_few ok.w).2
      have pw := parts_pts ok
      have lenv := h3.len
      refine seq_by (fun σ1 H1 => H = H1 ∧ σ1 = [some (.str (wdS j)), some (.ref a), none, none, none, none]) (fun N hN => ?_) (fun s1 H1 m => ?_)
      · simp [L2.start, tyN_tup h1]
        exact hN _ _ ⟨rfl, rfl⟩
      obtain ⟨rfl, rfl⟩ := m
      refine seq_by (fun σ1 H1 => ∃ (D : Addr) (acc : List V), σ1 = [some (.str (wdS j)), some (.ref a), some (.ref D), none, none, none] ∧ Ex H H1 ∧ H D = none ∧ H1 D = some (.lst acc) ∧ acc.length = ts.length ∧ ∀ (i : Nat) (y : V), acc[i]? = some y → ∃ q as u, ts[i]? = some u ∧ y = .ref q ∧ H q = none ∧ (∀ a ∈ as, H a = none) ∧ LsLL H1 q (fewT j u) as) (fun N hN => ?_) (fun s1 H1 m => ?_)
      · refine ⟨_, rfl, a, _, 1, _, rfl, rfl, h1, by decide, rfl, b, rfl, ⟨_, .inl (.inl h2)⟩, fun D hD => ?_⟩
        refine lc_tupS (xs := vs) (fun i y H2 => ∃ q as u, ts[i]? = some u ∧ y = .ref q ∧ H q = none ∧ q ≠ D ∧ (∀ a ∈ as, H a = none ∧ a ≠ D) ∧ LsLL H2 q (fewT j u) as) (fun i y H2 H3 acc ⟨q, as, u, z1, z2, z3, z4, z5, z6⟩ hD2 kk => ⟨q, as, u, z1, z2, z3, z4, z5, kk _ _ z6.at' z4, z6.len, fun i a ls x y => kk _ _ (z6.all i a ls x y) (z5 a (List.mem_of_getElem? x)).2⟩) hD (.inl (.inl h2)) (by omega) (fun i x H2 Nn hx e hH hN2 => ?_) (fun acc H2 e h4 hlen hall => ?_)
        · obtain ⟨u, hu, hat⟩ := h3.get hx
          have := depL_le (List.mem_of_getElem? hu)
          simp [L2.start, wipe]
          exact ⟨j, x, u, rfl, hat.up e, by omega, hok u (List.mem_of_getElem? hu), fun q as H3 n3 e3 na hq => hN2 _ H3 e3 ⟨q, as, u, hu, rfl, none_back e n3, fun z => hH (by rw [← z]; exact n3), fun a ha => ⟨none_back e (na a ha), fun z => hH (by rw [← z]; exact na a ha)⟩, hq⟩⟩
        · refine hN _ _ ⟨D, acc, rfl, e, hD, h4, by omega, fun i y hy => ?_⟩
          obtain ⟨q, as, u, z1, z2, z3, z4, z5, z6⟩ := hall i y hy
          exact ⟨q, as, u, z1, z2, z3, fun a ha => (z5 a ha).1, z6⟩
      obtain ⟨D, acc, rfl, e1, nD, hD, la, hacc⟩ := m
      by_cases hij : i = j
      · subst hij
        refine seq_by (fun σ1 H1 => False) (fun N hN => ?_) (fun s1 H1 m => absurd m id)
        simp [e1 _ _ h1]
        refine ⟨D, acc, i, ts, rfl, hD, la, by omega, fun c y hy => ?_, fun q as H2 n2 e2 na h2 => k q as H2 (none_back e1 n2) (e1.trans e2) (fun a ha => none_back e1 (na a ha)) (by rw [fewT, if_pos rfl]; exact h2)⟩
        obtain ⟨q, as, u, z1, z2, z3, z5, z6⟩ := hacc c y hy
        exact ⟨u, z1, q, as, z2, z6⟩
      · refine seq_by (fun σ1 H2 => H1 = H2 ∧ σ1 = [some (.str (wdS j)), some (.ref a), some (.ref D), none, none, none]) (fun N hN => ?_) (fun s1 H2 m => ?_)
        · simp [e1 _ _ h1, wd_eq, hij]
          exact hN _ _ ⟨rfl, rfl⟩
        obtain ⟨rfl, rfl⟩ := m
        have ex : ∀ c : Nat, ∃ as : List Addr, c < acc.length → ∃ q u, ts[c]? = some u ∧ acc[c]? = some (.ref q) ∧ H q = none ∧ (∀ a ∈ as, H a = none) ∧ LsLL H1 q (fewT j u) as := fun c => by
          by_cases hc : c < acc.length
          · obtain ⟨q, as, u, z1, z2, z3, z5, z6⟩ := hacc c _ (List.getElem?_eq_getElem hc)
            exact ⟨as, fun _ => ⟨q, u, z1, by rw [List.getElem?_eq_getElem hc, z2], z3, z5, z6⟩⟩
          · exact ⟨[], fun h => absurd h hc⟩
        obtain ⟨f, hf⟩ := Classical.axiomOfChoice ex
        have fla := AllI.flat (H := H1) ((List.range acc.length).map f) (fewL j ts) (by simp [la, fewL_len']) fun c as ls hx hy => by
          rw [List.getElem?_map] at hx
          have lc : c < acc.length := by
            cases z : (List.range acc.length)[c]? with
            | none => rw [z] at hx; cases hx
            | some d => have := (List.getElem?_eq_some_iff.mp z).1; simpa using this
          rw [List.getElem?_range lc] at hx
          cases hx
          obtain ⟨q, u, z1, z2, z3, z5, z6⟩ := hf c lc
          rw [fewL_get z1] at hy
          cases hy
          exact z6.allI
        have ff := fewFlat_le j ts
        have ef : (((List.range acc.length).map f).map fun l => l.map V.ref).flatten = ((List.range acc.length).map f).flatten.map V.ref := by rw [List.map_flatten]
        simp
        refine ⟨_, rfl, D, rfl, ⟨_, .inl (.inl hD)⟩, fun R hR => lc2_list (((List.range acc.length).map f).map fun l => l.map V.ref) hR (.inl (.inl hD)) (by simp) (by rw [ef, List.length_map, fla.1]; omega) (fun c x H2 hx e hH => ?_) (fun x σ H Q Q' m q => m _ _ q) (fun x σ H Q Q' m q => m _ _ q) (fun H2 e h => ?_)⟩
        · have hc2 : c < acc.length := (List.getElem?_eq_some_iff.mp hx).1
          obtain ⟨q, u, z1, z2, z3, z5, z6⟩ := hf c hc2
          rw [hx] at z2
          cases z2
          have qR : q ≠ R := fun z => by have z9 := z6.at'; rw [z, hR] at z9; cases z9
          simp [wipe, iList]
          intro Nn hN
          exact ⟨⟨_, .inl (.inl (e _ _ z6.at'))⟩, hN q H2 (Ex.refl _) qR (by simp [hc2]; exact .inl (.inl (e _ _ z6.at')))⟩
        · rw [ef] at h
          refine k R _ H2 (none_back e1 hR) (e1.trans e) (fun a ha => ?_) ⟨h, by rw [fewT, if_neg hij]; exact fla.1, fun i a ls x y => by rw [fewT, if_neg hij] at y; exact e _ _ (fla.2 i a ls x y)⟩
          obtain ⟨as, q1, q2⟩ := List.mem_flatten.mp ha
          obtain ⟨c, hc, rfl⟩ := List.mem_map.mp q1
          obtain ⟨q, u, z1, z2, z3, z5, z6⟩ := hf c (by simpa using hc)
          exact z5 a q2
theorem ok_fewest_by (T : Txt K mg A) : ∀ d : Nat, FnOk P w K mg base CX0 (d + 1) A.a_fewest_by A.d_fewest_by ["word", "told"] (spFew d)
  | 0 => none_spFew
  | d + 1 => step_fewest_by T (ok_fewest_by T d)
end
end Jk

namespace Jk
open PySem L2 Evl
def colsT (t : Tr) : List (Key × V) := colN (fewT false t) (fewT false t).length
def spColours : Sp := fun vs H Q _ => ∃ (v : V) (t : Tr), vs = [v] ∧ ToldAt H v t ∧ OkT t ∧ ∀ d H', H d = none → Ex H H' → H' d = some (.dK (colsT t)) → Q (.ref d) H'
def spCovers : Sp := fun vs H Q _ => ∃ (v : V) (t : Tr), vs = [v] ∧ ToldAt H v t ∧ OkT t ∧ ∀ q as H', H q = none → Ex H H' → (∀ a ∈ as, H a = none ∧ a ≠ q) → LsLL H' q ((fewT true t).map srt) as → Q (.ref q) H'
section
variable {P : Program} {w : World} {K : PySem.W.Frag} {mg : Str → Option Value} {base : Heap} {A : Adr}
theorem ok_colours (T : Txt K mg A) : FnOk P w K mg base CX0 36 A.a_colours A.d_colours ["told"] spColours := by
  refine T.F_colours.ok sc_colours (fun vs H Q E h => ?_) (fun cdv C outer s H vs Q E hr h => ?_)
  · obtain ⟨v, t, rfl, _⟩ := h
    rfl
  · obtain ⟨v, t, rfl, hv, ok, k⟩ := h
    have hu := hu_of hr
    refine ⟨_, (pss_cons (ps_expr (pe_call (ok_tree_by T) (hr.mono (by omega)) rfl T.g_tree_by T.k_tree_by T.b_tree_by .nil pass0 (pa_cons (pv 0) pa_nil)))
  (pss_cons (ps_set (i := 1) sc_colours.nd rfl (Or.inl rfl) pe_dictJ)
  (pss_cons (ps_for PassesOwn.never rfl (pi_enum (by rfl) T.enumerate (pa_cons (pe_call (ok_fewest_by T 31) (hr.mono (by omega)) rfl T.g_fewest_by T.k_fewest_by T.b_fewest_by .nil pass0 (pa_cons (pe_glob (v := .str "side") rfl T.cSIDE.choose_spec ⟨_, rfl⟩) (pa_cons (pv 0) pa_nil))) pa_nil)) (pg_tupJ (n := 2) rfl (pgs_cons (pg_name (i := 2) sc_colours.nd rfl (.inl rfl)) (pgs_cons (pg_name (i := 3) sc_colours.nd rfl (.inl rfl)) pgs_nil)))
    (pss_one (ps_for PassesOwn.never rfl (pi_list (pv 3)) (pg_name (i := 4) sc_colours.nd rfl (.inl rfl))
        (pss_one (ps_dputJ (by exact hu) (pv 1) (pv 4) (pv 2) rfl)))))
  (pss_one (ps_ret (pv 1)))))), ?_⟩
    have dep := ok.dep
    have few := ok.few
    simp [L2.start, and_assoc]
    refine ⟨v, t, rfl, hv, ok.form, ok.nd, ok.inr, fun a H1 e1 _ => ?_⟩
    intro D0 H2 n2 e2 h2
    have nD : H D0 = none := none_back e1 n2
    refine ⟨_, rfl, false, v, t, rfl, hv.up (e1.trans e2), by omega, ok, fun q as H3 n3 e3 na hq => ⟨q, _, rfl, .inl (.inl hq.at'), ?_⟩⟩
    have hD3 := e3 _ _ h2
    have nd : (fewT false t).flatten.Nodup := (few_perm false t).nodup_iff.mpr ok.nd
    have fl := (few_perm false t).length_eq
    have el : (as.map V.ref).length = (fewT false t).length := by rw [List.length_map]; exact hq.len
    have kpL : ∀ Hx : Hp, (∀ x o, H3 x = some o → x ≠ D0 → Hx x = some o) → LsLL Hx q (fewT false t) as := fun Hx kp =>
      ⟨kp _ _ hq.at' (ne_of hq.at' hD3 (by intro z; cases z)), hq.len, fun i a ls x y => kp _ _ (hq.all i a ls x y) (ne_of (hq.all i a ls x y) hD3 (by intro z; cases z))⟩
    refine for_it (walk_enum (xs := as.map V.ref)) (fun m σ Hx => ∃ b2 b3 b4 : Option V, σ = [some v, some (.ref D0), b2, b3, b4] ∧ (∀ x o, H3 x = some o → x ≠ D0 → Hx x = some o) ∧ Hx D0 = some (.dK (colN (fewT false t) m))) ⟨none, none, none, rfl, fun _ _ h _ => h, hD3⟩ (fun m σ Hx _ h => ?_) (fun m x σ Hx Hy hm h y => ?_) (fun σ Hx h => ?_)
    · obtain ⟨b2, b3, b4, rfl, kp, _⟩ := h
      exact .inl (.inl (kpL Hx kp).at')
    · obtain ⟨b2, b3, b4, rfl, kp, hd⟩ := h
      obtain ⟨T0, x1, x2, rfl, nT, rfl, hx1, hx2⟩ := y
      obtain ⟨p0, b0, rfl, hp0, hb0, hl0⟩ := (kpL Hx kp).get hx2
      cases hx1
      have e4 : Ex Hx (upd Hx T0 (.tup [.int (m : Nat), .ref p0])) := Ex.new nT
      refine j_tupG.mpr ⟨_, upd_same, rfl, ?_⟩
      generalize upd Hx T0 (.tup [.int (m : Nat), .ref p0]) = Hy at e4
      rw [j_gcons, j_gname, j_gcons, j_gname, j_gnil]
      have hd4 := e4 _ _ hd
      have hl4 : LsI Hy p0 b0 := e4 _ _ hl0
      have bD : (fewT false t).getD m [] = b0 := by rw [List.getD_eq_getElem?_getD, hb0]; rfl
      have pD : p0 ≠ D0 := ne_of hl0 hd (by intro z; cases z)
      simp
      refine ⟨_, rfl, p0, rfl, ⟨_, .inl (.inl hl4)⟩, for_list (xs := b0.map V.int) (fun r σ Hz => ∃ b4 : Option V, σ = [some v, some (.ref D0), some (.int (m : Nat)), some (.ref p0), b4] ∧ (∀ x o, Hy x = some o → x ≠ D0 → Hz x = some o) ∧ Hz D0 = some (.dK (midN (fewT false t) m r))) ⟨b4, rfl, fun _ _ h _ => h, by rw [midN_zero]; exact hd4⟩ (fun r σ Hz _ h => ?_) (fun r y σ Hz hy h => ?_) (fun σ Hz h => ?_)⟩
      · obtain ⟨b4, rfl, kp2, _⟩ := h
        exact .inl (.inl (kp2 _ _ hl4 pD))
      · obtain ⟨b4, rfl, kp2, hd2⟩ := h
        rw [List.getElem?_map] at hy
        cases hn : b0[r]? with
        | none => rw [hn] at hy; cases hy
        | some n =>
          rw [hn] at hy
          cases hy
          have ml := midN_len (fewT false t) m r
          simp
          refine ⟨_, hd2, by omega, fun x o hx ne => by rw [upd_ne ne]; exact kp2 x o hx ne, ?_⟩
          rw [upd_same, midN_put nd (by rw [bD]; exact hn)]
      · obtain ⟨b4, rfl, kp2, hd2⟩ := h
        rw [List.length_map, ← bD, midN_end] at hd2
        exact ⟨⟨_, _, _, rfl⟩, fun x o hx ne => kp2 x o (e4 _ _ (kp x o hx ne)) ne, hd2⟩
    · obtain ⟨b2, b3, b4, rfl, kp, hd⟩ := h
      rw [el] at hd
      exact ⟨_, rfl, k D0 Hx nD (fun x o hx => kp x o (e3 _ _ (e2 _ _ (e1 _ _ hx))) (fun z => by rw [z, nD] at hx; cases hx)) hd⟩
theorem ok_covers (T : Txt K mg A) : FnOk P w K mg base CX0 36 A.a_covers A.d_covers ["told"] spCovers := by
  refine T.F_covers.ok sc_covers (fun vs H Q E h => ?_) (fun cdv C outer s H vs Q E hr h => ?_)
  · obtain ⟨v, t, rfl, _⟩ := h
    rfl
  · obtain ⟨v, t, rfl, hv, ok, k⟩ := h
    refine ⟨_, (pss_cons (ps_expr (pe_call (ok_tree_by T) (hr.mono (by omega)) rfl T.g_tree_by T.k_tree_by T.b_tree_by .nil pass0 (pa_cons (pv 0) pa_nil)))
  (pss_one (ps_ret (pe_lc (own := [("points", 1)]) rfl sc_covers.nd (pi_list (pe_call (ok_fewest_by T 31) (hr.mono (by omega)) rfl T.g_fewest_by T.k_fewest_by T.b_fewest_by .nil pass0 (pa_cons (pe_glob (v := .str "join") rfl T.cJOIN.choose_spec ⟨_, rfl⟩) (pa_cons (pv 0) pa_nil)))) (blkOk_by (own := [("points", 1)]) (N := ["told", "points"]) (sc := defScope s_covers) (by decide +kernel)) (fun _ _ _ _ _ => by exact (pg_name (i := 1) sc_covers.nd rfl (Or.inl rfl))) (fun _ _ _ _ _ => by exact pts_nil) (fun _ _ _ _ _ => by exact (pe_callB call_sortJ (by rfl) T.sorted (by decide +kernel) (pa_cons (pv 1) pa_nil))))))), ?_⟩
    have dep := ok.dep
    have few := ok.few
    have fb := few_bounds true t
    simp [L2.start, and_assoc]
    refine ⟨v, t, rfl, hv, ok.form, ok.nd, ok.inr, fun a H1 e1 _ => ?_⟩
    refine ⟨_, rfl, true, v, t, rfl, hv.up e1, by omega, ok, fun q as H2 n2 e2 na hq => ⟨q, rfl, ⟨_, .inl (.inl hq.at')⟩, fun D hD => ?_⟩⟩
    refine lc_listS (xs := as.map V.ref) (fun i y H => ∃ p l, (fewT true t)[i]? = some l ∧ y = .ref p ∧ H1 p = none ∧ p ≠ D ∧ LsI H p (srt l)) (fun i y H H' acc ⟨p, l, z1, z2, z3, z4, z5⟩ hD2 kk => ⟨p, l, z1, z2, z3, z4, kk _ _ z5 z4⟩) hD (.inl (.inl hq.at')) (by rw [List.length_map, hq.len]; omega) (fun i x H N hx e hH hN => ?_) (fun acc H' e h4 hlen hall => ?_)
    · obtain ⟨p0, b0, rfl, hp0, hb0, hl0⟩ := hq.get hx
      have := fb.2 b0 (List.mem_of_getElem? hb0)
      simp [L2.start, wipe]
      exact ⟨_, e _ _ hl0, by omega, fun p H3 n3 e3 h3 => hN _ H3 e3 ⟨p, b0, hb0, rfl, none_back (e2.trans e) n3, fun z => hH (by rw [← z]; exact n3), h3⟩⟩
    · have ex : ∀ c : Nat, ∃ p : Addr, c < acc.length → ∃ l, (fewT true t)[c]? = some l ∧ acc[c]? = some (.ref p) ∧ H1 p = none ∧ p ≠ D ∧ LsI H' p (srt l) := fun c => by
        by_cases hc : c < acc.length
        · obtain ⟨p, l, z1, z2, z3, z4, z5⟩ := hall c _ (List.getElem?_eq_getElem hc)
          exact ⟨p, fun _ => ⟨l, z1, by rw [List.getElem?_eq_getElem hc, z2], z3, z4, z5⟩⟩
        · exact ⟨0, fun h => absurd h hc⟩
      obtain ⟨f, hf⟩ := Classical.axiomOfChoice ex
      have la : acc.length = (fewT true t).length := by rw [hlen, List.length_map]; exact hq.len
      have ea : acc = ((List.range acc.length).map f).map V.ref := by
        refine List.ext_getElem? fun c => ?_
        rw [List.map_map, List.getElem?_map]
        by_cases hc : c < acc.length
        · obtain ⟨l, z1, z2, _⟩ := hf c hc
          rw [List.getElem?_range hc, z2]
          rfl
        · rw [List.getElem?_eq_none (by omega), List.getElem?_eq_none (by simp; omega)]
          rfl
      refine k D ((List.range acc.length).map f) H' (none_back (e1.trans e2) hD) (e1.trans (e2.trans e)) (fun a ha => ?_) ⟨by rw [← ea]; exact h4, by simp [la], fun i a ls x y => ?_⟩
      · obtain ⟨c, hc, rfl⟩ := List.mem_map.mp ha
        obtain ⟨l, z1, z2, z3, z4, _⟩ := hf c (by simpa using hc)
        exact ⟨none_back e1 z3, z4⟩
      · rw [List.getElem?_map] at x y
        have hi : i < acc.length := by
          cases z : (List.range acc.length)[i]? with
          | none => rw [z] at x; cases x
          | some d => have := (List.getElem?_eq_some_iff.mp z).1; simpa using this
        rw [List.getElem?_range hi] at x
        cases x
        obtain ⟨l, z1, z2, z3, z4, z5⟩ := hf i hi
        rw [z1] at y
        cases y
        exact z5
end
end Jk

namespace Jk
open PySem L2 Evl
def spIsCrowd : Sp := fun vs H Q _ => ∃ (f p l : Addr) (j : Bool) (ns : List Int) (t : Tr), vs = [.ref f, .ref p, .ref l, .bl j] ∧ LsI H f ns ∧ LsI H p (srt t.pts) ∧ LsP H l t.ties ∧ ns.Pairwise (· < ·) ∧ (∀ n ∈ ns, n ∈ t.pts) ∧ Uni j t ns ∧ OkT t ∧ ∀ H', Ex H H' → Q (.bl true) H'
theorem incl_len {t : Tr} (ok : OkT t) {ns : List Int} (inc : ns.Pairwise (· < ·)) (h : ∀ n ∈ ns, n ∈ t.pts) : ns.length ≤ 30 := Nat.le_trans (sub_len (inc.imp fun h => by omega) h) ok.few
theorem uni_tie {j : Bool} {t : Tr} {ns : List Int} (ok : OkT t) (inn : ∀ n ∈ ns, n ∈ t.pts) (u : Uni j t ns) {a b : Int} (lt : a < b) (ha : a ∈ ns) (hb : b ∈ ns) : decide ((a, b) ∈ t.ties) = j := by
  have e : mmI a b = (a, b) := by
    unfold mmI
    rw [Int.min_eq_left (by omega), Int.max_eq_right (by omega)]
  have h := ties_tie t ok.nd (a := a) (b := b) (by omega) (inn a ha) (inn b hb)
  rw [e] at h
  rw [← u a ha b hb (by omega)]
  cases z : t.tie a b
  · rw [decide_eq_false_iff_not, h, z]; simp
  · rw [decide_eq_true_iff, h, z]
theorem filt_none (l : List Int) : l.filter (fun _ => false) = [] := List.filter_eq_nil_iff.mpr (by simp)
theorem all_bl {acc : List V} (h : ∀ (i : Nat) (y : V), acc[i]? = some y → y = V.bl true) : acc = (List.replicate acc.length true).map V.bl := by
  refine List.ext_getElem? fun i => ?_
  rw [List.getElem?_map]
  by_cases hi : i < acc.length
  · have z := h i _ (List.getElem?_eq_getElem hi)
    rw [List.getElem?_replicate, if_pos hi, List.getElem?_eq_getElem hi, z]
    rfl
  · rw [List.getElem?_eq_none (by omega), List.getElem?_eq_none (by simp; omega)]
    rfl
section
variable {P : Program} {w : World} {K : PySem.W.Frag} {mg : Str → Option Value} {base : Heap} {A : Adr}
theorem ok_l_is_crowd (T : Txt K mg A) : FnOk P w K mg base CX0 1 A.a_l_is_crowd A.d_l_is_crowd ["_law_found", "_law_points_here", "_law_ties_here", "_law_is_tied"] spIsCrowd := by
  refine T.F_l_is_crowd.ok sc_l_is_crowd (fun vs H Q E h => ?_) (fun cdv C outer s H vs Q E hr h => ?_)
  · obtain ⟨f, p, l, j, ns, t, rfl, _⟩ := h
    rfl
  · obtain ⟨f, p, l, j, ns, t, rfl, hf, hp, hl, inc, inn, uni, ok, k⟩ := h
    refine ⟨_, (pss_cons (ps_if (PW.pt (pw_or (pt_not (pt_val (pe_callB call_isJ (by rfl) T.isinstance (by decide +kernel) (pa_cons (pv 0) (pa_cons (pe_bltn (v := .ty "list") (u := .type "list") (by rfl) T.list (by decide +kernel) rfl) pa_nil))))) (pw_or1 (pt_not (pt_val (pe_callB (cr_all rfl) (by rfl) T.all (by decide +kernel) (pa_cons (pe_lc (own := [("_law_point", 5)]) rfl sc_l_is_crowd.nd (pi_list (pv 0)) (blkOk_by (own := [("_law_point", 5)]) (N := ["_law_found", "_law_points_here", "_law_ties_here", "_law_is_tied", "_law_at", "_law_point", "_law_one"]) (sc := defScope s_l_is_crowd) (by decide +kernel)) (fun _ _ _ _ _ => by exact (pg_name (i := 5) sc_l_is_crowd.nd rfl (Or.inl rfl))) (fun _ _ _ _ _ => by exact pts_nil) (fun _ _ _ _ _ => by exact (pe_callB call_isJ (by rfl) T.isinstance (by decide +kernel) (pa_cons (pv 5) (pa_cons (pe_bltn (v := .ty "int") (u := .type "int") (by rfl) T.int (by decide +kernel) rfl) pa_nil))))) pa_nil)))))))
    (pss_one (ps_ret pe_bl))
    pss_nil)
  (pss_cons (ps_if (pt_cmpR (op_neI hr.units) (pe_lc (own := [("_law_point", 5)]) rfl sc_l_is_crowd.nd (pi_list (pv 0)) (blkOk_by (own := [("_law_point", 5)]) (N := ["_law_found", "_law_points_here", "_law_ties_here", "_law_is_tied", "_law_at", "_law_point", "_law_one"]) (sc := defScope s_l_is_crowd) (by decide +kernel)) (fun _ _ _ _ _ => by exact (pg_name (i := 5) sc_l_is_crowd.nd rfl (Or.inl rfl))) (fun _ _ _ _ _ => by exact (pts_one (PW.pt (pw_or (pt_val (pe_callB call_isJ (by rfl) T.isinstance (by decide +kernel) (pa_cons (pv 5) (pa_cons (pe_bltn (v := .ty "bool") (u := .type "bool") (by rfl) T.bool (by decide +kernel) rfl) pa_nil)))) (pw_or1 (pt_cmpR op_notInI (pv 5) (pv 1) (by rfl))))))) (fun _ _ _ _ _ => by exact (pv 5))) (pe_lstJ pa_nil) (nomark _))
    (pss_one (ps_ret pe_bl))
    pss_nil)
  (pss_cons (ps_for PassesOwn.never rfl (pi_range2 rfl T.range (pa_cons pe_int (pa_cons (pe_callB call_lenJ (by rfl) T.len (by decide +kernel) (pa_cons (pv 0) pa_nil)) pa_nil))) (pg_name (i := 4) sc_l_is_crowd.nd rfl (.inr rfl))
    (pss_cons (ps_if (pt_cmpR op_ge (pe_ix ix_listJ (pv 0) (pe_op op_sub (pv 4) pe_int) (fun _ _ => rfl)) (pe_ix ix_listJ (pv 0) (pv 4) (fun _ _ => rfl)) (nomark _))
        (pss_one (ps_ret pe_bl))
        pss_nil)
      (pss_one (ps_if (pt_cmpR (op_neI hr.units) (pe_lc (own := [("_law_one", 6)]) rfl sc_l_is_crowd.nd (pi_list (pe_slice sl_lstJ (pv 0) po_none (po_some (pv 4)))) (blkOk_by (own := [("_law_one", 6)]) (N := ["_law_found", "_law_points_here", "_law_ties_here", "_law_is_tied", "_law_at", "_law_point", "_law_one"]) (sc := defScope s_l_is_crowd) (by decide +kernel)) (fun _ _ _ _ _ => by exact (pg_name (i := 6) sc_l_is_crowd.nd rfl (Or.inl rfl))) (fun _ _ _ _ _ => by exact (pts_one (pt_cmpR op_ne (pe_cmpR (op_inP hr.u65) (pe_tupJ (pa_cons (pv 6) (pa_cons (pe_ix ix_listJ (pv 0) (pv 4) (fun _ _ => rfl)) pa_nil))) (pv 2) (by rfl)) (pv 3) (nomark _)))) (fun _ _ _ _ _ => by exact (pv 6))) (pe_lstJ pa_nil) (nomark _))
        (pss_one (ps_ret pe_bl))
        pss_nil))))
  (pss_one (ps_ret pe_bl))))), ?_⟩
    have len := incl_len ok inc inn
    have hf' : H f = some (.lst (ns.map V.int)) := hf
    refine seq_by (fun σ1 H1 => σ1 = [some (.ref f), some (.ref p), some (.ref l), some (.bl j), none, none, none] ∧ Ex H H1) (fun N hN => ?_) (fun s1 H1 m => ?_)
    · simp [L2.start, tyN_lst hf', and_assoc]
      refine ⟨_, rfl, f, rfl, ⟨_, .inl (.inl hf')⟩, fun D hD => lc_listS (xs := ns.map V.int) (fun i y H => y = (fun _ => V.bl true) i) stay_val hD (.inl (.inl hf')) (by rw [List.length_map]; omega) (fun i x H4 Nn hx e hH hN2 => ?_) (fun acc H4 e h4 hlen hall => ?_)⟩
      · rw [List.getElem?_map] at hx
        cases z : ns[i]? with
        | none => rw [z] at hx; cases hx
        | some n =>
          rw [z] at hx
          cases hx
          simp [wipe]
          exact hN2 _ H4 (Ex.refl _) rfl
      · rw [all_bl hall] at h4
        exact ⟨D, _, rfl, .inl (.inl h4), .inr ⟨by simp, hN _ _ ⟨rfl, e⟩⟩⟩
    obtain ⟨rfl, e1⟩ := m
    refine seq_by (fun σ1 H2 => σ1 = [some (.ref f), some (.ref p), some (.ref l), some (.bl j), none, none, none] ∧ Ex H H2) (fun N hN => ?_) (fun s1 H2 m => ?_)
    · simp [and_assoc]
      refine ⟨_, rfl, f, rfl, ⟨_, .inl (.inl (e1 _ _ hf'))⟩, fun D hD => lc_intsF ns (fun _ => false) hD (.inl (.inl (e1 _ _ hf'))) (by omega) (fun i n H4 hn e => ?_) (fun x σ H Q Q' m q => m _ _ q) (fun H4 e h4 => ?_)⟩
      · simp [wipe]
        refine fun N hN2 => ⟨_, e _ _ (e1 _ _ hp), ?_⟩
        have := inn n (List.mem_of_getElem? hn)
        simp [srt_mem, this]
        exact hN2 H4 (Ex.refl _)
      · rw [filt_none] at h4
        intro p1 H5 n5 e5 h5
        show jNeI (.ref D) (.ref p1) H5 _
        rw [j_neI]
        exact ⟨[], e5 _ _ h4, [], h5, .inl ⟨by simp, hN _ _ ⟨rfl, e1.trans (e.trans e5)⟩⟩⟩
    obtain ⟨rfl, e2⟩ := m
    refine ⟨_, rfl, f, _, rfl, e2 _ _ hf', 1, _, rfl, by rw [List.length_map]; omega, for_range (fun i σ H3 => ∃ b4 : Option V, σ = [some (.ref f), some (.ref p), some (.ref l), some (.bl j), b4, none, none] ∧ Ex H H3) ⟨none, rfl, e2⟩ (fun i σ H3 hi h => ?_) (fun σ H3 h => ?_)⟩
    · obtain ⟨b4, rfl, e3⟩ := h
      rw [List.length_map] at hi
      have i1 : i + 1 < ns.length := by omega
      have g0 : (ns.map V.int)[i]? = some (.int ns[i]) := by rw [List.getElem?_map, List.getElem?_eq_getElem (by omega)]; rfl
      have g1 : (ns.map V.int)[i + 1]? = some (.int ns[i + 1]) := by rw [List.getElem?_map, List.getElem?_eq_getElem i1]; rfl
      have z0 : (1 + (i : Int) - 1).toNat = i := by omega
      have z1 : (1 + (i : Int)).toNat = i + 1 := by omega
      have lt := List.pairwise_iff_getElem.mp inc i (i + 1) (by omega) i1 (by omega)
      rw [j_gname]
      refine seq_by (fun σ1 H4 => σ1 = [some (.ref f), some (.ref p), some (.ref l), some (.bl j), some (.int (1 + (i : Int))), none, none] ∧ H3 = H4) (fun N hN => ?_) (fun s1 H4 m => ?_)
      · simp [e3 _ _ hf']
        rw [z1, Nat.add_sub_cancel]
        refine ⟨by omega, _, ⟨ns[i], List.getElem?_eq_getElem _, rfl⟩, by omega, _, ⟨ns[i + 1], List.getElem?_eq_getElem _, rfl⟩, ?_⟩
        simp
        exact .inl ⟨lt, hN _ _ ⟨rfl, rfl⟩⟩
      obtain ⟨rfl, rfl⟩ := m
      simp [and_assoc]
      refine ⟨_, rfl, _, rfl, _, rfl, f, ns.map V.int, rfl, e3 _ _ hf', (fun i z => nomatch z), (fun i z => by cases z; omega), fun p2 H4 n4 e4 h4 => ⟨p2, rfl, ⟨_, .inl (.inl h4)⟩, fun D hD => ?_⟩⟩
      have h4' : H4 p2 = some (.lst ((ns.take (i + 1)).map V.int)) := by rw [h4]; simp [hiT, loN, z1]
      refine lc_intsF (ns.take (i + 1)) (fun _ => false) hD (.inl (.inl h4')) (by rw [List.length_take]; omega) (fun m n H5 hn e => ?_) (fun x σ H Q Q' m q => m _ _ q) (fun H5 e h5 => ?_)
      · have eH5 := e3.trans (e4.trans e)
        simp [wipe, eH5 _ _ hf', z1]
        refine fun N hN => ?_
        have nin : n ∈ ns := List.mem_of_mem_take (List.mem_of_getElem? hn)
        have lt2 : n < ns[i + 1] := take_lt inc (List.getElem?_eq_getElem i1) (List.mem_of_getElem? hn)
        refine ⟨by omega, _, ⟨ns[i + 1], List.getElem?_eq_getElem _, rfl⟩, fun q H6 n6 e6 h6 => ⟨n, ns[i + 1], h6, _, hl.up (eH5.trans e6), .inl ⟨uni_tie ok inn uni lt2 nin (List.getElem_mem _), hN H6 e6⟩⟩⟩
      · rw [filt_none] at h5
        intro p1 H6 n6 e6 h6
        show jNeI (.ref D) (.ref p1) H6 _
        rw [j_neI]
        exact ⟨[], e6 _ _ h5, [], h6, .inl ⟨by simp, e3.trans (e4.trans (e.trans e6))⟩⟩
    · obtain ⟨b4, rfl, e3⟩ := h
      exact k H3 e3
end
end Jk

namespace Jk
open PySem L2 Evl
@[simp] theorem kb_dd : kitB "dict" "dict" = some true := by decide +kernel
section
variable {K : PySem.W.Frag} {a : Addr} {g : TG} {tt : TT} {te : TE} {vs : List Nat} {σ : L2.St} {H1 : Hp} {D : Addr} {Qd : Hp → Prop}
/-- [x for x in xs if ..], of no x -/
theorem lc_noneF (xs : List V) (hD : H1 D = none) (hl : SqL K H1 a xs)
    (hs : ∀ (i : Nat) (x : V) (H : Hp), xs[i]? = some x → Ex H1 H → g x (wipe σ vs) H fun σ2 H2 => wipe σ2 vs = wipe σ vs ∧ ∀ N : Bool → Hp → Prop, (∀ H', Ex H H' → N false H') → tt σ2 H2 N)
    (mg : ∀ x σ H Q Q', (∀ s h, Q s h → Q' s h) → g x σ H Q → g x σ H Q')
    (hd : ∀ H', Ex H1 H' → LsI H' D [] → Qd H') :
    ∃ W : Nat → Nat → Hp → Prop, (∃ m, W 0 m (upd H1 D (.lst []))) ∧ ∀ i m H, W i m H →
      ((Itl K a).stop i H ∧ Qd H) ∨ ((Itl K a).go i H ∧ ∃ Nx : Hp → Prop, (∀ H', Nx H' → ∃ m', m' < m ∧ W (i + 1) m' H') ∧ ∀ x H', (Itl K a).yld i H x H' → g x (wipe σ vs) H' fun σ2 H2 => wipe σ2 vs = wipe σ vs ∧ tt σ2 H2 fun b H3 =>
        if b = true then te σ2 H3 fun y H4 => ∃ acc, H4 D = some (.lst acc) ∧ acc.length < sizeLine ∧ Nx (upd H4 D (.lst (acc ++ [y]))) else Nx H3) := by
  refine lc_list (xs := xs) (fun i H => Ex H1 H ∧ LsI H D []) ⟨Ex.new hD, upd_same⟩ (fun i H _ c => sql_kp hl fun o z => c.1 _ _ z) (fun i x H hx c => ?_) (fun H c => hd H c.1 c.2)
  obtain ⟨e, h⟩ := c
  refine mg _ _ _ _ _ (fun s2 h2 q => ?_) (hs i x H hx e)
  obtain ⟨q1, q2⟩ := q
  refine ⟨q1, q2 _ fun H' e' => ?_⟩
  rw [if_neg (by decide)]
  exact ⟨e.trans e', e' _ _ h⟩
end
def colOf (t : Tr) (n : Int) : Int := match valV (colsT t) (Sum.inl n : Key) with | some (.int c) => c | _ => 0
theorem cols_nd {t : Tr} (ok : OkT t) : ((colsT t).map (·.1)).Nodup := by
  have nd : (fewT false t).flatten.Nodup := (few_perm false t).nodup_iff.mpr ok.nd
  unfold colsT
  rw [colN_keys, List.take_length]
  have h : ((fewT false t).flatten.map fun p => (Sum.inl p : Key)).Pairwise (· ≠ ·) := by
    rw [List.pairwise_map]
    exact nd.imp fun h e => h (Sum.inl.inj e)
  exact h
theorem cols_at {t : Tr} (ok : OkT t) {c : Nat} {l : List Int} {n : Int} (h : (fewT false t)[c]? = some l) (hn : n ∈ l) : valV (colsT t) (Sum.inl n : Key) = some (.int (c : Nat)) := by
  refine valV_at (cols_nd ok) (p := (Sum.inl n, V.int (c : Nat))) ?_
  unfold colsT colN
  refine List.mem_flatMap.mpr ⟨c, List.mem_range.mpr (List.getElem?_eq_some_iff.mp h).1, List.mem_map.mpr ⟨n, ?_, rfl⟩⟩
  rw [List.getD_eq_getElem?_getD, h]
  exact hn
theorem col_of {t : Tr} (ok : OkT t) {n : Int} (hn : n ∈ t.pts) : ∃ (c : Nat) (l : List Int), (fewT false t)[c]? = some l ∧ n ∈ l ∧ valV (colsT t) (Sum.inl n : Key) = some (.int (c : Nat)) ∧ colOf t n = (c : Nat) := by
  obtain ⟨l, hl, nl⟩ := List.mem_flatten.mp ((few_perm false t).mem_iff.mpr hn)
  obtain ⟨c, hc, e⟩ := List.mem_iff_getElem.mp hl
  have h : (fewT false t)[c]? = some l := by rw [List.getElem?_eq_getElem hc, e]
  have v := cols_at ok h nl
  exact ⟨c, l, h, nl, v, by unfold colOf; rw [v]⟩
theorem tie_pts {t : Tr} (ok : OkT t) {p : Int × Int} (h : p ∈ t.ties) : p.1 ∈ t.pts ∧ p.2 ∈ t.pts ∧ p.1 ≠ p.2 ∧ t.tie p.1 p.2 = true := by
  obtain ⟨c, hc, d, hd, rfl⟩ := ties_in t p h
  have lt := ties_lt t ok.nd _ h
  have a1 : (mmI c d).1 ∈ t.pts := by unfold mmI; rcases Int.le_total c d with z | z <;> simp [z, Int.min_def, hc, hd] <;> split <;> assumption
  have a2 : (mmI c d).2 ∈ t.pts := by unfold mmI; rcases Int.le_total c d with z | z <;> simp [z, Int.max_def, hc, hd] <;> split <;> assumption
  refine ⟨a1, a2, by omega, (ties_tie t ok.nd (by omega) a1 a2).mp ?_⟩
  have e : mmI (mmI c d).1 (mmI c d).2 = mmI c d := by
    generalize mmI c d = q at lt ⊢
    obtain ⟨x, y⟩ := q
    unfold mmI
    rw [Int.min_eq_left (by simp at lt; omega), Int.max_eq_right (by simp at lt; omega)]
  rw [e]
  exact h
theorem col_ne {t : Tr} (ok : OkT t) {p : Int × Int} (h : p ∈ t.ties) {c d : Nat} {l m : List Int} (hc : (fewT false t)[c]? = some l) (hd : (fewT false t)[d]? = some m) (h1 : p.1 ∈ l) (h2 : p.2 ∈ m) : c ≠ d := fun e => by
  subst e
  rw [hc] at hd
  cases hd
  obtain ⟨_, _, ne, tie⟩ := tie_pts ok h
  have := few_uni false t ok.nd l (List.mem_of_getElem? hc) p.1 h1 p.2 h2 ne
  rw [tie] at this
  cases this
theorem cols_all {t : Tr} (ok : OkT t) (x : Int) : x ∈ ((List.range (fewT false t).length).map fun i : Nat => (i : Int)) ↔ x ∈ (srt t.pts).map (colOf t) := by
  rw [List.mem_map, List.mem_map]
  constructor
  · rintro ⟨c, hc, rfl⟩
    have lt := List.mem_range.mp hc
    have h := List.getElem?_eq_getElem lt
    have ne := few_ne false t _ (List.getElem_mem lt)
    obtain ⟨n, l, e⟩ := List.exists_cons_of_ne_nil ne
    have nl : n ∈ (fewT false t)[c] := by rw [e]; simp
    refine ⟨n, srt_mem.mpr (few_in (List.getElem_mem lt) nl), ?_⟩
    unfold colOf
    rw [cols_at ok h nl]
  · rintro ⟨n, hn, rfl⟩
    obtain ⟨c, l, h1, _, _, h4⟩ := col_of ok (srt_mem.mp hn)
    exact ⟨c, List.mem_range.mpr (List.getElem?_eq_some_iff.mp h1).1, h4.symm⟩
theorem rg_lt (n : Nat) : ((List.range n).map fun i : Nat => (i : Int)).Pairwise (· < ·) := by
  rw [List.pairwise_map]
  exact List.pairwise_lt_range.imp fun h => by omega
def spShaded : Sp := fun vs H Q _ => ∃ (d p l : Addr) (t : Tr), vs = [.ref d, .ref p, .ref l] ∧ H d = some (.dK (colsT t)) ∧ LsI H p (srt t.pts) ∧ LsP H l t.ties ∧ OkT t ∧ ∀ H', Ex H H' → Q (.int ((fewT false t).length : Nat)) H'
section
variable {P : Program} {w : World} {K : PySem.W.Frag} {mg : Str → Option Value} {base : Heap} {A : Adr}
theorem ok_l_shaded (T : Txt K mg A) : FnOk P w K mg base CX0 1 A.a_l_shaded A.d_l_shaded ["_law_found", "_law_points_here", "_law_ties_here"] spShaded := by
  refine T.F_l_shaded.ok sc_l_shaded (fun vs H Q E h => ?_) (fun cdv C outer s H vs Q E hr h => ?_)
  · obtain ⟨d, p, l, t, rfl, _⟩ := h
    rfl
  · obtain ⟨d, p, l, t, rfl, hd, hp, hl, ok, k⟩ := h
    have hu := hu_of hr
    refine ⟨_, (pss_cons (ps_if (PW.pt (pw_or (pt_not (pt_val (pe_callB call_isJ (by rfl) T.isinstance (by decide +kernel) (pa_cons (pv 0) (pa_cons (pe_bltn (v := .ty "dict") (u := .type "dict") (by rfl) T.dict (by decide +kernel) rfl) pa_nil))))) (pw_or1 (pt_cmpR (op_neI hr.units) (pe_callB (call_sortedDJ rfl) (by rfl) T.sorted (by decide +kernel) (pa_cons (pv 0) pa_nil)) (pv 1) (nomark _)))))
    (pss_one (ps_ret pe_int))
    pss_nil)
  (pss_cons (ps_if (pt_cmpR (op_neI hr.units) (pe_lc (own := [("_law_point", 4)]) rfl sc_l_shaded.nd (pi_list (pv 1)) (blkOk_by (own := [("_law_point", 4)]) (N := ["_law_found", "_law_points_here", "_law_ties_here", "_law_used", "_law_point", "_law_tie"]) (sc := defScope s_l_shaded) (by decide +kernel)) (fun _ _ _ _ _ => by exact (pg_name (i := 4) sc_l_shaded.nd rfl (Or.inl rfl))) (fun _ _ _ _ _ => by exact (pts_one (PW.pt (pw_or (pt_not (pt_val (pe_callB call_isJ (by rfl) T.isinstance (by decide +kernel) (pa_cons (pe_dgetJ (by exact hu) (pv 0) (pv 4) (fun _ _ => rfl)) (pa_cons (pe_bltn (v := .ty "int") (u := .type "int") (by rfl) T.int (by decide +kernel) rfl) pa_nil))))) (pw_or1 (pt_val (pe_callB call_isJ (by rfl) T.isinstance (by decide +kernel) (pa_cons (pe_dgetJ (by exact hu) (pv 0) (pv 4) (fun _ _ => rfl)) (pa_cons (pe_bltn (v := .ty "bool") (u := .type "bool") (by rfl) T.bool (by decide +kernel) rfl) pa_nil))))))))) (fun _ _ _ _ _ => by exact (pv 4))) (pe_lstJ pa_nil) (nomark _))
    (pss_one (ps_ret pe_int))
    pss_nil)
  (pss_cons (ps_if (pt_cmpR (op_neI hr.units) (pe_lc (own := [("_law_tie", 5)]) rfl sc_l_shaded.nd (pi_list (pv 2)) (blkOk_by (own := [("_law_tie", 5)]) (N := ["_law_found", "_law_points_here", "_law_ties_here", "_law_used", "_law_point", "_law_tie"]) (sc := defScope s_l_shaded) (by decide +kernel)) (fun _ _ _ _ _ => by exact (pg_name (i := 5) sc_l_shaded.nd rfl (Or.inl rfl))) (fun _ _ _ _ _ => by exact (pts_one (pt_cmpR op_eq (pe_dgetJ (by exact hu) (pv 0) (pe_ix ix_tupJ (pv 5) pe_int (fun _ _ => rfl)) (fun _ _ => rfl)) (pe_dgetJ (by exact hu) (pv 0) (pe_ix ix_tupJ (pv 5) pe_int (fun _ _ => rfl)) (fun _ _ => rfl)) (nomark _)))) (fun _ _ _ _ _ => by exact (pv 5))) (pe_lstJ pa_nil) (nomark _))
    (pss_one (ps_ret pe_int))
    pss_nil)
  (pss_cons (ps_set (i := 3) sc_l_shaded.nd rfl (Or.inl rfl) (pe_sortSet rfl (by rfl) T.sorted (by rfl) T.set (pe_lc (own := [("_law_point", 4)]) rfl sc_l_shaded.nd (pi_list (pv 1)) (blkOk_by (own := [("_law_point", 4)]) (N := ["_law_found", "_law_points_here", "_law_ties_here", "_law_used", "_law_point", "_law_tie"]) (sc := defScope s_l_shaded) (by decide +kernel)) (fun _ _ _ _ _ => by exact (pg_name (i := 4) sc_l_shaded.nd rfl (Or.inl rfl))) (fun _ _ _ _ _ => by exact pts_nil) (fun _ _ _ _ _ => by exact (pe_dgetJ (by exact hu) (pv 0) (pv 4) (fun _ _ => rfl))))))
  (pss_one (ps_ret (pe_ifExp (pt_cmpR (op_eqI hr.units) (pv 3) (pe_lstR rfl (by rfl) T.list (by rfl) T.range (pe_callB call_lenJ (by rfl) T.len (by decide +kernel) (pa_cons (pv 3) pa_nil))) (nomark _)) (pe_callB call_lenJ (by rfl) T.len (by decide +kernel) (pa_cons (pv 3) pa_nil)) pe_int))))))), ?_⟩
    have few := ok.few
    have fp := few_perm false t
    have keys := colN_keys (fewT false t) (fewT false t).length
    rw [List.take_length] at keys
    have hp' : H p = some (.lst ((srt t.pts).map V.int)) := hp
    have sl := srt_len t.pts
    refine seq_by (fun σ1 H1 => σ1 = [some (.ref d), some (.ref p), some (.ref l), none, none, none] ∧ Ex H H1) (fun N hN => ?_) (fun s1 H1 m => ?_)
    · simp [L2.start, tyN_dK hd, and_assoc]
      refine ⟨_, hd, (fewT false t).flatten, keys, by rw [fp.length_eq]; omega, fun q H1 n1 e1 h1 => ⟨_, h1, _, hp.up e1, .inl ⟨srt_of_perm fp, hN _ _ ⟨rfl, e1⟩⟩⟩⟩
    obtain ⟨rfl, e1⟩ := m
    refine seq_by (fun σ1 H2 => σ1 = [some (.ref d), some (.ref p), some (.ref l), none, none, none] ∧ Ex H H2) (fun N hN => ?_) (fun s1 H2 m => ?_)
    · simp [and_assoc]
      refine ⟨_, rfl, p, rfl, ⟨_, .inl (.inl (e1 _ _ hp'))⟩, fun D hD => lc_intsF (srt t.pts) (fun _ => false) hD (.inl (.inl (e1 _ _ hp'))) (by omega) (fun i n H4 hn e => ?_) (fun x σ H Q Q' m q => m _ _ q) (fun H4 e h4 => ?_)⟩
      · have eH := e1.trans e
        obtain ⟨c, l2, c1, c2, c3, c4⟩ := col_of ok (srt_mem.mp (List.mem_of_getElem? hn))
        simp [wipe]
        exact fun N hN2 => ⟨_, eH _ _ hd, _, c3, _, rfl, .inr ⟨kb_ii, _, eH _ _ hd, _, c3, _, rfl, .inl ⟨kb_ib, hN2 H4 (Ex.refl _)⟩⟩⟩
      · rw [filt_none] at h4
        intro p1 H5 n5 e5 h5
        show jNeI (.ref D) (.ref p1) H5 _
        rw [j_neI]
        exact ⟨[], e5 _ _ h4, [], h5, .inl ⟨by simp, hN _ _ ⟨rfl, e1.trans (e.trans e5)⟩⟩⟩
    obtain ⟨rfl, e2⟩ := m
    refine seq_by (fun σ1 H3 => σ1 = [some (.ref d), some (.ref p), some (.ref l), none, none, none] ∧ Ex H H3) (fun N hN => ?_) (fun s1 H3 m => ?_)
    · simp [and_assoc]
      obtain ⟨ts, hl1, hl2⟩ := hl
      refine ⟨_, rfl, l, rfl, ⟨_, .inl (.inl (e2 _ _ hl1))⟩, fun D hD => lc_noneF (ts.map V.ref) hD (.inl (.inl (e2 _ _ hl1))) (fun i x H4 hx e => ?_) (fun x σ H Q Q' m q => m _ _ q) (fun H4 e h4 => ?_)⟩
      · have eH := e2.trans e
        rw [List.getElem?_map] at hx
        cases hz : ts[i]? with
        | none => rw [hz] at hx; cases hx
        | some q =>
          rw [hz] at hx
          cases hx
          simp [wipe]
          have hi : i < t.ties.length := by rw [← hl2.1]; exact (List.getElem?_eq_some_iff.mp hz).1
          have hq := eH _ _ (hl2.2 i q _ hz (List.getElem?_eq_getElem hi))
          have pin := List.getElem_mem hi
          generalize t.ties[i] = pr at hq pin
          obtain ⟨in1, in2, _, _⟩ := tie_pts ok pin
          obtain ⟨c, l1, c1, c2, c3, _⟩ := col_of ok in1
          obtain ⟨c', l2, c1', c2', c3', _⟩ := col_of ok in2
          have ne := col_ne ok pin c1 c1' c2 c2'
          refine fun N hN2 => ⟨_, hq, _, rfl, _, eH _ _ hd, Sum.inl pr.1, rfl, _, c3, _, hq, _, rfl, _, eH _ _ hd, Sum.inl pr.2, rfl, _, c3', ?_⟩
          simp
          exact .inl ⟨by omega, hN2 H4 (Ex.refl _)⟩
      · intro p1 H5 n5 e5 h5
        show jNeI (.ref D) (.ref p1) H5 _
        rw [j_neI]
        exact ⟨[], e5 _ _ h4, [], h5, .inl ⟨by simp, hN _ _ ⟨rfl, e2.trans (e.trans e5)⟩⟩⟩
    obtain ⟨rfl, e3⟩ := m
    refine seq_by (fun σ1 H4 => ∃ u : Addr, σ1 = [some (.ref d), some (.ref p), some (.ref l), some (.ref u), none, none] ∧ Ex H H4 ∧ LsI H4 u ((List.range (fewT false t).length).map fun i : Nat => (i : Int))) (fun N hN => ?_) (fun s1 H4 m => ?_)
    · simp [and_assoc]
      refine ⟨_, rfl, p, rfl, ⟨_, .inl (.inl (e3 _ _ hp'))⟩, fun D hD => lc_listS (xs := (srt t.pts).map V.int) (fun i y H => y = .int (((srt t.pts).map (colOf t)).getD i 0)) stay_val hD (.inl (.inl (e3 _ _ hp'))) (by rw [List.length_map]; omega) (fun i x H4 Nn hx e hH hN2 => ?_) (fun acc H4 e h4 hlen hall => ?_)⟩
      · rw [List.getElem?_map] at hx
        cases hz : (srt t.pts)[i]? with
        | none => rw [hz] at hx; cases hx
        | some n =>
          rw [hz] at hx
          cases hx
          obtain ⟨c, l2, c1, c2, c3, c4⟩ := col_of ok (srt_mem.mp (List.mem_of_getElem? hz))
          simp [wipe]
          refine ⟨_, e _ _ (e3 _ _ hd), _, c3, hN2 _ H4 (Ex.refl _) ?_⟩
          rw [List.getD_eq_getElem?_getD, List.getElem?_map, hz]
          simp [c4]
      · have ea : acc = ((srt t.pts).map (colOf t)).map V.int := ints_of (by rw [hlen, List.length_map, List.length_map]) fun i y hy => by
          have hi : i < ((srt t.pts).map (colOf t)).length := by
            have := (List.getElem?_eq_some_iff.mp hy).1
            rw [hlen, List.length_map] at this
            rw [List.length_map]
            exact this
          refine ⟨_, List.getElem?_eq_getElem hi, ?_⟩
          rw [hall i y hy, List.getD_eq_getElem?_getD, List.getElem?_eq_getElem hi]
          rfl
        refine ⟨D, rfl, _, by unfold LsI; rw [h4, ea], by rw [List.length_map]; omega, _, rg_lt _, cols_all ok, by rw [List.length_map, List.length_range, few_len]; have := gN_le true t; show gN true t < 64; omega, fun q H5 n5 e5 h5 => hN _ _ ⟨q, rfl, e3.trans (e.trans e5), h5⟩⟩
    obtain ⟨u, rfl, e4, hu4⟩ := m
    simp
    have n0 : (fewT false t).length ≤ 30 := by rw [few_len]; have := gN_le true t; show gN true t ≤ 30; omega
    refine ⟨_, hu4, (fewT false t).length, by simp, by omega, fun q H5 n5 e5 h5 => ⟨_, e5 _ _ hu4, _, h5, .inr ⟨rfl, _, e5 _ _ hu4, ?_⟩⟩⟩
    simp
    exact k H5 (e4.trans e5)
end
end Jk

namespace Jk
open PySem L2 Evl
def covT (t : Tr) : List (List Int) := (fewT true t).map srt
theorem covT_perm (t : Tr) : (covT t).flatten.Perm t.pts := by
  have gen : ∀ ls : List (List Int), (ls.map srt).flatten.Perm ls.flatten := by
    intro ls
    induction ls with
    | nil => exact List.Perm.refl _
    | cons l ls ih => rw [List.map_cons, List.flatten_cons, List.flatten_cons]; exact (srt_perm l).append ih
  exact (gen _).trans (few_perm true t)
theorem covT_one {t : Tr} (ok : OkT t) {l : List Int} (h : l ∈ covT t) : l ≠ [] ∧ l.Pairwise (· < ·) ∧ (∀ n ∈ l, n ∈ t.pts) ∧ Uni true t l := by
  obtain ⟨m, hm, rfl⟩ := List.mem_map.mp h
  have nd : m.Nodup := by
    have : (fewT true t).flatten.Nodup := (few_perm true t).nodup_iff.mpr ok.nd
    exact this.sublist (List.sublist_flatten_of_mem hm)
  refine ⟨fun e => ?_, srt_lt nd, fun n hn => few_in hm (srt_mem.mp hn), fun a ha b hb ne => few_uni true t ok.nd m hm a (srt_mem.mp ha) b (srt_mem.mp hb) ne⟩
  have z := srt_len m
  rw [e] at z
  exact few_ne true t m hm (List.length_eq_zero_iff.mp z.symm)
theorem covT_len (t : Tr) : (covT t).length = gN false t := by rw [covT, List.length_map, few_len]; rfl
def spCovered : Sp := fun vs H Q _ => ∃ (q p l : Addr) (as : List Addr) (t : Tr), vs = [.ref q, .ref p, .ref l] ∧ LsLL H q (covT t) as ∧ LsI H p (srt t.pts) ∧ LsP H l t.ties ∧ OkT t ∧ ∀ H', Ex H H' → Q (.bl true) H'
section
variable {P : Program} {w : World} {K : PySem.W.Frag} {mg : Str → Option Value} {base : Heap} {A : Adr}
theorem ok_l_covered (T : Txt K mg A) : FnOk P w K mg base CX0 2 A.a_l_covered A.d_l_covered ["_law_found", "_law_points_here", "_law_ties_here"] spCovered := by
  refine T.F_l_covered.ok sc_l_covered (fun vs H Q E h => ?_) (fun cdv C outer s H vs Q E hr h => ?_)
  · obtain ⟨q, p, l, as, t, rfl, _⟩ := h
    rfl
  · obtain ⟨q, p, l, as, t, rfl, hq, hp, hl, ok, k⟩ := h
    refine ⟨_, (pss_cons (ps_if (PW.pt (pw_or (pt_not (pt_val (pe_callB call_isJ (by rfl) T.isinstance (by decide +kernel) (pa_cons (pv 0) (pa_cons (pe_bltn (v := .ty "list") (u := .type "list") (by rfl) T.list (by decide +kernel) rfl) pa_nil))))) (pw_or1 (pt_cmpR (op_neI hr.units) (pe_lc (own := [("_law_one", 3)]) rfl sc_l_covered.nd (pi_list (pv 0)) (blkOk_by (own := [("_law_one", 3)]) (N := ["_law_found", "_law_points_here", "_law_ties_here", "_law_one", "_law_together"]) (sc := defScope s_l_covered) (by decide +kernel)) (fun _ _ _ _ _ => by exact (pg_name (i := 3) sc_l_covered.nd rfl (Or.inl rfl))) (fun _ _ _ _ _ => by exact (pts_one (PW.pt (pw_or (pt_cmpR (op_eqI hr.units) (pv 3) (pe_lstJ pa_nil) (nomark _)) (pw_or1 (pt_not (pt_val (pe_callB call_isJ (by rfl) T.isinstance (by decide +kernel) (pa_cons (pv 3) (pa_cons (pe_bltn (v := .ty "list") (u := .type "list") (by rfl) T.list (by decide +kernel) rfl) pa_nil)))))))))) (fun _ _ _ _ _ => by exact (pv 3))) (pe_lstJ pa_nil) (nomark _)))))
    (pss_one (ps_ret pe_bl))
    pss_nil)
  (pss_cons (ps_set (i := 4) sc_l_covered.nd rfl (Or.inl rfl) (pe_lstJ pa_nil))
  (pss_cons (ps_for PassesOwn.never rfl (pi_list (pv 0)) (pg_name (i := 3) sc_l_covered.nd rfl (.inl rfl))
    (pss_cons (ps_if (pt_not (pt_val (pe_call (ok_l_is_crowd T) (hr.mono (by omega)) rfl T.g_l_is_crowd T.k_l_is_crowd T.b_l_is_crowd .nil pass0 (pa_cons (pv 3) (pa_cons (pv 1) (pa_cons (pv 2) (pa_cons pe_bl pa_nil)))))))
        (pss_one (ps_ret pe_bl))
        pss_nil)
      (pss_one (ps_set (i := 4) sc_l_covered.nd rfl (Or.inl rfl) (pe_op op_catJ (pv 4) (pv 3))))))
  (pss_one (ps_ret (pe_cmpR (op_eqI hr.units) (pe_callB call_sortJ (by rfl) T.sorted (by decide +kernel) (pa_cons (pv 4) pa_nil)) (pv 1) (nomark _))))))), ?_⟩
    have few := ok.few
    have cl := covT_len t
    have gl := gN_le false t
    have fl := (covT_perm t).length_eq
    have sq := hq.at'
    have asl := hq.len
    refine seq_by (fun σ1 H1 => σ1 = [some (.ref q), some (.ref p), some (.ref l), none, none] ∧ Ex H H1) (fun N hN => ?_) (fun s1 H1 m => ?_)
    · simp [L2.start, tyN_lst sq, and_assoc]
      refine ⟨_, rfl, q, rfl, ⟨_, .inl (.inl sq)⟩, fun D hD => lc_noneF (as.map V.ref) hD (.inl (.inl sq)) (fun i x H4 hx e => ?_) (fun x σ H Q Q' m q => m _ _ q) (fun H4 e h4 => ?_)⟩
      · obtain ⟨p0, b0, rfl, hp0, hb0, hl0⟩ := hq.get hx
        have ne := (covT_one ok (List.mem_of_getElem? hb0)).1
        have hl4 : H4 p0 = some (.lst (b0.map V.int)) := e _ _ hl0
        simp [wipe]
        intro N hN2 p1 H5 n5 e5 h5
        refine ⟨b0, e5 _ _ hl4, [], h5, .inl ⟨ne, ?_⟩⟩
        simp [tyN_lst (e5 _ _ hl4)]
        exact hN2 H5 e5
      · intro p1 H5 n5 e5 h5
        show jNeI (.ref D) (.ref p1) H5 _
        rw [j_neI]
        exact ⟨[], e5 _ _ h4, [], h5, .inl ⟨by simp, hN _ _ ⟨rfl, e.trans e5⟩⟩⟩
    obtain ⟨rfl, e1⟩ := m
    simp [and_assoc]
    intro T0 H2 n2 e2 h2
    refine ⟨_, rfl, q, rfl, ⟨_, .inl (.inl ((e1.trans e2) _ _ sq))⟩, for_list (xs := as.map V.ref) (fun i σ H3 => ∃ (T3 : Addr) (b3 : Option V), σ = [some (.ref q), some (.ref p), some (.ref l), b3, some (.ref T3)] ∧ Ex H H3 ∧ LsI H3 T3 ((covT t).take i).flatten) ⟨T0, none, rfl, e1.trans e2, by simpa [LsI] using h2⟩ (fun i σ H3 _ h => ?_) (fun i x σ H3 hx h => ?_) (fun σ H3 h => ?_)⟩
    · obtain ⟨T3, b3, rfl, e3, _⟩ := h
      exact .inl (.inl (e3 _ _ sq))
    · obtain ⟨T3, b3, rfl, e3, h3⟩ := h
      obtain ⟨p0, b0, rfl, hp0, hb0, hl0⟩ := hq.get hx
      obtain ⟨_, c2, c3, c4⟩ := covT_one ok (List.mem_of_getElem? hb0)
      have st := flat_take hb0
      have sz := flat_le (covT t) (i + 1)
      rw [st, List.length_append] at sz
      simp
      refine ⟨p0, p, l, true, b0, t, rfl, e3 _ _ hl0, hp.up e3, hl.up e3, c2, c3, c4, ok, fun H4 e4 => .inr ⟨rfl, _, e4 _ _ h3, _, e4 _ _ (e3 _ _ hl0), by rw [List.length_map, List.length_map]; omega, fun p5 H5 n5 e5 h5 => ⟨e3.trans (e4.trans e5), ?_⟩⟩⟩
      unfold LsI
      rw [st, h5, List.map_append]
    · obtain ⟨T3, b3, rfl, e3, h3⟩ := h
      rw [List.length_map, asl, List.take_length] at h3
      simp
      refine ⟨_, h3, by omega, fun p4 H4 n4 e4 h4 => ⟨_, h4, _, hp.up (e3.trans e4), ?_⟩⟩
      rw [srt_of_perm (covT_perm t), decide_eq_true rfl]
      exact k H4 (e3.trans e4)
end
end Jk

namespace Jk
open PySem L2 Evl
/-! ## what is told of a tree, and its repr -/
def colP (t : Tr) : List (Int × Int) := (List.range (fewT false t).length).flatMap fun c => ((fewT false t).getD c []).map fun p => (p, ((c : Nat) : Int))
theorem colP_dk (t : Tr) : dkI (colP t) = colsT t := by
  unfold dkI colP colsT colN
  rw [List.map_flatMap]
  congr 1
  funext c
  rw [List.map_map]
  rfl
theorem colP_in {t : Tr} {p : Int × Int} (h : p ∈ colP t) : p.1 ∈ t.pts ∧ 0 ≤ p.2 ∧ p.2 < (fewT false t).length := by
  obtain ⟨c, hc, hp⟩ := List.mem_flatMap.mp h
  obtain ⟨n, hn, rfl⟩ := List.mem_map.mp hp
  have lt := List.mem_range.mp hc
  rw [List.getD_eq_getElem?_getD, List.getElem?_eq_getElem lt] at hn
  exact ⟨few_in (List.getElem_mem lt) hn, by simp, by simpa using lt⟩
theorem colP_len {t : Tr} (ok : OkT t) : (colP t).length ≤ 30 := by
  have h := congrArg List.length (colN_keys (fewT false t) (fewT false t).length)
  have e : (colP t).length = (colsT t).length := by rw [← colP_dk, dkI, List.length_map]
  rw [List.length_map, List.length_map, List.take_length, (few_perm false t).length_eq] at h
  rw [e]
  unfold colsT
  have := ok.few
  omega
def lsD (l : List Int) : PyData := .list (l.map .int)
def dsT (t : Tr) : List PyData := [.list [lsD (srt (greatT true t)), lsD (srt (greatT false t))], ddI (colP t), .list ((covT t).map lsD)]
theorem rpl_lists : ∀ {lss : List (List Int)}, (∀ l ∈ lss, ∀ n ∈ l, 0 ≤ n ∧ n < 1000) → RpL (lss.map lsD) (11 * lss.flatten.length + lss.length) 1
  | [], _ => RpL.nil _ _
  | l :: lss, h => by
    have := RpL.cons (d := lsD l) (RpL.ints (ns := l) (h l (by simp))).list (rpl_lists (lss := lss) fun m hm => h m (by simp [hm]))
    exact this.mono (by simp only [List.flatten_cons, List.length_append, List.length_cons]; omega) (Nat.le_refl _)
theorem dp_lists {K : PySem.W.Frag} {H : Hp} : ∀ {as : List Addr} {lss : List (List Int)}, AllI H as lss → DpAll K H (as.map V.ref) (lss.map lsD)
  | [], [], _ => .nil
  | [], l :: lss, h => by have := h.1; simp at this
  | a :: as, [], h => by have := h.1; simp at this
  | a :: as, l :: lss, h => .cons (dpI (h.2 0 a l rfl rfl)) (dp_lists ⟨by have := h.1; simpa using this, fun i b m x y => h.2 (i + 1) b m (by simpa using x) (by simpa using y)⟩)
theorem rq_ds {t : Tr} (ok : OkT t) : RqL (dsT t) 2000 3 := by
  have few := ok.few
  have b : ∀ n ∈ t.pts, 0 ≤ n ∧ n < 1000 := ok.b
  have g1 := (great_sub true t).length_le
  have g2 := (great_sub false t).length_le
  have c0 := covT_len t
  have c1 := gN_le false t
  have c2 := (covT_perm t).length_eq
  have p0 := colP_len ok
  have r1 : Rp (lsD (srt (greatT true t))) 330 1 := (RpL.ints (ns := srt (greatT true t)) fun n hn => b n (great_in (srt_mem.mp hn))).list.mono (by rw [srt_len]; omega) (Nat.le_refl _)
  have r2 : Rp (lsD (srt (greatT false t))) 330 1 := (RpL.ints (ns := srt (greatT false t)) fun n hn => b n (great_in (srt_mem.mp hn))).list.mono (by rw [srt_len]; omega) (Nat.le_refl _)
  have r3 := (RpL.cons r1 (RpL.cons r2 (RpL.nil 0 1))).list
  have r4 := Rq.dict (ps := colP t) fun p hp => by
    obtain ⟨a1, a2, a3⟩ := colP_in hp
    have := b _ a1
    have e : (fewT false t).length ≤ 30 := by rw [few_len]; have := gN_le true t; show gN true t ≤ 30; omega
    omega
  have r5 := (rpl_lists (lss := covT t) fun l hl n hn => b n ((covT_one ok hl).2.2.1 n hn)).list
  have := RqL.cons (r3.q.mono (Nat.le_refl _) (show 2 ≤ 3 by omega)) (RqL.cons (r4.mono (Nat.le_refl _) (show 1 ≤ 3 by omega)) (RqL.cons (r5.q.mono (Nat.le_refl _) (show 2 ≤ 3 by omega)) (RqL.nil 0 3)))
  exact ⟨this.shw, this.lsh, this.dep, Nat.le_trans this.wgt (by omega)⟩
/-- all that is told of a tree, at A0 -/
structure RA (N : Addr → Prop) (H : Hp) (A0 : Addr) (t : Tr) : Prop where
  ex : ∃ (A1 c s d q : Addr) (as : List Addr), (N A0 ∧ N A1 ∧ N c ∧ N s ∧ N d ∧ N q ∧ ∀ a ∈ as, N a) ∧ H A0 = some (.lst [.ref A1, .ref d, .ref q]) ∧ H A1 = some (.lst [.ref c, .ref s]) ∧ LsI H c (srt (greatT true t)) ∧ LsI H s (srt (greatT false t)) ∧ H d = some (.dK (colsT t)) ∧ LsLL H q (covT t) as
theorem RA.keep {N : Addr → Prop} {H H' : Hp} {A0 : Addr} {t : Tr} (h : RA N H A0 t) (k : ∀ x o, N x → H x = some o → H' x = some o) : RA N H' A0 t := by
  obtain ⟨A1, c, s, d, q, as, ⟨n0, n1, n2, n3, n4, n5, n6⟩, h0, h1, h2, h3, h4, h5⟩ := h.ex
  exact ⟨A1, c, s, d, q, as, ⟨n0, n1, n2, n3, n4, n5, n6⟩, k _ _ n0 h0, k _ _ n1 h1, k _ _ n2 h2, k _ _ n3 h3, k _ _ n4 h4, k _ _ n5 h5.at', h5.len, fun i a ls x y => k _ _ (n6 a (List.mem_of_getElem? x)) (h5.all i a ls x y)⟩
theorem RA.repr {K : PySem.W.Frag} {N : Addr → Prop} {H : Hp} {A0 : Addr} {t : Tr} {Q : VK} (h : RA N H A0 t) (ok : OkT t) (q : Q (.str (PyData.list (dsT t)).shown) H) : jReprM K [.ref A0] H Q := by
  obtain ⟨A1, c, s, d, q0, as, _, h0, h1, h2, h3, h4, h5⟩ := h.ex
  refine ⟨A0, _, dsT t, 2000, 3, rfl, h0, .cons (.inl ⟨.lst (.inl (.inl h1)) (.cons (dpI h2) (.cons (dpI h3) .nil)), ?_⟩) (.cons (.inr ⟨d, colP t, rfl, by rw [colP_dk]; exact h4, rfl⟩) (.cons (.inl ⟨.lst (.inl (.inl h5.at')) (dp_lists h5.allI), ?_⟩) .nil)), rq_ds ok, by decide, by decide, q⟩
  · have i : ∀ l : List Int, PyData.hasDictAll (l.map .int) = false := by
      intro l
      induction l with
      | nil => rfl
      | cons a l ih => simp only [List.map_cons, PyData.hasDictAll, PyData.hasDict, ih, Bool.or_self]
    simp only [lsD, PyData.hasDict, PyData.hasDictAll, i, Bool.or_self]
  · have i : ∀ l : List Int, PyData.hasDictAll (l.map .int) = false := by
      intro l
      induction l with
      | nil => rfl
      | cons a l ih => simp only [List.map_cons, PyData.hasDictAll, PyData.hasDict, ih, Bool.or_self]
    have j : ∀ ls : List (List Int), PyData.hasDictAll (ls.map lsD) = false := by
      intro ls
      induction ls with
      | nil => rfl
      | cons a ls ih => simp only [List.map_cons, lsD, PyData.hasDictAll, PyData.hasDict, i, Bool.false_or]; exact ih
    simp only [PyData.hasDict, j]
def spRight : Sp := fun vs H Q _ => ∃ (v : V) (t : Tr), vs = [v] ∧ ToldAt H v t ∧ OkT t ∧ ∀ H', Ex H H' → Q (.bl true) H'
section
variable {P : Program} {w : World} {K : PySem.W.Frag} {mg : Str → Option Value} {base : Heap} {A : Adr}
/-- [[crowd(t), still(t)], colours(t), covers(t)] -/
theorem read_again {v : V} {t : Tr} {H : Hp} (hv : ToldAt H v t) (ok : OkT t) {R : Addr → Hp → Prop} (k : ∀ A0 H', Ex H H' → RA (fun x => H x = none) H' A0 t → R A0 H') :
    spCrowd true [v] H (fun x H1 => spCrowd false [v] H1 (fun y H2 => ∀ A1 H3, H2 A1 = none → Ex H2 H3 → H3 A1 = some (.lst [x, y]) → spColours [v] H3 (fun z H4 => spCovers [v] H4 (fun w H5 => ∀ A0 H6, H5 A0 = none → Ex H5 H6 → H6 A0 = some (.lst [.ref A1, z, w]) → R A0 H6) E0) E0) E0) E0 := by
  refine ⟨v, t, rfl, hv, ok, fun c H1 n1 e1 h1 => ⟨v, t, rfl, hv.up e1, ok, fun s H2 n2 e2 h2 A1 H3 n3 e3 h3 => ⟨v, t, rfl, hv.up (e1.trans (e2.trans e3)), ok, fun d H4 n4 e4 h4 => ⟨v, t, rfl, hv.up (e1.trans (e2.trans (e3.trans e4))), ok, fun q as H5 n5 e5 na h5 A0 H6 n6 e6 h6 => ?_⟩⟩⟩⟩
  have e02 := e1.trans e2
  have e03 := e02.trans e3
  have e04 := e03.trans e4
  have e05 := e04.trans e5
  exact k A0 H6 (e05.trans e6) ⟨A1, c, s, d, q, as, ⟨none_back e05 n6, none_back e02 n3, n1, none_back e1 n2, none_back e03 n4, none_back e04 n5, fun a ha => none_back e04 (na a ha).1⟩, h6, e6 _ _ (e5 _ _ (e4 _ _ h3)), e6 _ _ (e5 _ _ (e4 _ _ (e3 _ _ (e2 _ _ h1)))), e6 _ _ (e5 _ _ (e4 _ _ (e3 _ _ h2))), e6 _ _ (e5 _ _ h4), h5.up e6⟩
theorem ok_l_right (T : Txt K mg A) : FnG P w K mg base 40 A.a_l_right A.d_l_right ["_law_told_here"] spRight := by
  refine T.F_l_right.okG sc_l_right (fun vs H Q E h => ?_) (fun cdv C outer s H vs Q E hg hr h => ?_)
  · obtain ⟨v, t, rfl, _⟩ := h
    rfl
  · obtain ⟨v, t, rfl, hv, ok, k⟩ := h
    refine ⟨_, (pss_cons (ps_set (i := 1) sc_l_right.nd rfl (Or.inl rfl) (pe_callB call_sortJ (by rfl) T.sorted (by decide +kernel) (pa_cons (pe_call (ok_l_points T 31) (hr.mono (by omega)) rfl T.g_l_points T.k_l_points T.b_l_points .nil pass0 (pa_cons (pv 0) pa_nil)) pa_nil)))
  (pss_cons (ps_set (i := 2) sc_l_right.nd rfl (Or.inl rfl) (pe_call (ok_l_ties T 31) (hr.mono (by omega)) rfl T.g_l_ties T.k_l_ties T.b_l_ties .nil pass0 (pa_cons (pv 0) pa_nil)))
  (pss_cons (ps_set (i := 3) sc_l_right.nd rfl (Or.inl rfl) (pe_lstJ (pa_cons (pe_call (ok_crowd T) (hr.mono (by omega)) rfl T.g_crowd T.k_crowd T.b_crowd .nil pass0 (pa_cons (pv 0) pa_nil)) (pa_cons (pe_call (ok_still T) (hr.mono (by omega)) rfl T.g_still T.k_still T.b_still .nil pass0 (pa_cons (pv 0) pa_nil)) pa_nil))))
  (pss_cons (ps_if (pt_not (pt_val (pe_call (ok_l_is_crowd T) (hr.mono (by omega)) rfl T.g_l_is_crowd T.k_l_is_crowd T.b_l_is_crowd .nil pass0 (pa_cons (pe_ix ix_listJ (pv 3) pe_int (fun _ _ => rfl)) (pa_cons (pv 1) (pa_cons (pv 2) (pa_cons pe_bl pa_nil)))))))
    (pss_one (ps_ret pe_bl))
    pss_nil)
  (pss_cons (ps_if (pt_not (pt_val (pe_call (ok_l_is_crowd T) (hr.mono (by omega)) rfl T.g_l_is_crowd T.k_l_is_crowd T.b_l_is_crowd .nil pass0 (pa_cons (pe_ix ix_listJ (pv 3) pe_int (fun _ _ => rfl)) (pa_cons (pv 1) (pa_cons (pv 2) (pa_cons pe_bl pa_nil)))))))
    (pss_one (ps_ret pe_bl))
    pss_nil)
  (pss_cons (ps_set (i := 4) sc_l_right.nd rfl (Or.inl rfl) (pe_call (ok_colours T) (hr.mono (by omega)) rfl T.g_colours T.k_colours T.b_colours .nil pass0 (pa_cons (pv 0) pa_nil)))
  (pss_cons (ps_set (i := 5) sc_l_right.nd rfl (Or.inl rfl) (pe_call (ok_covers T) (hr.mono (by omega)) rfl T.g_covers T.k_covers T.b_covers .nil pass0 (pa_cons (pv 0) pa_nil)))
  (pss_cons (ps_if (pt_cmpR op_ne (pe_call (ok_l_shaded T) (hr.mono (by omega)) rfl T.g_l_shaded T.k_l_shaded T.b_l_shaded .nil pass0 (pa_cons (pv 4) (pa_cons (pv 1) (pa_cons (pv 2) pa_nil)))) (pe_callB call_lenJ (by rfl) T.len (by decide +kernel) (pa_cons (pe_ix ix_listJ (pv 3) pe_int (fun _ _ => rfl)) pa_nil)) (nomark _))
    (pss_one (ps_ret pe_bl))
    pss_nil)
  (pss_cons (ps_if (PW.pt (pw_or (pt_not (pt_val (pe_call (ok_l_covered T) (hr.mono (by omega)) rfl T.g_l_covered T.k_l_covered T.b_l_covered .nil pass0 (pa_cons (pv 5) (pa_cons (pv 1) (pa_cons (pv 2) pa_nil)))))) (pw_or1 (pt_cmpR op_ne (pe_callB call_lenJ (by rfl) T.len (by decide +kernel) (pa_cons (pv 5) pa_nil)) (pe_callB call_lenJ (by rfl) T.len (by decide +kernel) (pa_cons (pe_ix ix_listJ (pv 3) pe_int (fun _ _ => rfl)) pa_nil)) (nomark _)))))
    (pss_one (ps_ret pe_bl))
    pss_nil)
  (pss_cons (ps_set (i := 6) sc_l_right.nd rfl (Or.inl rfl) (pe_callB (call_reprM (guards_deeper hg) hr.units) (by rfl) T.repr (by decide +kernel) (pa_cons (pe_lstJ (pa_cons (pv 3) (pa_cons (pv 4) (pa_cons (pv 5) pa_nil)))) pa_nil)))
  (pss_cons (ps_set (i := 7) sc_l_right.nd rfl (Or.inl rfl) (pe_lstJ (pa_cons (pe_lstJ (pa_cons (pe_call (ok_crowd T) (hr.mono (by omega)) rfl T.g_crowd T.k_crowd T.b_crowd .nil pass0 (pa_cons (pv 0) pa_nil)) (pa_cons (pe_call (ok_still T) (hr.mono (by omega)) rfl T.g_still T.k_still T.b_still .nil pass0 (pa_cons (pv 0) pa_nil)) pa_nil))) (pa_cons (pe_call (ok_colours T) (hr.mono (by omega)) rfl T.g_colours T.k_colours T.b_colours .nil pass0 (pa_cons (pv 0) pa_nil)) (pa_cons (pe_call (ok_covers T) (hr.mono (by omega)) rfl T.g_covers T.k_covers T.b_covers .nil pass0 (pa_cons (pv 0) pa_nil)) pa_nil)))))
  (pss_cons (ps_expr (pe_bmL PySem.F.slot_list_append PySem.F.type_list_append mt_append (pe_ix ix_listJ (pv 3) pe_int (fun _ _ => rfl)) (pa_cons pe_int pa_nil)))
  (pss_cons (ps_expr (pe_bmL0 PySem.F.slot_list_clear PySem.F.type_list_clear mt_clear (pe_ix ix_listJ (pv 3) pe_int (fun _ _ => rfl))))
  (pss_cons (ps_expr (pe_dclearJ (pv 4)))
  (pss_cons (ps_expr (pe_bmL PySem.F.slot_list_append PySem.F.type_list_append mt_append (pe_ix ix_listJ (pv 5) pe_int (fun _ _ => rfl)) (pa_cons pe_int pa_nil)))
  (pss_cons (ps_expr (pe_bmL PySem.F.slot_list_append PySem.F.type_list_append mt_append (pv 5) (pa_cons (pe_lstJ pa_nil) pa_nil)))
  (pss_cons (ps_set (i := 8) sc_l_right.nd rfl (Or.inl rfl) (pe_lstJ (pa_cons (pe_lstJ (pa_cons (pe_call (ok_crowd T) (hr.mono (by omega)) rfl T.g_crowd T.k_crowd T.b_crowd .nil pass0 (pa_cons (pv 0) pa_nil)) (pa_cons (pe_call (ok_still T) (hr.mono (by omega)) rfl T.g_still T.k_still T.b_still .nil pass0 (pa_cons (pv 0) pa_nil)) pa_nil))) (pa_cons (pe_call (ok_colours T) (hr.mono (by omega)) rfl T.g_colours T.k_colours T.b_colours .nil pass0 (pa_cons (pv 0) pa_nil)) (pa_cons (pe_call (ok_covers T) (hr.mono (by omega)) rfl T.g_covers T.k_covers T.b_covers .nil pass0 (pa_cons (pv 0) pa_nil)) pa_nil)))))
  (pss_one (ps_ret (pe_and (pe_cmpR op_eq (pe_callB (call_reprM (guards_deeper hg) hr.units) (by rfl) T.repr (by decide +kernel) (pa_cons (pv 7) pa_nil)) (pv 6) (nomark _)) (pe_one (pe_cmpR op_eq (pe_callB (call_reprM (guards_deeper hg) hr.units) (by rfl) T.repr (by decide +kernel) (pa_cons (pv 8) pa_nil)) (pv 6) (nomark _))))))))))))))))))))))), ?_⟩
    have few := ok.few
    have dep := ok.dep
    have g1 := (great_sub true t).length_le
    have g2 := (great_sub false t).length_le
    refine seq_by (fun σ1 H1 => ∃ p : Addr, σ1 = [some v, some (.ref p), none, none, none, none, none, none, none] ∧ Ex H H1 ∧ LsI H1 p (srt t.pts)) (fun N hN => ?_) (fun s1 H1 m => ?_)
    · simp [L2.start, and_assoc]
      refine ⟨v, t, rfl, hv, by omega, by omega, fun a H1 n1 e1 h1 => ?_⟩
      show jSorted K [.ref a] H1 _
      rw [j_sorted]
      exact ⟨_, h1, by omega, fun p H2 n2 e2 h2 => hN _ _ ⟨p, rfl, e1.trans e2, h2⟩⟩
    obtain ⟨p, rfl, e1, hp⟩ := m
    refine seq_by (fun σ1 H2 => ∃ l : Addr, σ1 = [some v, some (.ref p), some (.ref l), none, none, none, none, none, none] ∧ Ex H1 H2 ∧ LsP H2 l t.ties) (fun N hN => ?_) (fun s1 H2 m => ?_)
    · simp [and_assoc]
      exact ⟨v, t, rfl, hv.up e1, by omega, by omega, fun l H2 n2 e2 h2 => hN _ _ ⟨l, rfl, e2, h2⟩⟩
    obtain ⟨l, rfl, e2, hl⟩ := m
    refine seq_by (fun σ1 H3 => ∃ S c s : Addr, σ1 = [some v, some (.ref p), some (.ref l), some (.ref S), none, none, none, none, none] ∧ Ex H2 H3 ∧ H3 S = some (.lst [.ref c, .ref s]) ∧ LsI H3 c (srt (greatT true t)) ∧ LsI H3 s (srt (greatT false t)) ∧ H c = none ∧ H s = none ∧ S ≠ c ∧ S ≠ s ∧ s ≠ c) (fun N hN => ?_) (fun s1 H3 m => ?_)
    · simp [and_assoc]
      have e02 := e1.trans e2
      exact ⟨v, t, rfl, hv.up e02, ok, fun c H3 n3 e3 h3 => ⟨v, t, rfl, hv.up (e02.trans e3), ok, fun s H4 n4 e4 h4 S H5 n5 e5 h5 => hN _ _ ⟨S, c, s, rfl, e3.trans (e4.trans e5), h5, e5 _ _ (e4 _ _ h3), e5 _ _ h4, none_back e02 n3, none_back (e02.trans e3) n4, (ne_of_none (e4 _ _ h3) n5).symm, (ne_of_none h4 n5).symm, (ne_of_none h3 n4).symm⟩⟩⟩
    obtain ⟨S, c, s, rfl, e3, hS, hc, hs, nc, ns, Sc, Ss, sc⟩ := m
    refine seq_by (fun σ1 H4 => σ1 = [some v, some (.ref p), some (.ref l), some (.ref S), none, none, none, none, none] ∧ Ex H3 H4) (fun N hN => ?_) (fun s1 H4 m => ?_)
    · simp [and_assoc, hS]
      exact ⟨c, p, l, true, _, t, rfl, hc, hp.up (e2.trans e3), hl.up e3, srt_lt (great_nd ok.nd), fun n hn => great_in (srt_mem.mp hn), fun a ha b hb ne => great_uni true t ok.nd a (srt_mem.mp ha) b (srt_mem.mp hb) ne, ok, fun H4 e4 => .inr ⟨rfl, hN _ _ ⟨rfl, e4⟩⟩⟩
    obtain ⟨rfl, e4⟩ := m
    refine seq_by (fun σ1 H5 => σ1 = [some v, some (.ref p), some (.ref l), some (.ref S), none, none, none, none, none] ∧ Ex H4 H5) (fun N hN => ?_) (fun s1 H5 m => ?_)
    · simp [and_assoc, e4 _ _ hS]
      exact ⟨s, p, l, false, _, t, rfl, hs.up e4, hp.up (e2.trans (e3.trans e4)), hl.up (e3.trans e4), srt_lt (great_nd ok.nd), fun n hn => great_in (srt_mem.mp hn), fun a ha b hb ne => great_uni false t ok.nd a (srt_mem.mp ha) b (srt_mem.mp hb) ne, ok, fun H5 e5 => .inr ⟨rfl, hN _ _ ⟨rfl, e5⟩⟩⟩
    obtain ⟨rfl, e5⟩ := m
    have e05 := e1.trans (e2.trans (e3.trans (e4.trans e5)))
    have e35 := e4.trans e5
    refine seq_by (fun σ1 H6 => ∃ d : Addr, σ1 = [some v, some (.ref p), some (.ref l), some (.ref S), some (.ref d), none, none, none, none] ∧ Ex H5 H6 ∧ H6 d = some (.dK (colsT t)) ∧ H5 d = none) (fun N hN => ?_) (fun s1 H6 m => ?_)
    · simp [and_assoc]
      exact ⟨v, t, rfl, hv.up e05, ok, fun d H6 n6 e6 h6 => hN _ _ ⟨d, rfl, e6, h6, n6⟩⟩
    obtain ⟨d, rfl, e6, hd, nd⟩ := m
    refine seq_by (fun σ1 H7 => ∃ (q : Addr) (as : List Addr), σ1 = [some v, some (.ref p), some (.ref l), some (.ref S), some (.ref d), some (.ref q), none, none, none] ∧ Ex H6 H7 ∧ LsLL H7 q (covT t) as ∧ H6 q = none ∧ ∀ a ∈ as, H6 a = none ∧ a ≠ q) (fun N hN => ?_) (fun s1 H7 m => ?_)
    · simp [and_assoc]
      exact ⟨v, t, rfl, hv.up (e05.trans e6), ok, fun q as H7 n7 e7 na h7 => hN _ _ ⟨q, as, rfl, e7, h7, n7, na⟩⟩
    obtain ⟨q, as, rfl, e7, hq, nq, na⟩ := m
    have e37 := e35.trans (e6.trans e7)
    have e07 := e05.trans (e6.trans e7)
    refine seq_by (fun σ1 H8 => σ1 = [some v, some (.ref p), some (.ref l), some (.ref S), some (.ref d), some (.ref q), none, none, none] ∧ Ex H7 H8) (fun N hN => ?_) (fun s1 H8 m => ?_)
    · simp [and_assoc]
      refine ⟨d, p, l, t, rfl, e7 _ _ hd, hp.up (e2.trans (e3.trans e37)), hl.up (e3.trans e37), ok, fun H8 e8 => ⟨_, (e37.trans e8) _ _ hS, _, rfl, ?_⟩⟩
      show jLen [.ref c] H8 _
      rw [j_len]
      refine ⟨_, (e37.trans e8) _ _ hc, ?_⟩
      have l1 : ((srt (greatT true t)).map V.int).length = gN true t := by rw [List.length_map, srt_len, great_len]
      have l2 : (fewT false t).length = gN true t := by rw [few_len]; rfl
      rw [l1, l2]
      simp
      exact hN _ _ ⟨rfl, e8⟩
    obtain ⟨rfl, e8⟩ := m
    have e38 := e37.trans e8
    refine seq_by (fun σ1 H9 => σ1 = [some v, some (.ref p), some (.ref l), some (.ref S), some (.ref d), some (.ref q), none, none, none] ∧ Ex H8 H9) (fun N hN => ?_) (fun s1 H9 m => ?_)
    · simp [and_assoc]
      refine ⟨q, p, l, as, t, rfl, hq.up e8, hp.up (e2.trans (e3.trans e38)), hl.up (e3.trans e38), ok, fun H9 e9 => .inr ⟨rfl, _, (e8.trans e9) _ _ hq.at', _, (e38.trans e9) _ _ hS, _, rfl, ?_⟩⟩
      show jLen [.ref s] H9 _
      rw [j_len]
      refine ⟨_, (e38.trans e9) _ _ hs, ?_⟩
      have l1 : ((srt (greatT false t)).map V.int).length = gN false t := by rw [List.length_map, srt_len, great_len]
      have l2 : (as.map V.ref).length = gN false t := by rw [List.length_map, hq.len, covT_len]
      rw [l1, l2]
      simp
      exact hN _ _ ⟨rfl, e9⟩
    obtain ⟨rfl, e9⟩ := m
    have e79 := e8.trans e9
    have e39 := e37.trans e79
    have e69 := e7.trans e79
    refine seq_by (fun σ1 H10 => σ1 = [some v, some (.ref p), some (.ref l), some (.ref S), some (.ref d), some (.ref q), some (.str (PyData.list (dsT t)).shown), none, none] ∧ Ex H9 H10) (fun N hN => ?_) (fun s1 H10 m => ?_)
    · simp [and_assoc]
      intro X0 H10 n10 e10 h10
      have e310 := e39.trans e10
      exact RA.repr (N := fun _ => True) ⟨S, c, s, d, q, as, ⟨trivial, trivial, trivial, trivial, trivial, trivial, fun _ _ => trivial⟩, h10, e310 _ _ hS, e310 _ _ hc, e310 _ _ hs, e10 _ _ (e69 _ _ hd), hq.up (e79.trans e10)⟩ ok (hN _ _ ⟨rfl, e10⟩)
    obtain ⟨rfl, e10⟩ := m
    refine seq_by (fun σ1 H11 => ∃ A0 : Addr, σ1 = [some v, some (.ref p), some (.ref l), some (.ref S), some (.ref d), some (.ref q), some (.str (PyData.list (dsT t)).shown), some (.ref A0), none] ∧ Ex H10 H11 ∧ RA (fun x => H10 x = none) H11 A0 t) (fun N hN => ?_) (fun s1 H11 m => ?_)
    · simp [and_assoc]
      exact read_again (hv.up (e07.trans (e79.trans e10))) ok fun A0 H11 e11 ra => hN _ _ ⟨A0, rfl, e11, ra⟩
    obtain ⟨A0, rfl, e11, ra⟩ := m
    have e311 := e39.trans (e10.trans e11)
    have e611 := e69.trans (e10.trans e11)
    have e711 := e79.trans (e10.trans e11)
    have hc11 := e311 _ _ hc
    have hs11 := e311 _ _ hs
    have hS11 := e311 _ _ hS
    have hd11 := e611 _ _ hd
    have hq11 := hq.up e711
    have cl : 0 < as.length := by
      rw [hq.len]
      cases z : covT t with
      | nil =>
        have := (covT_perm t).length_eq
        have := pts_pos ok.form
        rw [z] at *
        simp at *
        omega
      | cons a b => simp
    obtain ⟨a0, as', rfl⟩ : ∃ a0 as', as = a0 :: as' := by
      cases as with
      | nil => simp at cl
      | cons a b => exact ⟨a, b, rfl⟩
    obtain ⟨na1, na2⟩ := na a0 (by simp)
    obtain ⟨b0, lb, hcov⟩ : ∃ b0 lb, covT t = b0 :: lb := by
      have := hq.len
      cases z : covT t with
      | nil => rw [z] at this; simp at this
      | cons a b => exact ⟨a, b, rfl⟩
    have ha11 : LsI H11 a0 b0 := hq11.all 0 a0 b0 rfl (by rw [hcov]; rfl)
    have e011 : Ex H H11 := e07.trans e711
    have hc10 := (e39.trans e10) _ _ hc
    have hs10 := (e39.trans e10) _ _ hs
    have hd10 := (e69.trans e10) _ _ hd
    have hq10 := (e79.trans e10) _ _ hq.at'
    have ha10 : LsI H10 a0 b0 := (hq.up (e79.trans e10)).all 0 a0 b0 rfl (by rw [hcov]; rfl)
    have qc : q ≠ c := (ne_of_none ((e35.trans e6) _ _ hc) nq).symm
    have qs : q ≠ s := (ne_of_none ((e35.trans e6) _ _ hs) nq).symm
    have qS : q ≠ S := (ne_of_none ((e35.trans e6) _ _ hS) nq).symm
    have qd : q ≠ d := (ne_of_none hd nq).symm
    have dc : d ≠ c := ne_of hd11 hc11 (by intro z; cases z)
    have ds : d ≠ s := ne_of hd11 hs11 (by intro z; cases z)
    have dS : d ≠ S := ne_of hd11 hS11 (by intro z; cases z)
    have a0c : a0 ≠ c := (ne_of_none ((e35.trans e6) _ _ hc) na1).symm
    have a0s : a0 ≠ s := (ne_of_none ((e35.trans e6) _ _ hs) na1).symm
    have a0d : a0 ≠ d := (ne_of_none hd na1).symm
    have old : ∀ {x y : Addr} {o : HO}, H10 y = some o → H10 x = none → x ≠ y := fun h n => (ne_of_none h n).symm
    have nd0 : H d = none := none_back e05 nd
    have nq0 : H q = none := none_back (e05.trans e6) nq
    have na0 : H a0 = none := none_back (e05.trans e6) na1
    -- the first crowd told gets a point more
    refine seq_by (fun σ1 G => σ1 = [some v, some (.ref p), some (.ref l), some (.ref S), some (.ref d), some (.ref q), some (.str (PyData.list (dsT t)).shown), some (.ref A0), none] ∧ Ex H G ∧ RA (fun x => H10 x = none) G A0 t ∧ G S = some (.lst [.ref c, .ref s]) ∧ LsI G s (srt (greatT false t)) ∧ G d = some (.dK (colsT t)) ∧ G q = some (.lst ((a0 :: as').map V.ref)) ∧ LsI G a0 b0) (fun N hN => ?_) (fun s1 G1 m => ?_)
    · simp [hS11]
      refine ⟨⟨_, hc11⟩, _, hc11, lt_line (by rw [List.length_map, srt_len]; omega), hN _ _ ⟨rfl, Ex.mut e011 nc, ra.keep fun x o n h => by rw [upd_ne (old hc10 n)]; exact h, by rw [upd_ne Sc]; exact hS11, by unfold LsI; rw [upd_ne sc]; exact hs11, by rw [upd_ne dc]; exact hd11, by rw [upd_ne qc]; exact hq11.at', by unfold LsI; rw [upd_ne a0c]; exact ha11⟩⟩
    obtain ⟨rfl, x1, r1, S1, s1', d1, q1, a1⟩ := m
    refine seq_by (fun σ1 G => σ1 = [some v, some (.ref p), some (.ref l), some (.ref S), some (.ref d), some (.ref q), some (.str (PyData.list (dsT t)).shown), some (.ref A0), none] ∧ Ex H G ∧ RA (fun x => H10 x = none) G A0 t ∧ G d = some (.dK (colsT t)) ∧ G q = some (.lst ((a0 :: as').map V.ref)) ∧ LsI G a0 b0) (fun N hN => ?_) (fun s1 G2 m => ?_)
    · simp [S1]
      exact ⟨⟨_, s1'⟩, hN _ _ ⟨rfl, Ex.mut x1 ns, r1.keep fun x o n h => by rw [upd_ne (old hs10 n)]; exact h, by rw [upd_ne ds]; exact d1, by rw [upd_ne qs]; exact q1, by unfold LsI; rw [upd_ne a0s]; exact a1⟩⟩
    obtain ⟨rfl, x2, r2, d2, q2, a2⟩ := m
    refine seq_by (fun σ1 G => σ1 = [some v, some (.ref p), some (.ref l), some (.ref S), some (.ref d), some (.ref q), some (.str (PyData.list (dsT t)).shown), some (.ref A0), none] ∧ Ex H G ∧ RA (fun x => H10 x = none) G A0 t ∧ G q = some (.lst ((a0 :: as').map V.ref)) ∧ LsI G a0 b0) (fun N hN => ?_) (fun s1 G3 m => ?_)
    · simp
      exact ⟨⟨_, d2⟩, hN _ _ ⟨rfl, Ex.mut x2 nd0, r2.keep fun x o n h => by rw [upd_ne (old hd10 n)]; exact h, by rw [upd_ne qd]; exact q2, by unfold LsI; rw [upd_ne a0d]; exact a2⟩⟩
    obtain ⟨rfl, x3, r3, q3, a3⟩ := m
    refine seq_by (fun σ1 G => σ1 = [some v, some (.ref p), some (.ref l), some (.ref S), some (.ref d), some (.ref q), some (.str (PyData.list (dsT t)).shown), some (.ref A0), none] ∧ Ex H G ∧ RA (fun x => H10 x = none) G A0 t ∧ G q = some (.lst ((a0 :: as').map V.ref))) (fun N hN => ?_) (fun s1 G4 m => ?_)
    · simp [q3]
      have b0l : b0.length ≤ 30 := incl_len ok (covT_one ok (l := b0) (by rw [hcov]; simp)).2.1 (covT_one ok (l := b0) (by rw [hcov]; simp)).2.2.1
      exact ⟨⟨_, a3⟩, _, a3, lt_line (by rw [List.length_map]; omega), hN _ _ ⟨rfl, Ex.mut x3 na0, r3.keep fun x o n h => by rw [upd_ne (old ha10 n)]; exact h, by rw [upd_ne na2.symm]; exact q3⟩⟩
    obtain ⟨rfl, x4, r4, q4⟩ := m
    refine seq_by (fun σ1 G => σ1 = [some v, some (.ref p), some (.ref l), some (.ref S), some (.ref d), some (.ref q), some (.str (PyData.list (dsT t)).shown), some (.ref A0), none] ∧ Ex H G ∧ RA (fun x => H10 x = none) G A0 t) (fun N hN => ?_) (fun s1 G5 m => ?_)
    · simp
      have asl := hq.len
      have cl2 := covT_len t
      have gl2 := gN_le false t
      exact ⟨⟨_, q4⟩, fun p1 G5 n5 e5 h5 => ⟨_, e5 _ _ q4, lt_line (by rw [List.length_map]; omega), hN _ _ ⟨rfl, Ex.mut (x4.trans e5) nq0, (r4.keep fun x o n h => by rw [upd_ne (old hq10 n)]; exact e5 _ _ h)⟩⟩⟩
    obtain ⟨rfl, x5, r5⟩ := m
    refine seq_by (fun σ1 G => ∃ B0 : Addr, σ1 = [some v, some (.ref p), some (.ref l), some (.ref S), some (.ref d), some (.ref q), some (.str (PyData.list (dsT t)).shown), some (.ref A0), some (.ref B0)] ∧ Ex H G ∧ RA (fun x => H10 x = none) G A0 t ∧ RA (fun x => G5 x = none) G B0 t) (fun N hN => ?_) (fun s1 G6 m => ?_)
    · simp [and_assoc]
      exact read_again (hv.up x5) ok fun B0 G6 e6 rb => hN _ _ ⟨B0, rfl, x5.trans e6, r5.keep fun x o _ h => e6 _ _ h, rb⟩
    obtain ⟨B0, rfl, x6, r6, rb⟩ := m
    simp
    refine r6.repr ok ?_
    simp
    refine rb.repr ok ?_
    simp
    exact k G6 x6
end
end Jk

namespace Jk
open PySem L2 Evl
def spLaw (K : PySem.W.Frag) : Sp := fun vs H Q _ => ∃ (a : Addr) (ns : List Int), vs = [.ref a] ∧ SqL K H a (ns.map V.int) ∧ ns.length ≤ 63 ∧ ∀ H', Q (.bl true) H'
section
variable {P : Program} {w : World} {K : PySem.W.Frag} {mg : Str → Option Value} {base : Heap} {A : Adr}
theorem ok_law (T : Txt K mg A) : FnG P w K mg base 68 A.a_law A.d_law ["_law_script"] (spLaw K) := by
  refine T.F_law.okG sc_law (fun vs H Q E h => ?_) (fun cdv C outer s H vs Q E hg hr h => ?_)
  · obtain ⟨a, ns, rfl, _⟩ := h
    rfl
  · obtain ⟨s0, sc, rfl, hS, hl, k⟩ := h
    refine ⟨_, (pss_cons (ps_set (i := 1) sc_law.nd rfl (Or.inl rfl) (pe_call (ok_l_tree T) (hr.mono (by omega)) rfl T.g_l_tree T.k_l_tree T.b_l_tree .nil pass0 (pa_cons (pv 0) (pa_cons pe_int (pa_cons (pe_call (ok_l_order T) (hr.mono (by omega)) rfl T.g_l_order T.k_l_order T.b_l_order .nil pass0 (pa_cons pe_int (pa_cons (pe_call (ok_l_number T) (hr.mono (by omega)) rfl T.g_l_number T.k_l_number T.b_l_number .nil pass0 (pa_cons (pv 0) (pa_cons pe_int pa_nil))) pa_nil))) pa_nil)))))
  (pss_cons (ps_set (i := 2) sc_law.nd rfl (Or.inl rfl) (pe_call (ok_l_order T) (hr.mono (by omega)) rfl T.g_l_order T.k_l_order T.b_l_order .nil pass0 (pa_cons pe_int (pa_cons (pe_call (ok_l_number T) (hr.mono (by omega)) rfl T.g_l_number T.k_l_number T.b_l_number .nil pass0 (pa_cons (pv 0) (pa_cons pe_int pa_nil))) pa_nil))))
  (pss_cons (ps_set (i := 3) sc_law.nd rfl (Or.inl rfl) (pe_call (ok_l_tree T) (hr.mono (by omega)) rfl T.g_l_tree T.k_l_tree T.b_l_tree .nil pass0 (pa_cons (pe_sliceRev (K0 := K) (pv 0) (po_some (pe_un un_neg pe_int))) (pa_cons (pe_ix ix_listJ (pe_lstJ (pa_cons pe_int (pa_cons pe_int pa_nil))) (pe_op op_mod (pe_call (ok_l_number T) (hr.mono (by omega)) rfl T.g_l_number T.k_l_number T.b_l_number .nil pass0 (pa_cons (pv 0) (pa_cons pe_int pa_nil))) pe_int) (fun _ _ => rfl)) (pa_cons (pv 2) pa_nil)))))
  (pss_cons (ps_for PassesOwn.never rfl (pi_tup (pe_tupJ (pa_cons (pv 1) (pa_cons (pv 3) (pa_cons (pv 1) pa_nil))))) (pg_name (i := 4) sc_law.nd rfl (.inl rfl))
    (pss_one (ps_if (pt_not (pt_val (pe_callG (ok_l_right T) hg (hr.mono (by omega)) rfl T.g_l_right T.k_l_right T.b_l_right (pa_cons (pv 4) pa_nil))))
        (pss_one (ps_ret pe_bl))
        pss_nil)))
  (pss_one (ps_ret (pe_or (pe_not (pe_callB call_isJ (by rfl) T.isinstance (by decide +kernel) (pa_cons (pv 1) (pa_cons (pe_bltn (v := .ty "tuple") (u := .type "tuple") (by rfl) T.tuple (by decide +kernel) rfl) pa_nil)))) (pe_one (pe_callB (cr_all rfl) (by rfl) T.all (by decide +kernel) (pa_cons (pe_lc (own := [("_law_piece", 5)]) rfl sc_law.nd (pi_tup (pe_slice sl_tupJ (pe_ix ix_tupJ (pv 1) pe_int (fun _ _ => rfl)) po_none (po_some pe_int))) (blkOk_by (own := [("_law_piece", 5)]) (N := ["_law_script", "_law_first", "_law_names", "_law_second", "_law_told_here", "_law_piece"]) (sc := defScope s_law) (by decide +kernel)) (fun _ _ _ _ _ => by exact (pg_name (i := 5) sc_law.nd rfl (Or.inl rfl))) (fun _ _ _ _ _ => by exact pts_nil) (fun _ _ _ _ _ => by exact (pe_callG (ok_l_right T) hg (hr.mono (by omega)) rfl T.g_l_right T.k_l_right T.b_l_right (pa_cons (pv 5) pa_nil)))) pa_nil)))))))))), ?_⟩
    refine seq_by (fun σ1 H1 => ∃ (u : V) (a : Tr), σ1 = [some (.ref s0), some u, none, none, none, none] ∧ Ex H H1 ∧ ToldAt H1 u a ∧ OkT a) (fun N hN => ?_) (fun s1 H1 m => ?_)
    · simp [L2.start, and_assoc]
      refine ⟨s0, sc, 64, rfl, hS, by omega, 30, _, rfl, by omega, fun names q H1 hp n1 e1 h1 => ?_⟩
      have nlen : names.length = 30 := by rw [hp.length_eq, rng_len]
      exact ⟨s0, q, sc, names, 30, rfl, sql_up hS e1, h1, hp.nodup_iff.mpr (rng_nd 30), ⟨by omega, by omega⟩, by rw [nlen]; omega, fun u a H2 e2 hu f nd pm => hN _ _ ⟨u, a, rfl, e1.trans e2, hu, okT_of hp (by omega) f nd pm⟩⟩
    obtain ⟨u, a, rfl, e1, hu, oa⟩ := m
    refine seq_by (fun σ1 H2 => ∃ (ml : Addr) (names : List Int), σ1 = [some (.ref s0), some u, some (.ref ml), none, none, none] ∧ Ex H1 H2 ∧ LsI H2 ml names ∧ names.Perm (rngI 30)) (fun N hN => ?_) (fun s1 H2 m => ?_)
    · simp [and_assoc]
      exact ⟨s0, sc, 66, rfl, sql_up hS e1, by omega, 30, _, rfl, by omega, fun names q H2 hp n2 e2 h2 => hN _ _ ⟨q, names, rfl, e2, h2, hp⟩⟩
    obtain ⟨ml, names, rfl, e2, hM, hp⟩ := m
    have nlen : names.length = 30 := by rw [hp.length_eq, rng_len]
    have nnd : names.Nodup := hp.nodup_iff.mpr (rng_nd 30)
    refine seq_by (fun σ1 H3 => ∃ (w' : V) (b : Tr), σ1 = [some (.ref s0), some u, some (.ref ml), some w', none, none] ∧ Ex H2 H3 ∧ ToldAt H3 w' b ∧ OkT b) (fun N hN => ?_) (fun s1 H3 m => ?_)
    · simp [and_assoc]
      refine ⟨_, sql_up hS (e1.trans e2), fun p H3 n3 e3 h3 q H4 n4 e4 h4 => ⟨s0, sc, 65, rfl, sql_up hS (e1.trans (e2.trans (e3.trans e4))), by omega, ?_⟩⟩
      generalize num sc 65 = c
      rw [← List.map_reverse] at h3
      have hm : ∃ most : Int, [V.int 9, V.int 4][(c % 2).toNat]? = some (.int most) ∧ 1 ≤ most ∧ most ≤ 30 := by
        have : c % 2 = 0 ∨ c % 2 = 1 := by omega
        rcases this with z | z <;> rw [z]
        · exact ⟨9, rfl, by omega, by omega⟩
        · exact ⟨4, rfl, by omega, by omega⟩
      obtain ⟨most, hm, m1, m2⟩ := hm
      rw [j_rI]
      refine ⟨by decide, ?_⟩
      rw [j_ixL]
      exact ⟨_, _, h4, by omega, hm, p, ml, sc.reverse, names, most, rfl, .inl (.inl (e4 _ _ h3)), hM.up (e3.trans e4), nnd, ⟨m1, m2⟩, by rw [nlen]; omega, fun u a H5 e5 hu f nd pm => hN _ _ ⟨u, a, rfl, e3.trans (e4.trans e5), hu, okT_of hp (by omega) f nd pm⟩⟩
    obtain ⟨w', b, rfl, e3, hw, ob⟩ := m
    have hu3 : ToldAt H3 u a := hu.up (e2.trans e3)
    refine seq_by (fun σ1 H4 => ∃ b4 : Option V, σ1 = [some (.ref s0), some u, some (.ref ml), some w', b4, none] ∧ Ex H3 H4) (fun N hN => ?_) (fun s1 H4 m => ?_)
    · refine ⟨_, rfl, _, rfl, _, rfl, by simp, fun p H4 n4 e4 h4 => ⟨p, rfl, ⟨_, .inl (.inl h4)⟩, for_tup (xs := [u, w', u]) (fun i σ H' => ∃ (b4 : Option V), σ = [some (.ref s0), some u, some (.ref ml), some w', b4, none] ∧ Ex H4 H') ⟨none, rfl, Ex.refl _⟩ (fun i σ H' _ h => ?_) (fun i x σ H' hx h => ?_) (fun σ H' h => ?_)⟩⟩
      · obtain ⟨b4, rfl, e⟩ := h
        exact .inl (.inl (e _ _ h4))
      · obtain ⟨b4, rfl, e⟩ := h
        have pick : ∃ t, ToldAt H3 x t ∧ OkT t := by
          match i, hx with
          | 0, hx => cases hx; exact ⟨a, hu3, oa⟩
          | 1, hx => cases hx; exact ⟨b, hw, ob⟩
          | 2, hx => cases hx; exact ⟨a, hu3, oa⟩
          | i + 3, hx => simp at hx
        obtain ⟨t, ht, okt⟩ := pick
        simp
        exact ⟨x, t, rfl, ht.up (e4.trans e), okt, fun H5 e5 => .inr ⟨rfl, e.trans e5⟩⟩
      · obtain ⟨b4, rfl, e⟩ := h
        exact hN _ _ ⟨b4, rfl, e4.trans e⟩
    obtain ⟨b4, rfl, e4⟩ := m
    have hu4 := hu3.up e4
    rcases told_kind hu4 with ⟨n, rfl, rfl⟩ | ⟨j, ts, a', b', vs, rfl, rfl, g1, g2, g3⟩
    · simp
      exact k _
    · simp [tyN_tup g1]
      refine ⟨_, rfl, a', _, 1, _, rfl, rfl, g1, by decide, rfl, 3, rfl, b', vs, rfl, g2, (fun i z => nomatch z), (fun i z => by cases z; decide), fun p H5 e5 h5 => ⟨p, rfl, ⟨_, .inl (.inl h5)⟩, fun D hD => ?_⟩⟩
      have h5' : H5 p = some (.tup (vs.take 3)) := by rw [h5]; simp [hiT, loN]
      refine lc_tupS (xs := vs.take 3) (fun i y H => y = (fun _ => V.bl true) i) stay_val hD (.inl (.inl h5')) (by rw [List.length_take]; omega) (fun i x H6 Nn hx e hH hN2 => ?_) (fun acc H6 e h6 hlen hall => ?_)
      · have i3 : i < 3 := by have := (List.getElem?_eq_some_iff.mp hx).1; rw [List.length_take] at this; omega
        rw [List.getElem?_take_of_lt i3] at hx
        obtain ⟨u2, hu2, hat⟩ := g3.get hx
        simp [wipe]
        exact ⟨x, u2, rfl, hat.up (e5.trans e), oa.part (List.mem_of_getElem? hu2), fun H7 e7 => hN2 _ H7 e7 rfl⟩
      · rw [all_bl hall] at h6
        refine ⟨D, _, rfl, .inl (.inl h6), ?_⟩
        have z : (List.replicate acc.length true).all id = true := by simp
        rw [z]
        exact k _
end
end Jk

namespace Jk
open PySem L2 Evl
theorem all_mk {l : PySem.W.OpenLaw} {w : World} {K : PySem.W.Frag} {h : Heap} {mg : Str → Option Value} {fa c_Join c_Point c_Side a_whole_within a_Point_init a_Point_told a_Point_points a_Point_tied a_Point_turned a_Side_init a_Side_told a_Side_points a_Side_tied a_Side_turned a_Join_init a_Join_told a_Join_points a_Join_tied a_Join_turned a_points_of a_told_of a_tied_among a_tree_by a_tree_under a_opened a_crowd a_still a_colours a_covers a_greatest_by a_fewest_by a_merged a_l_mixed a_l_number a_l_order a_l_least a_l_told a_l_tree a_l_points a_l_ties a_l_is_crowd a_l_shaded a_l_covered a_l_right a_law : Addr} (X : K.In h) (G : h.Ns mainGlobals mg) (hfa : mg "law" = some (.ref fa))
    {oc_whole_within kV_whole_within dc_whole_within pm_whole_within cd_whole_within ct_whole_within oc_Point_init kV_Point_init dc_Point_init pm_Point_init cd_Point_init ct_Point_init oc_Point_told kV_Point_told dc_Point_told pm_Point_told cd_Point_told ct_Point_told oc_Point_points kV_Point_points dc_Point_points pm_Point_points cd_Point_points ct_Point_points oc_Point_tied kV_Point_tied dc_Point_tied pm_Point_tied cd_Point_tied ct_Point_tied oc_Point_turned kV_Point_turned dc_Point_turned pm_Point_turned cd_Point_turned ct_Point_turned oc_Side_init kV_Side_init dc_Side_init pm_Side_init cd_Side_init ct_Side_init oc_Side_told kV_Side_told dc_Side_told pm_Side_told cd_Side_told ct_Side_told oc_Side_points kV_Side_points dc_Side_points pm_Side_points cd_Side_points ct_Side_points oc_Side_tied kV_Side_tied dc_Side_tied pm_Side_tied cd_Side_tied ct_Side_tied oc_Side_turned kV_Side_turned dc_Side_turned pm_Side_turned cd_Side_turned ct_Side_turned oc_Join_init kV_Join_init dc_Join_init pm_Join_init cd_Join_init ct_Join_init oc_Join_told kV_Join_told dc_Join_told pm_Join_told cd_Join_told ct_Join_told oc_Join_points kV_Join_points dc_Join_points pm_Join_points cd_Join_points ct_Join_points oc_Join_tied kV_Join_tied dc_Join_tied pm_Join_tied cd_Join_tied ct_Join_tied oc_Join_turned kV_Join_turned dc_Join_turned pm_Join_turned cd_Join_turned ct_Join_turned oc_points_of kV_points_of dc_points_of pm_points_of cd_points_of ct_points_of oc_told_of kV_told_of dc_told_of pm_told_of cd_told_of ct_told_of oc_tied_among kV_tied_among dc_tied_among pm_tied_among cd_tied_among ct_tied_among oc_tree_by kV_tree_by dc_tree_by pm_tree_by cd_tree_by ct_tree_by oc_tree_under kV_tree_under dc_tree_under pm_tree_under cd_tree_under ct_tree_under oc_opened kV_opened dc_opened pm_opened cd_opened ct_opened oc_crowd kV_crowd dc_crowd pm_crowd cd_crowd ct_crowd oc_still kV_still dc_still pm_still cd_still ct_still oc_colours kV_colours dc_colours pm_colours cd_colours ct_colours oc_covers kV_covers dc_covers pm_covers cd_covers ct_covers oc_greatest_by kV_greatest_by dc_greatest_by pm_greatest_by cd_greatest_by ct_greatest_by oc_fewest_by kV_fewest_by dc_fewest_by pm_fewest_by cd_fewest_by ct_fewest_by oc_merged kV_merged dc_merged pm_merged cd_merged ct_merged oc_l_mixed kV_l_mixed dc_l_mixed pm_l_mixed cd_l_mixed ct_l_mixed oc_l_number kV_l_number dc_l_number pm_l_number cd_l_number ct_l_number oc_l_order kV_l_order dc_l_order pm_l_order cd_l_order ct_l_order oc_l_least kV_l_least dc_l_least pm_l_least cd_l_least ct_l_least oc_l_told kV_l_told dc_l_told pm_l_told cd_l_told ct_l_told oc_l_tree kV_l_tree dc_l_tree pm_l_tree cd_l_tree ct_l_tree oc_l_points kV_l_points dc_l_points pm_l_points cd_l_points ct_l_points oc_l_ties kV_l_ties dc_l_ties pm_l_ties cd_l_ties ct_l_ties oc_l_is_crowd kV_l_is_crowd dc_l_is_crowd pm_l_is_crowd cd_l_is_crowd ct_l_is_crowd oc_l_shaded kV_l_shaded dc_l_shaded pm_l_shaded cd_l_shaded ct_l_shaded oc_l_covered kV_l_covered dc_l_covered pm_l_covered cd_l_covered ct_l_covered oc_l_right kV_l_right dc_l_right pm_l_right cd_l_right ct_l_right oc_law kV_law dc_law pm_law cd_law ct_law : Value} {od_whole_within od_Point_init od_Point_told od_Point_points od_Point_tied od_Point_turned od_Side_init od_Side_told od_Side_points od_Side_tied od_Side_turned od_Join_init od_Join_told od_Join_points od_Join_tied od_Join_turned od_points_of od_told_of od_tied_among od_tree_by od_tree_under od_opened od_crowd od_still od_colours od_covers od_greatest_by od_fewest_by od_merged od_l_mixed od_l_number od_l_order od_l_least od_l_told od_l_tree od_l_points od_l_ties od_l_is_crowd od_l_shaded od_l_covered od_l_right od_law an_whole_within an_Point_init an_Point_told an_Point_points an_Point_tied an_Point_turned an_Side_init an_Side_told an_Side_points an_Side_tied an_Side_turned an_Join_init an_Join_told an_Join_points an_Join_tied an_Join_turned an_points_of an_told_of an_tied_among an_tree_by an_tree_under an_opened an_crowd an_still an_colours an_covers an_greatest_by an_fewest_by an_merged an_l_mixed an_l_number an_l_order an_l_least an_l_told an_l_tree an_l_points an_l_ties an_l_is_crowd an_l_shaded an_l_covered an_l_right an_law : Option Addr} {sl_whole_within sl_Point_init sl_Point_told sl_Point_points sl_Point_tied sl_Point_turned sl_Side_init sl_Side_told sl_Side_points sl_Side_tied sl_Side_turned sl_Join_init sl_Join_told sl_Join_points sl_Join_tied sl_Join_turned sl_points_of sl_told_of sl_tied_among sl_tree_by sl_tree_under sl_opened sl_crowd sl_still sl_colours sl_covers sl_greatest_by sl_fewest_by sl_merged sl_l_mixed sl_l_number sl_l_order sl_l_least sl_l_told sl_l_tree sl_l_points sl_l_ties sl_l_is_crowd sl_l_shaded sl_l_covered sl_l_right sl_law : Array (Option Value)} {tk_MOST_POINTS tk_SIDE tk_JOIN : Tok}
    (h_c_Join : PySem.W.nsIn K mainGlobals "Join" = some (some (.ref c_Join)))
    (h_c_Point : PySem.W.nsIn K mainGlobals "Point" = some (some (.ref c_Point)))
    (h_c_Side : PySem.W.nsIn K mainGlobals "Side" = some (some (.ref c_Side)))
    (f_whole_within : PySem.W.nsIn K mainGlobals "whole_within" = some (some (.ref a_whole_within)))
    (l_whole_within : K.lookup a_whole_within = some ⟨oc_whole_within, od_whole_within, .func (PySem.W.fnOf "whole_within" "whole_within" (defArgs s_whole_within) (defBody s_whole_within) (defScope s_whole_within) .none kV_whole_within dc_whole_within pm_whole_within an_whole_within cd_whole_within ct_whole_within), sl_whole_within⟩)
    (c_whole_within : PySem.W.codeIn K cd_whole_within "whole_within" = true)
    (k_whole_within : PySem.W.keepIn K (.ref a_whole_within) = true)
    (f_Point_init : PySem.W.findIn K (.ref c_Point) "__init__" = some (some (.ref a_Point_init)))
    (i_Point_init : PySem.W.isFn K (.ref a_Point_init) = true)
    (l_Point_init : K.lookup a_Point_init = some ⟨oc_Point_init, od_Point_init, .func (PySem.W.fnOf "__init__" "Point.__init__" (defArgs s_Point_init) (defBody s_Point_init) (defScope s_Point_init) .none kV_Point_init dc_Point_init pm_Point_init an_Point_init cd_Point_init ct_Point_init), sl_Point_init⟩)
    (c_Point_init : PySem.W.codeIn K cd_Point_init "Point.__init__" = true)
    (k_Point_init : PySem.W.keepIn K (.ref a_Point_init) = true)
    (f_Point_told : PySem.W.findIn K (.ref c_Point) "told" = some (some (.ref a_Point_told)))
    (i_Point_told : PySem.W.isFn K (.ref a_Point_told) = true)
    (l_Point_told : K.lookup a_Point_told = some ⟨oc_Point_told, od_Point_told, .func (PySem.W.fnOf "told" "Point.told" (defArgs s_Point_told) (defBody s_Point_told) (defScope s_Point_told) .none kV_Point_told dc_Point_told pm_Point_told an_Point_told cd_Point_told ct_Point_told), sl_Point_told⟩)
    (c_Point_told : PySem.W.codeIn K cd_Point_told "Point.told" = true)
    (k_Point_told : PySem.W.keepIn K (.ref a_Point_told) = true)
    (f_Point_points : PySem.W.findIn K (.ref c_Point) "points" = some (some (.ref a_Point_points)))
    (i_Point_points : PySem.W.isFn K (.ref a_Point_points) = true)
    (l_Point_points : K.lookup a_Point_points = some ⟨oc_Point_points, od_Point_points, .func (PySem.W.fnOf "points" "Point.points" (defArgs s_Point_points) (defBody s_Point_points) (defScope s_Point_points) .none kV_Point_points dc_Point_points pm_Point_points an_Point_points cd_Point_points ct_Point_points), sl_Point_points⟩)
    (c_Point_points : PySem.W.codeIn K cd_Point_points "Point.points" = true)
    (k_Point_points : PySem.W.keepIn K (.ref a_Point_points) = true)
    (f_Point_tied : PySem.W.findIn K (.ref c_Point) "tied" = some (some (.ref a_Point_tied)))
    (i_Point_tied : PySem.W.isFn K (.ref a_Point_tied) = true)
    (l_Point_tied : K.lookup a_Point_tied = some ⟨oc_Point_tied, od_Point_tied, .func (PySem.W.fnOf "tied" "Point.tied" (defArgs s_Point_tied) (defBody s_Point_tied) (defScope s_Point_tied) .none kV_Point_tied dc_Point_tied pm_Point_tied an_Point_tied cd_Point_tied ct_Point_tied), sl_Point_tied⟩)
    (c_Point_tied : PySem.W.codeIn K cd_Point_tied "Point.tied" = true)
    (k_Point_tied : PySem.W.keepIn K (.ref a_Point_tied) = true)
    (f_Point_turned : PySem.W.findIn K (.ref c_Point) "turned" = some (some (.ref a_Point_turned)))
    (i_Point_turned : PySem.W.isFn K (.ref a_Point_turned) = true)
    (l_Point_turned : K.lookup a_Point_turned = some ⟨oc_Point_turned, od_Point_turned, .func (PySem.W.fnOf "turned" "Point.turned" (defArgs s_Point_turned) (defBody s_Point_turned) (defScope s_Point_turned) .none kV_Point_turned dc_Point_turned pm_Point_turned an_Point_turned cd_Point_turned ct_Point_turned), sl_Point_turned⟩)
    (c_Point_turned : PySem.W.codeIn K cd_Point_turned "Point.turned" = true)
    (k_Point_turned : PySem.W.keepIn K (.ref a_Point_turned) = true)
    (f_Side_init : PySem.W.findIn K (.ref c_Side) "__init__" = some (some (.ref a_Side_init)))
    (i_Side_init : PySem.W.isFn K (.ref a_Side_init) = true)
    (l_Side_init : K.lookup a_Side_init = some ⟨oc_Side_init, od_Side_init, .func (PySem.W.fnOf "__init__" "Side.__init__" (defArgs s_Side_init) (defBody s_Side_init) (defScope s_Side_init) .none kV_Side_init dc_Side_init pm_Side_init an_Side_init cd_Side_init ct_Side_init), sl_Side_init⟩)
    (c_Side_init : PySem.W.codeIn K cd_Side_init "Side.__init__" = true)
    (k_Side_init : PySem.W.keepIn K (.ref a_Side_init) = true)
    (f_Side_told : PySem.W.findIn K (.ref c_Side) "told" = some (some (.ref a_Side_told)))
    (i_Side_told : PySem.W.isFn K (.ref a_Side_told) = true)
    (l_Side_told : K.lookup a_Side_told = some ⟨oc_Side_told, od_Side_told, .func (PySem.W.fnOf "told" "Side.told" (defArgs s_Side_told) (defBody s_Side_told) (defScope s_Side_told) .none kV_Side_told dc_Side_told pm_Side_told an_Side_told cd_Side_told ct_Side_told), sl_Side_told⟩)
    (c_Side_told : PySem.W.codeIn K cd_Side_told "Side.told" = true)
    (k_Side_told : PySem.W.keepIn K (.ref a_Side_told) = true)
    (f_Side_points : PySem.W.findIn K (.ref c_Side) "points" = some (some (.ref a_Side_points)))
    (i_Side_points : PySem.W.isFn K (.ref a_Side_points) = true)
    (l_Side_points : K.lookup a_Side_points = some ⟨oc_Side_points, od_Side_points, .func (PySem.W.fnOf "points" "Side.points" (defArgs s_Side_points) (defBody s_Side_points) (defScope s_Side_points) .none kV_Side_points dc_Side_points pm_Side_points an_Side_points cd_Side_points ct_Side_points), sl_Side_points⟩)
    (c_Side_points : PySem.W.codeIn K cd_Side_points "Side.points" = true)
    (k_Side_points : PySem.W.keepIn K (.ref a_Side_points) = true)
    (f_Side_tied : PySem.W.findIn K (.ref c_Side) "tied" = some (some (.ref a_Side_tied)))
    (i_Side_tied : PySem.W.isFn K (.ref a_Side_tied) = true)
    (l_Side_tied : K.lookup a_Side_tied = some ⟨oc_Side_tied, od_Side_tied, .func (PySem.W.fnOf "tied" "Side.tied" (defArgs s_Side_tied) (defBody s_Side_tied) (defScope s_Side_tied) .none kV_Side_tied dc_Side_tied pm_Side_tied an_Side_tied cd_Side_tied ct_Side_tied), sl_Side_tied⟩)
    (c_Side_tied : PySem.W.codeIn K cd_Side_tied "Side.tied" = true)
    (k_Side_tied : PySem.W.keepIn K (.ref a_Side_tied) = true)
    (f_Side_turned : PySem.W.findIn K (.ref c_Side) "turned" = some (some (.ref a_Side_turned)))
    (i_Side_turned : PySem.W.isFn K (.ref a_Side_turned) = true)
    (l_Side_turned : K.lookup a_Side_turned = some ⟨oc_Side_turned, od_Side_turned, .func (PySem.W.fnOf "turned" "Side.turned" (defArgs s_Side_turned) (defBody s_Side_turned) (defScope s_Side_turned) .none kV_Side_turned dc_Side_turned pm_Side_turned an_Side_turned cd_Side_turned ct_Side_turned), sl_Side_turned⟩)
    (c_Side_turned : PySem.W.codeIn K cd_Side_turned "Side.turned" = true)
    (k_Side_turned : PySem.W.keepIn K (.ref a_Side_turned) = true)
    (f_Join_init : PySem.W.findIn K (.ref c_Join) "__init__" = some (some (.ref a_Join_init)))
    (i_Join_init : PySem.W.isFn K (.ref a_Join_init) = true)
    (l_Join_init : K.lookup a_Join_init = some ⟨oc_Join_init, od_Join_init, .func (PySem.W.fnOf "__init__" "Join.__init__" (defArgs s_Join_init) (defBody s_Join_init) (defScope s_Join_init) .none kV_Join_init dc_Join_init pm_Join_init an_Join_init cd_Join_init ct_Join_init), sl_Join_init⟩)
    (c_Join_init : PySem.W.codeIn K cd_Join_init "Join.__init__" = true)
    (k_Join_init : PySem.W.keepIn K (.ref a_Join_init) = true)
    (f_Join_told : PySem.W.findIn K (.ref c_Join) "told" = some (some (.ref a_Join_told)))
    (i_Join_told : PySem.W.isFn K (.ref a_Join_told) = true)
    (l_Join_told : K.lookup a_Join_told = some ⟨oc_Join_told, od_Join_told, .func (PySem.W.fnOf "told" "Join.told" (defArgs s_Join_told) (defBody s_Join_told) (defScope s_Join_told) .none kV_Join_told dc_Join_told pm_Join_told an_Join_told cd_Join_told ct_Join_told), sl_Join_told⟩)
    (c_Join_told : PySem.W.codeIn K cd_Join_told "Join.told" = true)
    (k_Join_told : PySem.W.keepIn K (.ref a_Join_told) = true)
    (f_Join_points : PySem.W.findIn K (.ref c_Join) "points" = some (some (.ref a_Join_points)))
    (i_Join_points : PySem.W.isFn K (.ref a_Join_points) = true)
    (l_Join_points : K.lookup a_Join_points = some ⟨oc_Join_points, od_Join_points, .func (PySem.W.fnOf "points" "Join.points" (defArgs s_Join_points) (defBody s_Join_points) (defScope s_Join_points) .none kV_Join_points dc_Join_points pm_Join_points an_Join_points cd_Join_points ct_Join_points), sl_Join_points⟩)
    (c_Join_points : PySem.W.codeIn K cd_Join_points "Join.points" = true)
    (k_Join_points : PySem.W.keepIn K (.ref a_Join_points) = true)
    (f_Join_tied : PySem.W.findIn K (.ref c_Join) "tied" = some (some (.ref a_Join_tied)))
    (i_Join_tied : PySem.W.isFn K (.ref a_Join_tied) = true)
    (l_Join_tied : K.lookup a_Join_tied = some ⟨oc_Join_tied, od_Join_tied, .func (PySem.W.fnOf "tied" "Join.tied" (defArgs s_Join_tied) (defBody s_Join_tied) (defScope s_Join_tied) .none kV_Join_tied dc_Join_tied pm_Join_tied an_Join_tied cd_Join_tied ct_Join_tied), sl_Join_tied⟩)
    (c_Join_tied : PySem.W.codeIn K cd_Join_tied "Join.tied" = true)
    (k_Join_tied : PySem.W.keepIn K (.ref a_Join_tied) = true)
    (f_Join_turned : PySem.W.findIn K (.ref c_Join) "turned" = some (some (.ref a_Join_turned)))
    (i_Join_turned : PySem.W.isFn K (.ref a_Join_turned) = true)
    (l_Join_turned : K.lookup a_Join_turned = some ⟨oc_Join_turned, od_Join_turned, .func (PySem.W.fnOf "turned" "Join.turned" (defArgs s_Join_turned) (defBody s_Join_turned) (defScope s_Join_turned) .none kV_Join_turned dc_Join_turned pm_Join_turned an_Join_turned cd_Join_turned ct_Join_turned), sl_Join_turned⟩)
    (c_Join_turned : PySem.W.codeIn K cd_Join_turned "Join.turned" = true)
    (k_Join_turned : PySem.W.keepIn K (.ref a_Join_turned) = true)
    (f_points_of : PySem.W.nsIn K mainGlobals "_points_of" = some (some (.ref a_points_of)))
    (l_points_of : K.lookup a_points_of = some ⟨oc_points_of, od_points_of, .func (PySem.W.fnOf "_points_of" "_points_of" (defArgs s_points_of) (defBody s_points_of) (defScope s_points_of) .none kV_points_of dc_points_of pm_points_of an_points_of cd_points_of ct_points_of), sl_points_of⟩)
    (c_points_of : PySem.W.codeIn K cd_points_of "_points_of" = true)
    (k_points_of : PySem.W.keepIn K (.ref a_points_of) = true)
    (f_told_of : PySem.W.nsIn K mainGlobals "_told_of" = some (some (.ref a_told_of)))
    (l_told_of : K.lookup a_told_of = some ⟨oc_told_of, od_told_of, .func (PySem.W.fnOf "_told_of" "_told_of" (defArgs s_told_of) (defBody s_told_of) (defScope s_told_of) .none kV_told_of dc_told_of pm_told_of an_told_of cd_told_of ct_told_of), sl_told_of⟩)
    (c_told_of : PySem.W.codeIn K cd_told_of "_told_of" = true)
    (k_told_of : PySem.W.keepIn K (.ref a_told_of) = true)
    (f_tied_among : PySem.W.nsIn K mainGlobals "_tied_among" = some (some (.ref a_tied_among)))
    (l_tied_among : K.lookup a_tied_among = some ⟨oc_tied_among, od_tied_among, .func (PySem.W.fnOf "_tied_among" "_tied_among" (defArgs s_tied_among) (defBody s_tied_among) (defScope s_tied_among) .none kV_tied_among dc_tied_among pm_tied_among an_tied_among cd_tied_among ct_tied_among), sl_tied_among⟩)
    (c_tied_among : PySem.W.codeIn K cd_tied_among "_tied_among" = true)
    (k_tied_among : PySem.W.keepIn K (.ref a_tied_among) = true)
    (f_tree_by : PySem.W.nsIn K mainGlobals "tree_by" = some (some (.ref a_tree_by)))
    (l_tree_by : K.lookup a_tree_by = some ⟨oc_tree_by, od_tree_by, .func (PySem.W.fnOf "tree_by" "tree_by" (defArgs s_tree_by) (defBody s_tree_by) (defScope s_tree_by) .none kV_tree_by dc_tree_by pm_tree_by an_tree_by cd_tree_by ct_tree_by), sl_tree_by⟩)
    (c_tree_by : PySem.W.codeIn K cd_tree_by "tree_by" = true)
    (k_tree_by : PySem.W.keepIn K (.ref a_tree_by) = true)
    (f_tree_under : PySem.W.nsIn K mainGlobals "_tree_under" = some (some (.ref a_tree_under)))
    (l_tree_under : K.lookup a_tree_under = some ⟨oc_tree_under, od_tree_under, .func (PySem.W.fnOf "_tree_under" "_tree_under" (defArgs s_tree_under) (defBody s_tree_under) (defScope s_tree_under) .none kV_tree_under dc_tree_under pm_tree_under an_tree_under cd_tree_under ct_tree_under), sl_tree_under⟩)
    (c_tree_under : PySem.W.codeIn K cd_tree_under "_tree_under" = true)
    (k_tree_under : PySem.W.keepIn K (.ref a_tree_under) = true)
    (f_opened : PySem.W.nsIn K mainGlobals "_opened" = some (some (.ref a_opened)))
    (l_opened : K.lookup a_opened = some ⟨oc_opened, od_opened, .func (PySem.W.fnOf "_opened" "_opened" (defArgs s_opened) (defBody s_opened) (defScope s_opened) .none kV_opened dc_opened pm_opened an_opened cd_opened ct_opened), sl_opened⟩)
    (c_opened : PySem.W.codeIn K cd_opened "_opened" = true)
    (k_opened : PySem.W.keepIn K (.ref a_opened) = true)
    (f_crowd : PySem.W.nsIn K mainGlobals "crowd" = some (some (.ref a_crowd)))
    (l_crowd : K.lookup a_crowd = some ⟨oc_crowd, od_crowd, .func (PySem.W.fnOf "crowd" "crowd" (defArgs s_crowd) (defBody s_crowd) (defScope s_crowd) .none kV_crowd dc_crowd pm_crowd an_crowd cd_crowd ct_crowd), sl_crowd⟩)
    (c_crowd : PySem.W.codeIn K cd_crowd "crowd" = true)
    (k_crowd : PySem.W.keepIn K (.ref a_crowd) = true)
    (f_still : PySem.W.nsIn K mainGlobals "still" = some (some (.ref a_still)))
    (l_still : K.lookup a_still = some ⟨oc_still, od_still, .func (PySem.W.fnOf "still" "still" (defArgs s_still) (defBody s_still) (defScope s_still) .none kV_still dc_still pm_still an_still cd_still ct_still), sl_still⟩)
    (c_still : PySem.W.codeIn K cd_still "still" = true)
    (k_still : PySem.W.keepIn K (.ref a_still) = true)
    (f_colours : PySem.W.nsIn K mainGlobals "colours" = some (some (.ref a_colours)))
    (l_colours : K.lookup a_colours = some ⟨oc_colours, od_colours, .func (PySem.W.fnOf "colours" "colours" (defArgs s_colours) (defBody s_colours) (defScope s_colours) .none kV_colours dc_colours pm_colours an_colours cd_colours ct_colours), sl_colours⟩)
    (c_colours : PySem.W.codeIn K cd_colours "colours" = true)
    (k_colours : PySem.W.keepIn K (.ref a_colours) = true)
    (f_covers : PySem.W.nsIn K mainGlobals "covers" = some (some (.ref a_covers)))
    (l_covers : K.lookup a_covers = some ⟨oc_covers, od_covers, .func (PySem.W.fnOf "covers" "covers" (defArgs s_covers) (defBody s_covers) (defScope s_covers) .none kV_covers dc_covers pm_covers an_covers cd_covers ct_covers), sl_covers⟩)
    (c_covers : PySem.W.codeIn K cd_covers "covers" = true)
    (k_covers : PySem.W.keepIn K (.ref a_covers) = true)
    (f_greatest_by : PySem.W.nsIn K mainGlobals "_greatest_by" = some (some (.ref a_greatest_by)))
    (l_greatest_by : K.lookup a_greatest_by = some ⟨oc_greatest_by, od_greatest_by, .func (PySem.W.fnOf "_greatest_by" "_greatest_by" (defArgs s_greatest_by) (defBody s_greatest_by) (defScope s_greatest_by) .none kV_greatest_by dc_greatest_by pm_greatest_by an_greatest_by cd_greatest_by ct_greatest_by), sl_greatest_by⟩)
    (c_greatest_by : PySem.W.codeIn K cd_greatest_by "_greatest_by" = true)
    (k_greatest_by : PySem.W.keepIn K (.ref a_greatest_by) = true)
    (f_fewest_by : PySem.W.nsIn K mainGlobals "_fewest_by" = some (some (.ref a_fewest_by)))
    (l_fewest_by : K.lookup a_fewest_by = some ⟨oc_fewest_by, od_fewest_by, .func (PySem.W.fnOf "_fewest_by" "_fewest_by" (defArgs s_fewest_by) (defBody s_fewest_by) (defScope s_fewest_by) .none kV_fewest_by dc_fewest_by pm_fewest_by an_fewest_by cd_fewest_by ct_fewest_by), sl_fewest_by⟩)
    (c_fewest_by : PySem.W.codeIn K cd_fewest_by "_fewest_by" = true)
    (k_fewest_by : PySem.W.keepIn K (.ref a_fewest_by) = true)
    (f_merged : PySem.W.nsIn K mainGlobals "_merged" = some (some (.ref a_merged)))
    (l_merged : K.lookup a_merged = some ⟨oc_merged, od_merged, .func (PySem.W.fnOf "_merged" "_merged" (defArgs s_merged) (defBody s_merged) (defScope s_merged) .none kV_merged dc_merged pm_merged an_merged cd_merged ct_merged), sl_merged⟩)
    (c_merged : PySem.W.codeIn K cd_merged "_merged" = true)
    (k_merged : PySem.W.keepIn K (.ref a_merged) = true)
    (f_l_mixed : PySem.W.nsIn K mainGlobals "_law_mixed" = some (some (.ref a_l_mixed)))
    (l_l_mixed : K.lookup a_l_mixed = some ⟨oc_l_mixed, od_l_mixed, .func (PySem.W.fnOf "_law_mixed" "_law_mixed" (defArgs s_l_mixed) (defBody s_l_mixed) (defScope s_l_mixed) .none kV_l_mixed dc_l_mixed pm_l_mixed an_l_mixed cd_l_mixed ct_l_mixed), sl_l_mixed⟩)
    (c_l_mixed : PySem.W.codeIn K cd_l_mixed "_law_mixed" = true)
    (k_l_mixed : PySem.W.keepIn K (.ref a_l_mixed) = true)
    (f_l_number : PySem.W.nsIn K mainGlobals "_law_number" = some (some (.ref a_l_number)))
    (l_l_number : K.lookup a_l_number = some ⟨oc_l_number, od_l_number, .func (PySem.W.fnOf "_law_number" "_law_number" (defArgs s_l_number) (defBody s_l_number) (defScope s_l_number) .none kV_l_number dc_l_number pm_l_number an_l_number cd_l_number ct_l_number), sl_l_number⟩)
    (c_l_number : PySem.W.codeIn K cd_l_number "_law_number" = true)
    (k_l_number : PySem.W.keepIn K (.ref a_l_number) = true)
    (f_l_order : PySem.W.nsIn K mainGlobals "_law_order" = some (some (.ref a_l_order)))
    (l_l_order : K.lookup a_l_order = some ⟨oc_l_order, od_l_order, .func (PySem.W.fnOf "_law_order" "_law_order" (defArgs s_l_order) (defBody s_l_order) (defScope s_l_order) .none kV_l_order dc_l_order pm_l_order an_l_order cd_l_order ct_l_order), sl_l_order⟩)
    (c_l_order : PySem.W.codeIn K cd_l_order "_law_order" = true)
    (k_l_order : PySem.W.keepIn K (.ref a_l_order) = true)
    (f_l_least : PySem.W.nsIn K mainGlobals "_law_least" = some (some (.ref a_l_least)))
    (l_l_least : K.lookup a_l_least = some ⟨oc_l_least, od_l_least, .func (PySem.W.fnOf "_law_least" "_law_least" (defArgs s_l_least) (defBody s_l_least) (defScope s_l_least) .none kV_l_least dc_l_least pm_l_least an_l_least cd_l_least ct_l_least), sl_l_least⟩)
    (c_l_least : PySem.W.codeIn K cd_l_least "_law_least" = true)
    (k_l_least : PySem.W.keepIn K (.ref a_l_least) = true)
    (f_l_told : PySem.W.nsIn K mainGlobals "_law_told" = some (some (.ref a_l_told)))
    (l_l_told : K.lookup a_l_told = some ⟨oc_l_told, od_l_told, .func (PySem.W.fnOf "_law_told" "_law_told" (defArgs s_l_told) (defBody s_l_told) (defScope s_l_told) .none kV_l_told dc_l_told pm_l_told an_l_told cd_l_told ct_l_told), sl_l_told⟩)
    (c_l_told : PySem.W.codeIn K cd_l_told "_law_told" = true)
    (k_l_told : PySem.W.keepIn K (.ref a_l_told) = true)
    (f_l_tree : PySem.W.nsIn K mainGlobals "_law_tree" = some (some (.ref a_l_tree)))
    (l_l_tree : K.lookup a_l_tree = some ⟨oc_l_tree, od_l_tree, .func (PySem.W.fnOf "_law_tree" "_law_tree" (defArgs s_l_tree) (defBody s_l_tree) (defScope s_l_tree) .none kV_l_tree dc_l_tree pm_l_tree an_l_tree cd_l_tree ct_l_tree), sl_l_tree⟩)
    (c_l_tree : PySem.W.codeIn K cd_l_tree "_law_tree" = true)
    (k_l_tree : PySem.W.keepIn K (.ref a_l_tree) = true)
    (f_l_points : PySem.W.nsIn K mainGlobals "_law_points" = some (some (.ref a_l_points)))
    (l_l_points : K.lookup a_l_points = some ⟨oc_l_points, od_l_points, .func (PySem.W.fnOf "_law_points" "_law_points" (defArgs s_l_points) (defBody s_l_points) (defScope s_l_points) .none kV_l_points dc_l_points pm_l_points an_l_points cd_l_points ct_l_points), sl_l_points⟩)
    (c_l_points : PySem.W.codeIn K cd_l_points "_law_points" = true)
    (k_l_points : PySem.W.keepIn K (.ref a_l_points) = true)
    (f_l_ties : PySem.W.nsIn K mainGlobals "_law_ties" = some (some (.ref a_l_ties)))
    (l_l_ties : K.lookup a_l_ties = some ⟨oc_l_ties, od_l_ties, .func (PySem.W.fnOf "_law_ties" "_law_ties" (defArgs s_l_ties) (defBody s_l_ties) (defScope s_l_ties) .none kV_l_ties dc_l_ties pm_l_ties an_l_ties cd_l_ties ct_l_ties), sl_l_ties⟩)
    (c_l_ties : PySem.W.codeIn K cd_l_ties "_law_ties" = true)
    (k_l_ties : PySem.W.keepIn K (.ref a_l_ties) = true)
    (f_l_is_crowd : PySem.W.nsIn K mainGlobals "_law_is_crowd" = some (some (.ref a_l_is_crowd)))
    (l_l_is_crowd : K.lookup a_l_is_crowd = some ⟨oc_l_is_crowd, od_l_is_crowd, .func (PySem.W.fnOf "_law_is_crowd" "_law_is_crowd" (defArgs s_l_is_crowd) (defBody s_l_is_crowd) (defScope s_l_is_crowd) .none kV_l_is_crowd dc_l_is_crowd pm_l_is_crowd an_l_is_crowd cd_l_is_crowd ct_l_is_crowd), sl_l_is_crowd⟩)
    (c_l_is_crowd : PySem.W.codeIn K cd_l_is_crowd "_law_is_crowd" = true)
    (k_l_is_crowd : PySem.W.keepIn K (.ref a_l_is_crowd) = true)
    (f_l_shaded : PySem.W.nsIn K mainGlobals "_law_shaded" = some (some (.ref a_l_shaded)))
    (l_l_shaded : K.lookup a_l_shaded = some ⟨oc_l_shaded, od_l_shaded, .func (PySem.W.fnOf "_law_shaded" "_law_shaded" (defArgs s_l_shaded) (defBody s_l_shaded) (defScope s_l_shaded) .none kV_l_shaded dc_l_shaded pm_l_shaded an_l_shaded cd_l_shaded ct_l_shaded), sl_l_shaded⟩)
    (c_l_shaded : PySem.W.codeIn K cd_l_shaded "_law_shaded" = true)
    (k_l_shaded : PySem.W.keepIn K (.ref a_l_shaded) = true)
    (f_l_covered : PySem.W.nsIn K mainGlobals "_law_covered" = some (some (.ref a_l_covered)))
    (l_l_covered : K.lookup a_l_covered = some ⟨oc_l_covered, od_l_covered, .func (PySem.W.fnOf "_law_covered" "_law_covered" (defArgs s_l_covered) (defBody s_l_covered) (defScope s_l_covered) .none kV_l_covered dc_l_covered pm_l_covered an_l_covered cd_l_covered ct_l_covered), sl_l_covered⟩)
    (c_l_covered : PySem.W.codeIn K cd_l_covered "_law_covered" = true)
    (k_l_covered : PySem.W.keepIn K (.ref a_l_covered) = true)
    (f_l_right : PySem.W.nsIn K mainGlobals "_law_right" = some (some (.ref a_l_right)))
    (l_l_right : K.lookup a_l_right = some ⟨oc_l_right, od_l_right, .func (PySem.W.fnOf "_law_right" "_law_right" (defArgs s_l_right) (defBody s_l_right) (defScope s_l_right) .none kV_l_right dc_l_right pm_l_right an_l_right cd_l_right ct_l_right), sl_l_right⟩)
    (c_l_right : PySem.W.codeIn K cd_l_right "_law_right" = true)
    (k_l_right : PySem.W.keepIn K (.ref a_l_right) = true)
    (f_law : PySem.W.nsIn K mainGlobals "law" = some (some (.ref a_law)))
    (l_law : K.lookup a_law = some ⟨oc_law, od_law, .func (PySem.W.fnOf "law" "law" (defArgs s_law) (defBody s_law) (defScope s_law) .none kV_law dc_law pm_law an_law cd_law ct_law), sl_law⟩)
    (c_law : PySem.W.codeIn K cd_law "law" = true)
    (k_law : PySem.W.keepIn K (.ref a_law) = true)
    (pg_Join : PySem.W.plainGet K c_Join Str.empty = true)
    (hd_Join : PySem.W.hasDictIn K c_Join = true)
    (po_Join : PySem.W.plainOver K c_Join = true)
    (sa_Join : PySem.W.findIn K (.ref c_Join) "__setattr__" = some (some (.builtin "object.__setattr__")))
    (mm_Join : PySem.W.makesIn K c_Join = true)
    (kc_Join : PySem.W.keepIn K (.ref c_Join) = true)
    (n_Join__parts : PySem.W.findIn K (.ref c_Join) "_parts" = some none)
    (n_Join__points : PySem.W.findIn K (.ref c_Join) "_points" = some none)
    (pg_Point : PySem.W.plainGet K c_Point Str.empty = true)
    (hd_Point : PySem.W.hasDictIn K c_Point = true)
    (po_Point : PySem.W.plainOver K c_Point = true)
    (sa_Point : PySem.W.findIn K (.ref c_Point) "__setattr__" = some (some (.builtin "object.__setattr__")))
    (mm_Point : PySem.W.makesIn K c_Point = true)
    (kc_Point : PySem.W.keepIn K (.ref c_Point) = true)
    (n_Point__number : PySem.W.findIn K (.ref c_Point) "_number" = some none)
    (pg_Side : PySem.W.plainGet K c_Side Str.empty = true)
    (hd_Side : PySem.W.hasDictIn K c_Side = true)
    (po_Side : PySem.W.plainOver K c_Side = true)
    (sa_Side : PySem.W.findIn K (.ref c_Side) "__setattr__" = some (some (.builtin "object.__setattr__")))
    (mm_Side : PySem.W.makesIn K c_Side = true)
    (kc_Side : PySem.W.keepIn K (.ref c_Side) = true)
    (n_Side__parts : PySem.W.findIn K (.ref c_Side) "_parts" = some none)
    (n_Side__points : PySem.W.findIn K (.ref c_Side) "_points" = some none)
    (z_NotImplementedError : PySem.W.nsIn K mainGlobals "NotImplementedError" = some none)
    (z_ValueError : PySem.W.nsIn K mainGlobals "ValueError" = some none)
    (z_all : PySem.W.nsIn K mainGlobals "all" = some none)
    (z_bool : PySem.W.nsIn K mainGlobals "bool" = some none)
    (z_dict : PySem.W.nsIn K mainGlobals "dict" = some none)
    (z_enumerate : PySem.W.nsIn K mainGlobals "enumerate" = some none)
    (z_int : PySem.W.nsIn K mainGlobals "int" = some none)
    (z_isinstance : PySem.W.nsIn K mainGlobals "isinstance" = some none)
    (z_len : PySem.W.nsIn K mainGlobals "len" = some none)
    (z_list : PySem.W.nsIn K mainGlobals "list" = some none)
    (z_max : PySem.W.nsIn K mainGlobals "max" = some none)
    (z_min : PySem.W.nsIn K mainGlobals "min" = some none)
    (z_range : PySem.W.nsIn K mainGlobals "range" = some none)
    (z_repr : PySem.W.nsIn K mainGlobals "repr" = some none)
    (z_set : PySem.W.nsIn K mainGlobals "set" = some none)
    (z_sorted : PySem.W.nsIn K mainGlobals "sorted" = some none)
    (z_str : PySem.W.nsIn K mainGlobals "str" = some none)
    (z_tuple : PySem.W.nsIn K mainGlobals "tuple" = some none)
    (v_MOST_POINTS : PySem.W.nsIn K mainGlobals "MOST_POINTS" = some (some (.int (30) tk_MOST_POINTS)))
    (v_SIDE : PySem.W.nsIn K mainGlobals "SIDE" = some (some (.str "side" tk_SIDE)))
    (v_JOIN : PySem.W.nsIn K mainGlobals "JOIN" = some (some (.str "join" tk_JOIN))) :
    ∃ fd : FuncData, (∀ (s : Shared) (v : Value), BindsTo s fd ⟨[v], []⟩ [("_law_script", v)]) ∧ ∀ base : Heap, K.In base → base.Ns mainGlobals mg → FnG l.prog w K mg base 68 fa fd ["_law_script"] (spLaw K) := by
  have e := hfa.symm.trans (PySem.W.mg_of X G f_law)
  obtain rfl : a_law = fa := by cases e; rfl
  have T : Txt K mg { a_whole_within := a_whole_within, d_whole_within := PySem.W.fnOf "whole_within" "whole_within" (defArgs s_whole_within) (defBody s_whole_within) (defScope s_whole_within) .none kV_whole_within dc_whole_within pm_whole_within an_whole_within cd_whole_within ct_whole_within, a_Point_init := a_Point_init, d_Point_init := PySem.W.fnOf "__init__" "Point.__init__" (defArgs s_Point_init) (defBody s_Point_init) (defScope s_Point_init) .none kV_Point_init dc_Point_init pm_Point_init an_Point_init cd_Point_init ct_Point_init, a_Point_told := a_Point_told, d_Point_told := PySem.W.fnOf "told" "Point.told" (defArgs s_Point_told) (defBody s_Point_told) (defScope s_Point_told) .none kV_Point_told dc_Point_told pm_Point_told an_Point_told cd_Point_told ct_Point_told, a_Point_points := a_Point_points, d_Point_points := PySem.W.fnOf "points" "Point.points" (defArgs s_Point_points) (defBody s_Point_points) (defScope s_Point_points) .none kV_Point_points dc_Point_points pm_Point_points an_Point_points cd_Point_points ct_Point_points, a_Point_tied := a_Point_tied, d_Point_tied := PySem.W.fnOf "tied" "Point.tied" (defArgs s_Point_tied) (defBody s_Point_tied) (defScope s_Point_tied) .none kV_Point_tied dc_Point_tied pm_Point_tied an_Point_tied cd_Point_tied ct_Point_tied, a_Point_turned := a_Point_turned, d_Point_turned := PySem.W.fnOf "turned" "Point.turned" (defArgs s_Point_turned) (defBody s_Point_turned) (defScope s_Point_turned) .none kV_Point_turned dc_Point_turned pm_Point_turned an_Point_turned cd_Point_turned ct_Point_turned, a_Side_init := a_Side_init, d_Side_init := PySem.W.fnOf "__init__" "Side.__init__" (defArgs s_Side_init) (defBody s_Side_init) (defScope s_Side_init) .none kV_Side_init dc_Side_init pm_Side_init an_Side_init cd_Side_init ct_Side_init, a_Side_told := a_Side_told, d_Side_told := PySem.W.fnOf "told" "Side.told" (defArgs s_Side_told) (defBody s_Side_told) (defScope s_Side_told) .none kV_Side_told dc_Side_told pm_Side_told an_Side_told cd_Side_told ct_Side_told, a_Side_points := a_Side_points, d_Side_points := PySem.W.fnOf "points" "Side.points" (defArgs s_Side_points) (defBody s_Side_points) (defScope s_Side_points) .none kV_Side_points dc_Side_points pm_Side_points an_Side_points cd_Side_points ct_Side_points, a_Side_tied := a_Side_tied, d_Side_tied := PySem.W.fnOf "tied" "Side.tied" (defArgs s_Side_tied) (defBody s_Side_tied) (defScope s_Side_tied) .none kV_Side_tied dc_Side_tied pm_Side_tied an_Side_tied cd_Side_tied ct_Side_tied, a_Side_turned := a_Side_turned, d_Side_turned := PySem.W.fnOf "turned" "Side.turned" (defArgs s_Side_turned) (defBody s_Side_turned) (defScope s_Side_turned) .none kV_Side_turned dc_Side_turned pm_Side_turned an_Side_turned cd_Side_turned ct_Side_turned, a_Join_init := a_Join_init, d_Join_init := PySem.W.fnOf "__init__" "Join.__init__" (defArgs s_Join_init) (defBody s_Join_init) (defScope s_Join_init) .none kV_Join_init dc_Join_init pm_Join_init an_Join_init cd_Join_init ct_Join_init, a_Join_told := a_Join_told, d_Join_told := PySem.W.fnOf "told" "Join.told" (defArgs s_Join_told) (defBody s_Join_told) (defScope s_Join_told) .none kV_Join_told dc_Join_told pm_Join_told an_Join_told cd_Join_told ct_Join_told, a_Join_points := a_Join_points, d_Join_points := PySem.W.fnOf "points" "Join.points" (defArgs s_Join_points) (defBody s_Join_points) (defScope s_Join_points) .none kV_Join_points dc_Join_points pm_Join_points an_Join_points cd_Join_points ct_Join_points, a_Join_tied := a_Join_tied, d_Join_tied := PySem.W.fnOf "tied" "Join.tied" (defArgs s_Join_tied) (defBody s_Join_tied) (defScope s_Join_tied) .none kV_Join_tied dc_Join_tied pm_Join_tied an_Join_tied cd_Join_tied ct_Join_tied, a_Join_turned := a_Join_turned, d_Join_turned := PySem.W.fnOf "turned" "Join.turned" (defArgs s_Join_turned) (defBody s_Join_turned) (defScope s_Join_turned) .none kV_Join_turned dc_Join_turned pm_Join_turned an_Join_turned cd_Join_turned ct_Join_turned, a_points_of := a_points_of, d_points_of := PySem.W.fnOf "_points_of" "_points_of" (defArgs s_points_of) (defBody s_points_of) (defScope s_points_of) .none kV_points_of dc_points_of pm_points_of an_points_of cd_points_of ct_points_of, a_told_of := a_told_of, d_told_of := PySem.W.fnOf "_told_of" "_told_of" (defArgs s_told_of) (defBody s_told_of) (defScope s_told_of) .none kV_told_of dc_told_of pm_told_of an_told_of cd_told_of ct_told_of, a_tied_among := a_tied_among, d_tied_among := PySem.W.fnOf "_tied_among" "_tied_among" (defArgs s_tied_among) (defBody s_tied_among) (defScope s_tied_among) .none kV_tied_among dc_tied_among pm_tied_among an_tied_among cd_tied_among ct_tied_among, a_tree_by := a_tree_by, d_tree_by := PySem.W.fnOf "tree_by" "tree_by" (defArgs s_tree_by) (defBody s_tree_by) (defScope s_tree_by) .none kV_tree_by dc_tree_by pm_tree_by an_tree_by cd_tree_by ct_tree_by, a_tree_under := a_tree_under, d_tree_under := PySem.W.fnOf "_tree_under" "_tree_under" (defArgs s_tree_under) (defBody s_tree_under) (defScope s_tree_under) .none kV_tree_under dc_tree_under pm_tree_under an_tree_under cd_tree_under ct_tree_under, a_opened := a_opened, d_opened := PySem.W.fnOf "_opened" "_opened" (defArgs s_opened) (defBody s_opened) (defScope s_opened) .none kV_opened dc_opened pm_opened an_opened cd_opened ct_opened, a_crowd := a_crowd, d_crowd := PySem.W.fnOf "crowd" "crowd" (defArgs s_crowd) (defBody s_crowd) (defScope s_crowd) .none kV_crowd dc_crowd pm_crowd an_crowd cd_crowd ct_crowd, a_still := a_still, d_still := PySem.W.fnOf "still" "still" (defArgs s_still) (defBody s_still) (defScope s_still) .none kV_still dc_still pm_still an_still cd_still ct_still, a_colours := a_colours, d_colours := PySem.W.fnOf "colours" "colours" (defArgs s_colours) (defBody s_colours) (defScope s_colours) .none kV_colours dc_colours pm_colours an_colours cd_colours ct_colours, a_covers := a_covers, d_covers := PySem.W.fnOf "covers" "covers" (defArgs s_covers) (defBody s_covers) (defScope s_covers) .none kV_covers dc_covers pm_covers an_covers cd_covers ct_covers, a_greatest_by := a_greatest_by, d_greatest_by := PySem.W.fnOf "_greatest_by" "_greatest_by" (defArgs s_greatest_by) (defBody s_greatest_by) (defScope s_greatest_by) .none kV_greatest_by dc_greatest_by pm_greatest_by an_greatest_by cd_greatest_by ct_greatest_by, a_fewest_by := a_fewest_by, d_fewest_by := PySem.W.fnOf "_fewest_by" "_fewest_by" (defArgs s_fewest_by) (defBody s_fewest_by) (defScope s_fewest_by) .none kV_fewest_by dc_fewest_by pm_fewest_by an_fewest_by cd_fewest_by ct_fewest_by, a_merged := a_merged, d_merged := PySem.W.fnOf "_merged" "_merged" (defArgs s_merged) (defBody s_merged) (defScope s_merged) .none kV_merged dc_merged pm_merged an_merged cd_merged ct_merged, a_l_mixed := a_l_mixed, d_l_mixed := PySem.W.fnOf "_law_mixed" "_law_mixed" (defArgs s_l_mixed) (defBody s_l_mixed) (defScope s_l_mixed) .none kV_l_mixed dc_l_mixed pm_l_mixed an_l_mixed cd_l_mixed ct_l_mixed, a_l_number := a_l_number, d_l_number := PySem.W.fnOf "_law_number" "_law_number" (defArgs s_l_number) (defBody s_l_number) (defScope s_l_number) .none kV_l_number dc_l_number pm_l_number an_l_number cd_l_number ct_l_number, a_l_order := a_l_order, d_l_order := PySem.W.fnOf "_law_order" "_law_order" (defArgs s_l_order) (defBody s_l_order) (defScope s_l_order) .none kV_l_order dc_l_order pm_l_order an_l_order cd_l_order ct_l_order, a_l_least := a_l_least, d_l_least := PySem.W.fnOf "_law_least" "_law_least" (defArgs s_l_least) (defBody s_l_least) (defScope s_l_least) .none kV_l_least dc_l_least pm_l_least an_l_least cd_l_least ct_l_least, a_l_told := a_l_told, d_l_told := PySem.W.fnOf "_law_told" "_law_told" (defArgs s_l_told) (defBody s_l_told) (defScope s_l_told) .none kV_l_told dc_l_told pm_l_told an_l_told cd_l_told ct_l_told, a_l_tree := a_l_tree, d_l_tree := PySem.W.fnOf "_law_tree" "_law_tree" (defArgs s_l_tree) (defBody s_l_tree) (defScope s_l_tree) .none kV_l_tree dc_l_tree pm_l_tree an_l_tree cd_l_tree ct_l_tree, a_l_points := a_l_points, d_l_points := PySem.W.fnOf "_law_points" "_law_points" (defArgs s_l_points) (defBody s_l_points) (defScope s_l_points) .none kV_l_points dc_l_points pm_l_points an_l_points cd_l_points ct_l_points, a_l_ties := a_l_ties, d_l_ties := PySem.W.fnOf "_law_ties" "_law_ties" (defArgs s_l_ties) (defBody s_l_ties) (defScope s_l_ties) .none kV_l_ties dc_l_ties pm_l_ties an_l_ties cd_l_ties ct_l_ties, a_l_is_crowd := a_l_is_crowd, d_l_is_crowd := PySem.W.fnOf "_law_is_crowd" "_law_is_crowd" (defArgs s_l_is_crowd) (defBody s_l_is_crowd) (defScope s_l_is_crowd) .none kV_l_is_crowd dc_l_is_crowd pm_l_is_crowd an_l_is_crowd cd_l_is_crowd ct_l_is_crowd, a_l_shaded := a_l_shaded, d_l_shaded := PySem.W.fnOf "_law_shaded" "_law_shaded" (defArgs s_l_shaded) (defBody s_l_shaded) (defScope s_l_shaded) .none kV_l_shaded dc_l_shaded pm_l_shaded an_l_shaded cd_l_shaded ct_l_shaded, a_l_covered := a_l_covered, d_l_covered := PySem.W.fnOf "_law_covered" "_law_covered" (defArgs s_l_covered) (defBody s_l_covered) (defScope s_l_covered) .none kV_l_covered dc_l_covered pm_l_covered an_l_covered cd_l_covered ct_l_covered, a_l_right := a_l_right, d_l_right := PySem.W.fnOf "_law_right" "_law_right" (defArgs s_l_right) (defBody s_l_right) (defScope s_l_right) .none kV_l_right dc_l_right pm_l_right an_l_right cd_l_right ct_l_right, a_law := a_law, d_law := PySem.W.fnOf "law" "law" (defArgs s_law) (defBody s_law) (defScope s_law) .none kV_law dc_law pm_law an_law cd_law ct_law, c_Join := c_Join, c_Point := c_Point, c_Side := c_Side } := {
    g_whole_within := PySem.W.mg_of X G f_whole_within
    k_whole_within := k_whole_within
    b_whole_within := (fun_mk (st := s_whole_within) l_whole_within c_whole_within k_whole_within).binds (ps := ["number", "least", "most"]) fun _ _ _ _ _ _ us hl => match us, hl with | [_, _, _], _ => rfl
    F_whole_within := fun_mk (st := s_whole_within) l_whole_within c_whole_within k_whole_within
    b_Point_init := (fun_mk (st := s_Point_init) l_Point_init c_Point_init k_Point_init).binds (ps := ["self", "number"]) fun _ _ _ _ _ _ us hl => match us, hl with | [_, _], _ => rfl
    F_Point_init := fun_mk (st := s_Point_init) l_Point_init c_Point_init k_Point_init
    m_Point_told := ⟨f_Point_told, i_Point_told, k_Point_told⟩
    b_Point_told := (fun_mk (st := s_Point_told) l_Point_told c_Point_told k_Point_told).binds (ps := ["self"]) fun _ _ _ _ _ _ us hl => match us, hl with | [_], _ => rfl
    F_Point_told := fun_mk (st := s_Point_told) l_Point_told c_Point_told k_Point_told
    m_Point_points := ⟨f_Point_points, i_Point_points, k_Point_points⟩
    b_Point_points := (fun_mk (st := s_Point_points) l_Point_points c_Point_points k_Point_points).binds (ps := ["self"]) fun _ _ _ _ _ _ us hl => match us, hl with | [_], _ => rfl
    F_Point_points := fun_mk (st := s_Point_points) l_Point_points c_Point_points k_Point_points
    m_Point_tied := ⟨f_Point_tied, i_Point_tied, k_Point_tied⟩
    b_Point_tied := (fun_mk (st := s_Point_tied) l_Point_tied c_Point_tied k_Point_tied).binds (ps := ["self", "one", "other"]) fun _ _ _ _ _ _ us hl => match us, hl with | [_, _, _], _ => rfl
    F_Point_tied := fun_mk (st := s_Point_tied) l_Point_tied c_Point_tied k_Point_tied
    m_Point_turned := ⟨f_Point_turned, i_Point_turned, k_Point_turned⟩
    b_Point_turned := (fun_mk (st := s_Point_turned) l_Point_turned c_Point_turned k_Point_turned).binds (ps := ["self"]) fun _ _ _ _ _ _ us hl => match us, hl with | [_], _ => rfl
    F_Point_turned := fun_mk (st := s_Point_turned) l_Point_turned c_Point_turned k_Point_turned
    b_Side_init := (fun_mk (st := s_Side_init) l_Side_init c_Side_init k_Side_init).binds (ps := ["self", "parts"]) fun _ _ _ _ _ _ us hl => match us, hl with | [_, _], _ => rfl
    F_Side_init := fun_mk (st := s_Side_init) l_Side_init c_Side_init k_Side_init
    m_Side_told := ⟨f_Side_told, i_Side_told, k_Side_told⟩
    b_Side_told := (fun_mk (st := s_Side_told) l_Side_told c_Side_told k_Side_told).binds (ps := ["self"]) fun _ _ _ _ _ _ us hl => match us, hl with | [_], _ => rfl
    F_Side_told := fun_mk (st := s_Side_told) l_Side_told c_Side_told k_Side_told
    m_Side_points := ⟨f_Side_points, i_Side_points, k_Side_points⟩
    b_Side_points := (fun_mk (st := s_Side_points) l_Side_points c_Side_points k_Side_points).binds (ps := ["self"]) fun _ _ _ _ _ _ us hl => match us, hl with | [_], _ => rfl
    F_Side_points := fun_mk (st := s_Side_points) l_Side_points c_Side_points k_Side_points
    m_Side_tied := ⟨f_Side_tied, i_Side_tied, k_Side_tied⟩
    b_Side_tied := (fun_mk (st := s_Side_tied) l_Side_tied c_Side_tied k_Side_tied).binds (ps := ["self", "one", "other"]) fun _ _ _ _ _ _ us hl => match us, hl with | [_, _, _], _ => rfl
    F_Side_tied := fun_mk (st := s_Side_tied) l_Side_tied c_Side_tied k_Side_tied
    m_Side_turned := ⟨f_Side_turned, i_Side_turned, k_Side_turned⟩
    b_Side_turned := (fun_mk (st := s_Side_turned) l_Side_turned c_Side_turned k_Side_turned).binds (ps := ["self"]) fun _ _ _ _ _ _ us hl => match us, hl with | [_], _ => rfl
    F_Side_turned := fun_mk (st := s_Side_turned) l_Side_turned c_Side_turned k_Side_turned
    b_Join_init := (fun_mk (st := s_Join_init) l_Join_init c_Join_init k_Join_init).binds (ps := ["self", "parts"]) fun _ _ _ _ _ _ us hl => match us, hl with | [_, _], _ => rfl
    F_Join_init := fun_mk (st := s_Join_init) l_Join_init c_Join_init k_Join_init
    m_Join_told := ⟨f_Join_told, i_Join_told, k_Join_told⟩
    b_Join_told := (fun_mk (st := s_Join_told) l_Join_told c_Join_told k_Join_told).binds (ps := ["self"]) fun _ _ _ _ _ _ us hl => match us, hl with | [_], _ => rfl
    F_Join_told := fun_mk (st := s_Join_told) l_Join_told c_Join_told k_Join_told
    m_Join_points := ⟨f_Join_points, i_Join_points, k_Join_points⟩
    b_Join_points := (fun_mk (st := s_Join_points) l_Join_points c_Join_points k_Join_points).binds (ps := ["self"]) fun _ _ _ _ _ _ us hl => match us, hl with | [_], _ => rfl
    F_Join_points := fun_mk (st := s_Join_points) l_Join_points c_Join_points k_Join_points
    m_Join_tied := ⟨f_Join_tied, i_Join_tied, k_Join_tied⟩
    b_Join_tied := (fun_mk (st := s_Join_tied) l_Join_tied c_Join_tied k_Join_tied).binds (ps := ["self", "one", "other"]) fun _ _ _ _ _ _ us hl => match us, hl with | [_, _, _], _ => rfl
    F_Join_tied := fun_mk (st := s_Join_tied) l_Join_tied c_Join_tied k_Join_tied
    m_Join_turned := ⟨f_Join_turned, i_Join_turned, k_Join_turned⟩
    b_Join_turned := (fun_mk (st := s_Join_turned) l_Join_turned c_Join_turned k_Join_turned).binds (ps := ["self"]) fun _ _ _ _ _ _ us hl => match us, hl with | [_], _ => rfl
    F_Join_turned := fun_mk (st := s_Join_turned) l_Join_turned c_Join_turned k_Join_turned
    g_points_of := PySem.W.mg_of X G f_points_of
    k_points_of := k_points_of
    b_points_of := (fun_mk (st := s_points_of) l_points_of c_points_of k_points_of).binds (ps := ["trees"]) fun _ _ _ _ _ _ us hl => match us, hl with | [_], _ => rfl
    F_points_of := fun_mk (st := s_points_of) l_points_of c_points_of k_points_of
    g_told_of := PySem.W.mg_of X G f_told_of
    k_told_of := k_told_of
    b_told_of := (fun_mk (st := s_told_of) l_told_of c_told_of k_told_of).binds (ps := ["trees"]) fun _ _ _ _ _ _ us hl => match us, hl with | [_], _ => rfl
    F_told_of := fun_mk (st := s_told_of) l_told_of c_told_of k_told_of
    g_tied_among := PySem.W.mg_of X G f_tied_among
    k_tied_among := k_tied_among
    b_tied_among := (fun_mk (st := s_tied_among) l_tied_among c_tied_among k_tied_among).binds (ps := ["trees", "one", "other", "across"]) fun _ _ _ _ _ _ us hl => match us, hl with | [_, _, _, _], _ => rfl
    F_tied_among := fun_mk (st := s_tied_among) l_tied_among c_tied_among k_tied_among
    g_tree_by := PySem.W.mg_of X G f_tree_by
    k_tree_by := k_tree_by
    b_tree_by := (fun_mk (st := s_tree_by) l_tree_by c_tree_by k_tree_by).binds (ps := ["told"]) fun _ _ _ _ _ _ us hl => match us, hl with | [_], _ => rfl
    F_tree_by := fun_mk (st := s_tree_by) l_tree_by c_tree_by k_tree_by
    g_tree_under := PySem.W.mg_of X G f_tree_under
    k_tree_under := k_tree_under
    b_tree_under := (fun_mk (st := s_tree_under) l_tree_under c_tree_under k_tree_under).binds (ps := ["above", "told", "deep", "met"]) fun _ _ _ _ _ _ us hl => match us, hl with | [_, _, _, _], _ => rfl
    F_tree_under := fun_mk (st := s_tree_under) l_tree_under c_tree_under k_tree_under
    g_opened := PySem.W.mg_of X G f_opened
    k_opened := k_opened
    b_opened := (fun_mk (st := s_opened) l_opened c_opened k_opened).binds (ps := ["told"]) fun _ _ _ _ _ _ us hl => match us, hl with | [_], _ => rfl
    F_opened := fun_mk (st := s_opened) l_opened c_opened k_opened
    g_crowd := PySem.W.mg_of X G f_crowd
    k_crowd := k_crowd
    b_crowd := (fun_mk (st := s_crowd) l_crowd c_crowd k_crowd).binds (ps := ["told"]) fun _ _ _ _ _ _ us hl => match us, hl with | [_], _ => rfl
    F_crowd := fun_mk (st := s_crowd) l_crowd c_crowd k_crowd
    g_still := PySem.W.mg_of X G f_still
    k_still := k_still
    b_still := (fun_mk (st := s_still) l_still c_still k_still).binds (ps := ["told"]) fun _ _ _ _ _ _ us hl => match us, hl with | [_], _ => rfl
    F_still := fun_mk (st := s_still) l_still c_still k_still
    g_colours := PySem.W.mg_of X G f_colours
    k_colours := k_colours
    b_colours := (fun_mk (st := s_colours) l_colours c_colours k_colours).binds (ps := ["told"]) fun _ _ _ _ _ _ us hl => match us, hl with | [_], _ => rfl
    F_colours := fun_mk (st := s_colours) l_colours c_colours k_colours
    g_covers := PySem.W.mg_of X G f_covers
    k_covers := k_covers
    b_covers := (fun_mk (st := s_covers) l_covers c_covers k_covers).binds (ps := ["told"]) fun _ _ _ _ _ _ us hl => match us, hl with | [_], _ => rfl
    F_covers := fun_mk (st := s_covers) l_covers c_covers k_covers
    g_greatest_by := PySem.W.mg_of X G f_greatest_by
    k_greatest_by := k_greatest_by
    b_greatest_by := (fun_mk (st := s_greatest_by) l_greatest_by c_greatest_by k_greatest_by).binds (ps := ["word", "told"]) fun _ _ _ _ _ _ us hl => match us, hl with | [_, _], _ => rfl
    F_greatest_by := fun_mk (st := s_greatest_by) l_greatest_by c_greatest_by k_greatest_by
    g_fewest_by := PySem.W.mg_of X G f_fewest_by
    k_fewest_by := k_fewest_by
    b_fewest_by := (fun_mk (st := s_fewest_by) l_fewest_by c_fewest_by k_fewest_by).binds (ps := ["word", "told"]) fun _ _ _ _ _ _ us hl => match us, hl with | [_, _], _ => rfl
    F_fewest_by := fun_mk (st := s_fewest_by) l_fewest_by c_fewest_by k_fewest_by
    g_merged := PySem.W.mg_of X G f_merged
    k_merged := k_merged
    b_merged := (fun_mk (st := s_merged) l_merged c_merged k_merged).binds (ps := ["found"]) fun _ _ _ _ _ _ us hl => match us, hl with | [_], _ => rfl
    F_merged := fun_mk (st := s_merged) l_merged c_merged k_merged
    g_l_mixed := PySem.W.mg_of X G f_l_mixed
    k_l_mixed := k_l_mixed
    b_l_mixed := (fun_mk (st := s_l_mixed) l_l_mixed c_l_mixed k_l_mixed).binds (ps := ["_law_cell", "_law_k"]) fun _ _ _ _ _ _ us hl => match us, hl with | [_, _], _ => rfl
    F_l_mixed := fun_mk (st := s_l_mixed) l_l_mixed c_l_mixed k_l_mixed
    g_l_number := PySem.W.mg_of X G f_l_number
    k_l_number := k_l_number
    b_l_number := (fun_mk (st := s_l_number) l_l_number c_l_number k_l_number).binds (ps := ["_law_script", "_law_k"]) fun _ _ _ _ _ _ us hl => match us, hl with | [_, _], _ => rfl
    F_l_number := fun_mk (st := s_l_number) l_l_number c_l_number k_l_number
    g_l_order := PySem.W.mg_of X G f_l_order
    k_l_order := k_l_order
    b_l_order := (fun_mk (st := s_l_order) l_l_order c_l_order k_l_order).binds (ps := ["_law_many", "_law_number_here"]) fun _ _ _ _ _ _ us hl => match us, hl with | [_, _], _ => rfl
    F_l_order := fun_mk (st := s_l_order) l_l_order c_l_order k_l_order
    g_l_least := PySem.W.mg_of X G f_l_least
    k_l_least := k_l_least
    b_l_least := (fun_mk (st := s_l_least) l_l_least c_l_least k_l_least).binds (ps := ["_law_told_here"]) fun _ _ _ _ _ _ us hl => match us, hl with | [_], _ => rfl
    F_l_least := fun_mk (st := s_l_least) l_l_least c_l_least k_l_least
    g_l_told := PySem.W.mg_of X G f_l_told
    k_l_told := k_l_told
    b_l_told := (fun_mk (st := s_l_told) l_l_told c_l_told k_l_told).binds (ps := ["_law_nodes", "_law_at", "_law_names"]) fun _ _ _ _ _ _ us hl => match us, hl with | [_, _, _], _ => rfl
    F_l_told := fun_mk (st := s_l_told) l_l_told c_l_told k_l_told
    g_l_tree := PySem.W.mg_of X G f_l_tree
    k_l_tree := k_l_tree
    b_l_tree := (fun_mk (st := s_l_tree) l_l_tree c_l_tree k_l_tree).binds (ps := ["_law_script", "_law_most", "_law_names"]) fun _ _ _ _ _ _ us hl => match us, hl with | [_, _, _], _ => rfl
    F_l_tree := fun_mk (st := s_l_tree) l_l_tree c_l_tree k_l_tree
    g_l_points := PySem.W.mg_of X G f_l_points
    k_l_points := k_l_points
    b_l_points := (fun_mk (st := s_l_points) l_l_points c_l_points k_l_points).binds (ps := ["_law_told_here"]) fun _ _ _ _ _ _ us hl => match us, hl with | [_], _ => rfl
    F_l_points := fun_mk (st := s_l_points) l_l_points c_l_points k_l_points
    g_l_ties := PySem.W.mg_of X G f_l_ties
    k_l_ties := k_l_ties
    b_l_ties := (fun_mk (st := s_l_ties) l_l_ties c_l_ties k_l_ties).binds (ps := ["_law_told_here"]) fun _ _ _ _ _ _ us hl => match us, hl with | [_], _ => rfl
    F_l_ties := fun_mk (st := s_l_ties) l_l_ties c_l_ties k_l_ties
    g_l_is_crowd := PySem.W.mg_of X G f_l_is_crowd
    k_l_is_crowd := k_l_is_crowd
    b_l_is_crowd := (fun_mk (st := s_l_is_crowd) l_l_is_crowd c_l_is_crowd k_l_is_crowd).binds (ps := ["_law_found", "_law_points_here", "_law_ties_here", "_law_is_tied"]) fun _ _ _ _ _ _ us hl => match us, hl with | [_, _, _, _], _ => rfl
    F_l_is_crowd := fun_mk (st := s_l_is_crowd) l_l_is_crowd c_l_is_crowd k_l_is_crowd
    g_l_shaded := PySem.W.mg_of X G f_l_shaded
    k_l_shaded := k_l_shaded
    b_l_shaded := (fun_mk (st := s_l_shaded) l_l_shaded c_l_shaded k_l_shaded).binds (ps := ["_law_found", "_law_points_here", "_law_ties_here"]) fun _ _ _ _ _ _ us hl => match us, hl with | [_, _, _], _ => rfl
    F_l_shaded := fun_mk (st := s_l_shaded) l_l_shaded c_l_shaded k_l_shaded
    g_l_covered := PySem.W.mg_of X G f_l_covered
    k_l_covered := k_l_covered
    b_l_covered := (fun_mk (st := s_l_covered) l_l_covered c_l_covered k_l_covered).binds (ps := ["_law_found", "_law_points_here", "_law_ties_here"]) fun _ _ _ _ _ _ us hl => match us, hl with | [_, _, _], _ => rfl
    F_l_covered := fun_mk (st := s_l_covered) l_l_covered c_l_covered k_l_covered
    g_l_right := PySem.W.mg_of X G f_l_right
    k_l_right := k_l_right
    b_l_right := (fun_mk (st := s_l_right) l_l_right c_l_right k_l_right).binds (ps := ["_law_told_here"]) fun _ _ _ _ _ _ us hl => match us, hl with | [_], _ => rfl
    F_l_right := fun_mk (st := s_l_right) l_l_right c_l_right k_l_right
    g_law := PySem.W.mg_of X G f_law
    k_law := k_law
    b_law := (fun_mk (st := s_law) l_law c_law k_law).binds (ps := ["_law_script"]) fun _ _ _ _ _ _ us hl => match us, hl with | [_], _ => rfl
    F_law := fun_mk (st := s_law) l_law c_law k_law
    cl_Join := ⟨pg_Join, hd_Join, po_Join, sa_Join⟩
    mk_Join := ⟨mm_Join, f_Join_init, i_Join_init, kc_Join⟩
    n_Join__parts := n_Join__parts
    n_Join__points := n_Join__points
    cl_Point := ⟨pg_Point, hd_Point, po_Point, sa_Point⟩
    mk_Point := ⟨mm_Point, f_Point_init, i_Point_init, kc_Point⟩
    n_Point__number := n_Point__number
    cl_Side := ⟨pg_Side, hd_Side, po_Side, sa_Side⟩
    mk_Side := ⟨mm_Side, f_Side_init, i_Side_init, kc_Side⟩
    n_Side__parts := n_Side__parts
    n_Side__points := n_Side__points
    gJoin := PySem.W.mg_of X G h_c_Join
    gPoint := PySem.W.mg_of X G h_c_Point
    gSide := PySem.W.mg_of X G h_c_Side
    NotImplementedError := PySem.W.mg_none_of X G z_NotImplementedError
    ValueError := PySem.W.mg_none_of X G z_ValueError
    all := PySem.W.mg_none_of X G z_all
    bool := PySem.W.mg_none_of X G z_bool
    dict := PySem.W.mg_none_of X G z_dict
    enumerate := PySem.W.mg_none_of X G z_enumerate
    int := PySem.W.mg_none_of X G z_int
    isinstance := PySem.W.mg_none_of X G z_isinstance
    len := PySem.W.mg_none_of X G z_len
    list := PySem.W.mg_none_of X G z_list
    max := PySem.W.mg_none_of X G z_max
    min := PySem.W.mg_none_of X G z_min
    range := PySem.W.mg_none_of X G z_range
    repr := PySem.W.mg_none_of X G z_repr
    set := PySem.W.mg_none_of X G z_set
    sorted := PySem.W.mg_none_of X G z_sorted
    str := PySem.W.mg_none_of X G z_str
    tuple := PySem.W.mg_none_of X G z_tuple
    cMOST_POINTS := ⟨_, PySem.W.mg_of X G v_MOST_POINTS⟩
    cSIDE := ⟨_, PySem.W.mg_of X G v_SIDE⟩
    cJOIN := ⟨_, PySem.W.mg_of X G v_JOIN⟩ }
  exact ⟨_, fun s v => .of_eq rfl, fun base _ _ => ok_law T⟩

theorem walk {l : PySem.W.OpenLaw} {q : Program} {loose : List Str} {XP : (Str → Option Value) → Heap → Prop} {YP : World → Heap → Prop} {d : DefRec} {K : Params → PySem.W.Frag} (hn : l.most = some 63) (hdf : d.params.defaults = [])
    (hY : ∀ (w : World) (h : Heap), YP w h → (K w.params).In h)
    (F : ∀ (w : World) (mg : Str → Option Value) (fa : Addr) (h : Heap), (K w.params).In h → h.Ns mainGlobals mg → mg d.name = some (.ref fa) →
      ∃ fd : FuncData, (∀ (s : Shared) (u : Value), BindsTo s fd ⟨[u], []⟩ [("_law_script", u)]) ∧ ∀ base : Heap, (K w.params).In base → base.Ns mainGlobals mg → FnG l.prog w (K w.params) mg base 68 fa fd ["_law_script"] (spLaw (K w.params))) :
    PySem.W.WalkO q loose XP YP l.row.toRowW d [] (fun f vs => PySem.call f vs) :=
  walk_ofG (n := 63) (sp := spLaw) hn (by decide) hdf ⟨rfl, by decide, by decide⟩ hY F (fun _ _ a ns hl _ hS => ⟨a, ns, rfl, hS, hl, fun _ => rfl⟩)
end Jk
open PySem PySem.W PyProof.Rows
set_option maxRecDepth 100000 in
set_option maxHeartbeats 0 in
theorem PySem.Challenge.cw_joinside_k10_whole_crowds_and_colours_holds : PySem.Challenge.rw_joinside_k10_whole_crowds_and_colours.Holds := by
  w_on; o_law; k_head; (case hw => w_witness2)
  k_fill
  refine Jk.walk (l := PySem.Challenge.rw_joinside_k10_whole_crowds_and_colours) rfl rfl (fun w h Y => PySem.W.kIn_of Y) ?F
  case F =>
    intro w mg fa h KX G hmg
    refine' Jk.all_mk KX G hmg ?h_c_Join ?h_c_Point ?h_c_Side ?f_whole_within ?l_whole_within ?c_whole_within ?k_whole_within ?f_Point_init ?i_Point_init ?l_Point_init ?c_Point_init ?k_Point_init ?f_Point_told ?i_Point_told ?l_Point_told ?c_Point_told ?k_Point_told ?f_Point_points ?i_Point_points ?l_Point_points ?c_Point_points ?k_Point_points ?f_Point_tied ?i_Point_tied ?l_Point_tied ?c_Point_tied ?k_Point_tied ?f_Point_turned ?i_Point_turned ?l_Point_turned ?c_Point_turned ?k_Point_turned ?f_Side_init ?i_Side_init ?l_Side_init ?c_Side_init ?k_Side_init ?f_Side_told ?i_Side_told ?l_Side_told ?c_Side_told ?k_Side_told ?f_Side_points ?i_Side_points ?l_Side_points ?c_Side_points ?k_Side_points ?f_Side_tied ?i_Side_tied ?l_Side_tied ?c_Side_tied ?k_Side_tied ?f_Side_turned ?i_Side_turned ?l_Side_turned ?c_Side_turned ?k_Side_turned ?f_Join_init ?i_Join_init ?l_Join_init ?c_Join_init ?k_Join_init ?f_Join_told ?i_Join_told ?l_Join_told ?c_Join_told ?k_Join_told ?f_Join_points ?i_Join_points ?l_Join_points ?c_Join_points ?k_Join_points ?f_Join_tied ?i_Join_tied ?l_Join_tied ?c_Join_tied ?k_Join_tied ?f_Join_turned ?i_Join_turned ?l_Join_turned ?c_Join_turned ?k_Join_turned ?f_points_of ?l_points_of ?c_points_of ?k_points_of ?f_told_of ?l_told_of ?c_told_of ?k_told_of ?f_tied_among ?l_tied_among ?c_tied_among ?k_tied_among ?f_tree_by ?l_tree_by ?c_tree_by ?k_tree_by ?f_tree_under ?l_tree_under ?c_tree_under ?k_tree_under ?f_opened ?l_opened ?c_opened ?k_opened ?f_crowd ?l_crowd ?c_crowd ?k_crowd ?f_still ?l_still ?c_still ?k_still ?f_colours ?l_colours ?c_colours ?k_colours ?f_covers ?l_covers ?c_covers ?k_covers ?f_greatest_by ?l_greatest_by ?c_greatest_by ?k_greatest_by ?f_fewest_by ?l_fewest_by ?c_fewest_by ?k_fewest_by ?f_merged ?l_merged ?c_merged ?k_merged ?f_l_mixed ?l_l_mixed ?c_l_mixed ?k_l_mixed ?f_l_number ?l_l_number ?c_l_number ?k_l_number ?f_l_order ?l_l_order ?c_l_order ?k_l_order ?f_l_least ?l_l_least ?c_l_least ?k_l_least ?f_l_told ?l_l_told ?c_l_told ?k_l_told ?f_l_tree ?l_l_tree ?c_l_tree ?k_l_tree ?f_l_points ?l_l_points ?c_l_points ?k_l_points ?f_l_ties ?l_l_ties ?c_l_ties ?k_l_ties ?f_l_is_crowd ?l_l_is_crowd ?c_l_is_crowd ?k_l_is_crowd ?f_l_shaded ?l_l_shaded ?c_l_shaded ?k_l_shaded ?f_l_covered ?l_l_covered ?c_l_covered ?k_l_covered ?f_l_right ?l_l_right ?c_l_right ?k_l_right ?f_law ?l_law ?c_law ?k_law ?pg_Join ?hd_Join ?po_Join ?sa_Join ?mm_Join ?kc_Join ?n_Join__parts ?n_Join__points ?pg_Point ?hd_Point ?po_Point ?sa_Point ?mm_Point ?kc_Point ?n_Point__number ?pg_Side ?hd_Side ?po_Side ?sa_Side ?mm_Side ?kc_Side ?n_Side__parts ?n_Side__points ?z_NotImplementedError ?z_ValueError ?z_all ?z_bool ?z_dict ?z_enumerate ?z_int ?z_isinstance ?z_len ?z_list ?z_max ?z_min ?z_range ?z_repr ?z_set ?z_sorted ?z_str ?z_tuple ?v_MOST_POINTS ?v_SIDE ?v_JOIN
    (case h_c_Join => k_is)
    (case h_c_Point => k_is)
    (case h_c_Side => k_is)
    (case f_whole_within => k_is)
    (case l_whole_within => k_is)
    (case c_whole_within => k_is)
    (case k_whole_within => k_is)
    (case f_Point_init => k_is)
    (case i_Point_init => k_is)
    (case l_Point_init => k_is)
    (case c_Point_init => k_is)
    (case k_Point_init => k_is)
    (case f_Point_told => k_is)
    (case i_Point_told => k_is)
    (case l_Point_told => k_is)
    (case c_Point_told => k_is)
    (case k_Point_told => k_is)
    (case f_Point_points => k_is)
    (case i_Point_points => k_is)
    (case l_Point_points => k_is)
    (case c_Point_points => k_is)
    (case k_Point_points => k_is)
    (case f_Point_tied => k_is)
    (case i_Point_tied => k_is)
    (case l_Point_tied => k_is)
    (case c_Point_tied => k_is)
    (case k_Point_tied => k_is)
    (case f_Point_turned => k_is)
    (case i_Point_turned => k_is)
    (case l_Point_turned => k_is)
    (case c_Point_turned => k_is)
    (case k_Point_turned => k_is)
    (case f_Side_init => k_is)
    (case i_Side_init => k_is)
    (case l_Side_init => k_is)
    (case c_Side_init => k_is)
    (case k_Side_init => k_is)
    (case f_Side_told => k_is)
    (case i_Side_told => k_is)
    (case l_Side_told => k_is)
    (case c_Side_told => k_is)
    (case k_Side_told => k_is)
    (case f_Side_points => k_is)
    (case i_Side_points => k_is)
    (case l_Side_points => k_is)
    (case c_Side_points => k_is)
    (case k_Side_points => k_is)
    (case f_Side_tied => k_is)
    (case i_Side_tied => k_is)
    (case l_Side_tied => k_is)
    (case c_Side_tied => k_is)
    (case k_Side_tied => k_is)
    (case f_Side_turned => k_is)
    (case i_Side_turned => k_is)
    (case l_Side_turned => k_is)
    (case c_Side_turned => k_is)
    (case k_Side_turned => k_is)
    (case f_Join_init => k_is)
    (case i_Join_init => k_is)
    (case l_Join_init => k_is)
    (case c_Join_init => k_is)
    (case k_Join_init => k_is)
    (case f_Join_told => k_is)
    (case i_Join_told => k_is)
    (case l_Join_told => k_is)
    (case c_Join_told => k_is)
    (case k_Join_told => k_is)
    (case f_Join_points => k_is)
    (case i_Join_points => k_is)
    (case l_Join_points => k_is)
    (case c_Join_points => k_is)
    (case k_Join_points => k_is)
    (case f_Join_tied => k_is)
    (case i_Join_tied => k_is)
    (case l_Join_tied => k_is)
    (case c_Join_tied => k_is)
    (case k_Join_tied => k_is)
    (case f_Join_turned => k_is)
    (case i_Join_turned => k_is)
    (case l_Join_turned => k_is)
    (case c_Join_turned => k_is)
    (case k_Join_turned => k_is)
    (case f_points_of => k_is)
    (case l_points_of => k_is)
    (case c_points_of => k_is)
    (case k_points_of => k_is)
    (case f_told_of => k_is)
    (case l_told_of => k_is)
    (case c_told_of => k_is)
    (case k_told_of => k_is)
    (case f_tied_among => k_is)
    (case l_tied_among => k_is)
    (case c_tied_among => k_is)
    (case k_tied_among => k_is)
    (case f_tree_by => k_is)
    (case l_tree_by => k_is)
    (case c_tree_by => k_is)
    (case k_tree_by => k_is)
    (case f_tree_under => k_is)
    (case l_tree_under => k_is)
    (case c_tree_under => k_is)
    (case k_tree_under => k_is)
    (case f_opened => k_is)
    (case l_opened => k_is)
    (case c_opened => k_is)
    (case k_opened => k_is)
    (case f_crowd => k_is)
    (case l_crowd => k_is)
    (case c_crowd => k_is)
    (case k_crowd => k_is)
    (case f_still => k_is)
    (case l_still => k_is)
    (case c_still => k_is)
    (case k_still => k_is)
    (case f_colours => k_is)
    (case l_colours => k_is)
    (case c_colours => k_is)
    (case k_colours => k_is)
    (case f_covers => k_is)
    (case l_covers => k_is)
    (case c_covers => k_is)
    (case k_covers => k_is)
    (case f_greatest_by => k_is)
    (case l_greatest_by => k_is)
    (case c_greatest_by => k_is)
    (case k_greatest_by => k_is)
    (case f_fewest_by => k_is)
    (case l_fewest_by => k_is)
    (case c_fewest_by => k_is)
    (case k_fewest_by => k_is)
    (case f_merged => k_is)
    (case l_merged => k_is)
    (case c_merged => k_is)
    (case k_merged => k_is)
    (case f_l_mixed => k_is)
    (case l_l_mixed => k_is)
    (case c_l_mixed => k_is)
    (case k_l_mixed => k_is)
    (case f_l_number => k_is)
    (case l_l_number => k_is)
    (case c_l_number => k_is)
    (case k_l_number => k_is)
    (case f_l_order => k_is)
    (case l_l_order => k_is)
    (case c_l_order => k_is)
    (case k_l_order => k_is)
    (case f_l_least => k_is)
    (case l_l_least => k_is)
    (case c_l_least => k_is)
    (case k_l_least => k_is)
    (case f_l_told => k_is)
    (case l_l_told => k_is)
    (case c_l_told => k_is)
    (case k_l_told => k_is)
    (case f_l_tree => k_is)
    (case l_l_tree => k_is)
    (case c_l_tree => k_is)
    (case k_l_tree => k_is)
    (case f_l_points => k_is)
    (case l_l_points => k_is)
    (case c_l_points => k_is)
    (case k_l_points => k_is)
    (case f_l_ties => k_is)
    (case l_l_ties => k_is)
    (case c_l_ties => k_is)
    (case k_l_ties => k_is)
    (case f_l_is_crowd => k_is)
    (case l_l_is_crowd => k_is)
    (case c_l_is_crowd => k_is)
    (case k_l_is_crowd => k_is)
    (case f_l_shaded => k_is)
    (case l_l_shaded => k_is)
    (case c_l_shaded => k_is)
    (case k_l_shaded => k_is)
    (case f_l_covered => k_is)
    (case l_l_covered => k_is)
    (case c_l_covered => k_is)
    (case k_l_covered => k_is)
    (case f_l_right => k_is)
    (case l_l_right => k_is)
    (case c_l_right => k_is)
    (case k_l_right => k_is)
    (case f_law => k_is)
    (case l_law => k_is)
    (case c_law => k_is)
    (case k_law => k_is)
    (case pg_Join => k_is)
    (case hd_Join => k_is)
    (case po_Join => k_is)
    (case sa_Join => k_is)
    (case mm_Join => k_is)
    (case kc_Join => k_is)
    (case n_Join__parts => k_is)
    (case n_Join__points => k_is)
    (case pg_Point => k_is)
    (case hd_Point => k_is)
    (case po_Point => k_is)
    (case sa_Point => k_is)
    (case mm_Point => k_is)
    (case kc_Point => k_is)
    (case n_Point__number => k_is)
    (case pg_Side => k_is)
    (case hd_Side => k_is)
    (case po_Side => k_is)
    (case sa_Side => k_is)
    (case mm_Side => k_is)
    (case kc_Side => k_is)
    (case n_Side__parts => k_is)
    (case n_Side__points => k_is)
    (case z_NotImplementedError => k_is)
    (case z_ValueError => k_is)
    (case z_all => k_is)
    (case z_bool => k_is)
    (case z_dict => k_is)
    (case z_enumerate => k_is)
    (case z_int => k_is)
    (case z_isinstance => k_is)
    (case z_len => k_is)
    (case z_list => k_is)
    (case z_max => k_is)
    (case z_min => k_is)
    (case z_range => k_is)
    (case z_repr => k_is)
    (case z_set => k_is)
    (case z_sorted => k_is)
    (case z_str => k_is)
    (case z_tuple => k_is)
    (case v_MOST_POINTS => k_is)
    (case v_SIDE => k_is)
    (case v_JOIN => k_is)
