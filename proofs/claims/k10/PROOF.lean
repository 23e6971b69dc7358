import PyProof.Rows.All
import Wide.All
import OpenK.AllK
import Wide.FinOn
import HandS.ForMost
import HandS.IsInst
import HandS.Wide
import HandS.WideBits
import HandS.Style
import PyProof.ReprRoads
import PyProof.ReprLen
import PyProof.StrLawsRepr
import PyProof.FString3
import PyProof.Rows.StrIntSpec
import PyProof.Rows.StrCountLaw
import HandS.FStr
import HandS.Iter
import PyProof.CollectIter
import PyProof.Draws
import PyProof.EnumMake
import HandS.Star
import HandS.IterVal
import HandS.TupAny
import HandS.TupMul
import HandS.Dict
import HandS.Lambda
import HandS.EndTab
import HandS.TupSets
import PyProof.Rows.SetFrom
import HandS.ForExc
import HandS.RaiseMore
import HandS.MakeKwOnly
import HandS.ExcInit
import HandS.ExcField
import HandS.TryMany
import HandS.CallSlots
import PySem.Challenge.RW_flashtrees_k10_whole_power_gone_and_bad
set_option Elab.async false
set_option linter.all false
set_option maxRecDepth 100000
set_option maxHeartbeats 4000000
set_option exponentiation.threshold 4000
namespace Vc
open PySem PySem.Spec PyProof.Rows L2
/-! ### calls where the guards are told (repr of a list asks them) -/
structure FnG (P : Program) (w : World) (K : PySem.W.Frag) (mg : Str → Option Value) (base : Heap) (k : Nat) (f : Addr) (fd : FuncData) (ps : List Str) (sp : Sp) : Prop where
  len : ∀ vs H Q E, sp vs H Q E → vs.length = ps.length
  run : ∀ (A : Around) (outer : List Env) (s : Shared) (H : Hp) (args : Args) (us : List Value) (vs : List V) (Q : VK), A.guards = some [] → Room k A → Env0 P w K mg base A outer s H →
    BindsTo s fd args (ps.zip us) → Vals vs us → sp vs H Q E0 → codeAny (model P w) A (.call (.ref f) args) (CR CX0 outer P w H s Q E0) s
section
variable {X : Cx} {k : Nat} {f : Addr} {fd : FuncData} {ps ks : List Str} {sp : Sp} {dvs : List V} {ds : List Value} {x : Str} {p pos : Pos} {e : Expr} {es : List Expr} {t tk : TA} {kws : List Keyword}
  {g : List Value → List Value → List Value} {gV : List V → List V → List V}
theorem end_of {pins : List (Addr × Obj)} {σ : L2.St} {H : Hp} {s s' : Shared} {Q : VK} {r : Result} (I : Inv X pins σ H s) (h : CR CX0 X.stack X.prog X.w H s Q E0 r s') :
    match r with | .ok (.ret u) => EP X pins σ Q u s' | _ => False := by
  cases r with
  | error _ => exact (show False from h)
  | ok fl => cases fl with
    | ret _ => exact I.after h
    | next => exact (show False from h)
    | brk => exact (show False from h)
    | cont => exact (show False from h)
theorem runG {pins : List (Addr × Obj)} {σ : L2.St} {H : Hp} {s : Shared} {Q : VK} {us : List Value} {vs : List V} (F : FnG X.prog X.w X.K X.mg X.base k f fd ps sp) (hgd : X.A.guards = some []) (hr : Room k X.A) (hb : Binds X.K fd ps ds) (hd : Vals dvs ds)
    (I : Inv X pins σ H s) (r : Vals vs us) (h : sp (vs ++ dvs) H Q E0) : wpAny (model X.prog X.w) X.A (call (.ref f) us) (EP X pins σ Q) X.xe s := by
  have rr := r.append hd
  have hl : (us ++ ds).length = ps.length := rr.length.symm.trans (F.len _ _ _ _ h)
  refine wpAny_call (codeAny_mono (F.run _ _ _ _ _ _ _ _ hgd hr I.env0 (hb s us I.kIn hl) rr h) fun r s' hq => ?_)
  have z := end_of I hq
  cases r with
  | error _ => exact z.elim
  | ok fl => cases fl with
    | ret _ => exact z
    | next => exact z.elim
    | brk => exact z.elim
    | cont => exact z.elim
theorem pe_callG (F : FnG X.prog X.w X.K X.mg X.base k f fd ps sp) (hgd : X.A.guards = some []) (hr : Room k X.A) (hg : Gl X x) (hm : X.mg x = some (.ref f)) (hk : PySem.W.keepIn X.K (.ref f) = true) (hb : Binds X.K fd ps ds) (hd : Vals dvs ds)
    (ha : PA X (e :: es) t) (hdb : (x == ("__debug__" : Str)) = false := by decide) (he : starEach (e :: es) X.env = (false, eval e X.env) :: starEach es X.env := by rfl)
    (hpl : (backTo pos (starEach es X.env)).any (·.1) = false := by rfl) : PE X (.Call (.Name x p) (e :: es) [] pos) (tCall sp dvs E0 t) :=
  ⟨fun pins s σ H Q I h => wpAny_Call_Name_kw (ld_glob I hg hm (PySem.W.callWith_K (h₀ := X.base) I.ok.mod.kin hk (thn (ha.run pos pins s σ H _ I h)
    fun us s1 hh => by obtain ⟨vs, H1, I1, r, q⟩ := hh; exact ⟨I1.kIn, runG F hgd hr hb hd I1 r q⟩) he hpl) hdb)⟩
theorem pe_callG0 (F : FnG X.prog X.w X.K X.mg X.base k f fd ps sp) (hgd : X.A.guards = some []) (hr : Room k X.A) (hg : Gl X x) (hm : X.mg x = some (.ref f)) (hk : PySem.W.keepIn X.K (.ref f) = true) (hb : Binds X.K fd ps ds) (hd : Vals dvs ds)
    (hdb : (x == ("__debug__" : Str)) = false := by decide) : PE X (.Call (.Name x p) [] [] pos) (tCall sp dvs E0 tNil) :=
  ⟨fun pins s σ H Q I h => wpAny_Call_Name_kw (ld_glob I hg hm (PySem.W.callWith_K0 I.kIn hk (runG (us := []) F hgd hr hb hd I .nil h)) hdb)⟩
theorem runGk {pins : List (Addr × Obj)} {σ : L2.St} {H : Hp} {s : Shared} {Q : VK} {us ws : List Value} {vs zs : List V} (F : FnG X.prog X.w X.K X.mg X.base k f fd ps sp) (hgd : X.A.guards = some []) (hr : Room k X.A) (hb : KBinds X.K fd ps ks g gV)
    (I : Inv X pins σ H s) (r : Vals vs us) (rz : Vals zs ws) (h : sp (gV vs zs) H Q E0) : wpAny (model X.prog X.w) X.A (call (.ref f) us (ks.zip ws)) (EP X pins σ Q) X.xe s := by
  have rr := hb.rel r rz
  have hl : (g us ws).length = ps.length := rr.length.symm.trans (F.len _ _ _ _ h)
  refine wpAny_call (codeAny_mono (F.run _ _ _ _ _ _ _ _ hgd hr I.env0 (hb.to s us ws I.kIn hl) rr h) fun r s' hq => ?_)
  have z := end_of I hq
  cases r with
  | error _ => exact z.elim
  | ok fl => cases fl with
    | ret _ => exact z
    | next => exact z.elim
    | brk => exact z.elim
    | cont => exact z.elim
theorem pe_callGK (F : FnG X.prog X.w X.K X.mg X.base k f fd ps sp) (hgd : X.A.guards = some []) (hr : Room k X.A) (hg : Gl X x) (hm : X.mg x = some (.ref f)) (hk : PySem.W.keepIn X.K (.ref f) = true) (hb : KBinds X.K fd ps ks g gV)
    (ha : PA X (e :: es) t) (hkw : PK X kws tk) (hall : (backToKw pos (keywordEach kws X.env)).all (·.1.isSome) = true := by rfl) (hks : (backToKw pos (keywordEach kws X.env)).filterMap (·.1) = ks := by rfl)
    (hdb : (x == ("__debug__" : Str)) = false := by decide) (he : starEach (e :: es) X.env = (false, eval e X.env) :: starEach es X.env := by rfl)
    (hpl : ((backTo pos (starEach (e :: es) X.env)).any (·.1) || (backToKw pos (keywordEach kws X.env)).any (·.1.isNone)) = false := by rfl) : PE X (.Call (.Name x p) (e :: es) kws pos) (tCallK sp gV E0 t tk) :=
  ⟨fun pins s σ H Q I h => wpAny_Call_Name_kw (ld_glob I hg hm (PySem.W.callWith_KW (h₀ := X.base) I.ok.mod.kin hk hall (thn (ha.run pos pins s σ H _ I h)
    fun us s1 hh => by
      obtain ⟨vs, H1, I1, r, q⟩ := hh
      refine thn (hkw.run pos pins s1 σ H1 _ I1 q) fun ws s2 hz => ?_
      obtain ⟨zs, H2, I2, rz, q2⟩ := hz
      refine ⟨I2.kIn, ?_⟩
      rw [hks]
      exact runGk F hgd hr hb I2 r rz q2) hpl he) hdb)⟩
theorem pe_callGK0 (F : FnG X.prog X.w X.K X.mg X.base k f fd ps sp) (hgd : X.A.guards = some []) (hr : Room k X.A) (hg : Gl X x) (hm : X.mg x = some (.ref f)) (hk : PySem.W.keepIn X.K (.ref f) = true) (hb : KBinds X.K fd ps ks g gV)
    (hkw : PK X kws tk) (hall : (backToKw pos (keywordEach kws X.env)).all (·.1.isSome) = true := by rfl) (hks : (backToKw pos (keywordEach kws X.env)).filterMap (·.1) = ks := by rfl)
    (hdb : (x == ("__debug__" : Str)) = false := by decide)
    (hpl : ((backTo pos (starEach [] X.env)).any (·.1) || (backToKw pos (keywordEach kws X.env)).any (·.1.isNone)) = false := by rfl) : PE X (.Call (.Name x p) [] kws pos) (tCallK sp gV E0 tNil tk) :=
  ⟨fun pins s σ H Q I h => wpAny_Call_Name_kw (ld_glob I hg hm (PySem.W.callWith_KW0 (h₀ := X.base) I.ok.mod.kin hk hall (thn (hkw.run pos pins s σ H _ I h) fun ws s2 hz => by
      obtain ⟨zs, H2, I2, rz, q2⟩ := hz
      refine ⟨I2.kIn, ?_⟩
      rw [hks]
      exact runGk (us := []) F hgd hr hb I2 .nil rz q2) hpl) hdb)⟩
end
/-! ### a def's body, with the guards -/
section
variable {P : Program} {w : World} {K : PySem.W.Frag} {mg : Str → Option Value} {base : Heap}
theorem FnG.mono {j k : Nat} {f : Addr} {fd : FuncData} {ps : List Str} {sp : Sp} (F : FnG P w K mg base j f fd ps sp) (h : j ≤ k) : FnG P w K mg base k f fd ps sp :=
  ⟨F.len, fun A outer s H args us vs Q hgd hr => F.run A outer s H args us vs Q hgd (hr.mono h)⟩
theorem okG {x qual : Str} {st : Stmt} {f : Addr} {fd : FuncData} {N ps : List Str} {k : Nat} {sp : Sp} (F : Fun K x qual st f fd) (S : FnScope N ps (defScope st)) (len : ∀ vs H Q E, sp vs H Q E → vs.length = ps.length)
    (hbody : ∀ (cdv : Value) (A : Around) (outer : List Env) (s : Shared) (H : Hp) (vs : List V) (Q : VK), (A.deeper (envOfC qual (defScope st) s.heap.objs.size f cdv)).guards = some [] → Room k (A.deeper (envOfC qual (defScope st) s.heap.objs.size f cdv)) → sp vs H Q E0 →
      ∃ t, PSs (cxOf CX0 P w K mg base N qual (defScope st) f cdv A outer s H E0).nox (defBody st) t ∧ t { nx := fun _ H' => Q .non H', rt := Q } (start N vs) H) : FnG P w K mg base (k + 1) f fd ps sp := by
  obtain ⟨oc, od, kV, doc, pm, an, cdv, ct, osl, rfl, lk, hcd⟩ := F.ex
  refine ⟨len, fun A outer s H args us vs Q hgd hr e0 hb r hsp => ?_⟩
  have lim := e0.mod.nolimit.keeps fun b o e => (e0.bs b o e).1
  have kin : K.In s.heap := e0.mod.kin.keeps fun b o e => (e0.bs b o e).1
  refine codeAny_call_function hr.depth (kin _ _ lk) rfl S.co S.gen rfl (PySem.W.codeRec_of kin hcd) (hb _ _ _ _ ?_)
  refine wpAny_newFunctionEnv_cells S.kind (fun y hy => ?_) fun env he s1 xx => ?_
  · rcases S.par y.1 (List.of_mem_zip hy).1 with z | z
    · exact Or.inl z
    · exact Or.inr ⟨z, PySem.W.cellsFrom_some _ _ _ (Or.inl z)⟩
  · subst he
    refine ⟨lim.keeps xx.toInCall.keep, codeAny_func ?_⟩
    obtain ⟨t, ht0, hq⟩ := hbody cdv A outer s H vs Q hgd (hr.deeper _) hsp
    have ht := ht0.nox
    have I := inv_start (CX := CX0) (E := E0) (w := w) (P := P) S hr.hd e0 (len _ _ _ _ hsp) r xx
    refine wpAny_mono (ht.run [] s1 (start N vs) H _ I hq) (fun fl s' hs => ?_) fun e s' hs => hs
    cases fl with
    | ret u => obtain ⟨v, σ', H', J, rv, q⟩ := hs; exact ⟨v, H', J.os, J.bare, J.base, J.hok, rv, q⟩
    | next => obtain ⟨σ', H', J, q⟩ := hs; exact ⟨V.non, H', J.os, J.bare, J.base, J.hok, rfl, q⟩
    | brk => obtain ⟨_, _, _, q⟩ := hs; exact q.elim
    | cont => obtain ⟨_, _, _, q⟩ := hs; exact q.elim
end
/-! ### the end of a law -/
section
variable {P : Program} {w : World} {K : PySem.W.Frag} {mg mb : Str → Option Value} {k : Nat} {fa a : Addr} {fd : FuncData} {x : Str} {sp : Sp} {s : Shared} {vs : List Value} {ns : List Int}
theorem fromTop (H : Hp) (hA : ∀ b o, H b = some o → b = a) (hK : ∀ o, H a = some o → K.lookup a = none) (hO : ∀ b o, H b = some o → ∃ ob xs, o = .frz ob (.lst xs)) (hS : SqL K H a (ns.map V.int)) (hok : HOk P w H s.heap)
    (kin : K.In s.heap) (hns : s.heap.Ns mainGlobals mg) (hb : s.heap.Ns builtinsNs mb) (hbb : ∀ y : Str, y ≠ "__name__" → mb y = bootBuiltins y) (lim : s.heap.NoLimit) (hg : s.gens = #[])
    (ha : s.heap.get? a = some { cls := .type "list", data := .seq vs.toArray }) (hi : IntsAre vs ns) (hr : Room k callerA)
    (F : ∀ base : Heap, K.In base → base.Ns mainGlobals mg → FnG P w K mg base k fa fd [x] sp) (hbind : ∀ (s : Shared) (u : Value), BindsTo s fd ⟨[u], []⟩ [(x, u)]) (hsp : sp [.ref a] H (fun v _ => v = .bl true) E0) :
    codeAny (model P w) callerA (.call (.ref fa) ⟨[.ref a], []⟩) (fun r s' => r = .ok (.ret (.bool true)) ∧ OldK s.heap s'.heap ∧ s'.os = s.os ∧ AllBare s'.gens) s := by
  have free : ∀ {b : Addr} {o : Obj}, s.heap.get? b = some o → (b = a → H a = none) → H b = none := fun {b o} e q => by
    cases z : H b with
    | none => rfl
    | some u =>
      have eb := hA b u z
      subst eb
      rw [q rfl] at z
      cases z
  have dict : ∀ {b : Addr} {m : Str → Option Value}, s.heap.Ns b m → (hidT s.heap H).Ns b m := fun {b m} z => by
    obtain ⟨o, es, ep, e, d, r⟩ := z
    refine ⟨o, es, ep, hidT_get e (free e fun eb => ?_), d, r⟩
    subst eb
    rw [ha] at e
    cases e
    cases (show Data.seq vs.toArray _ = Data.dict es ep from d)
  have kin' : K.In (hidT s.heap H) := fun b o e => hidT_get (kin b o e) (free (kin b o e) fun eb => by
    subst eb
    cases z : H b with
    | none => rfl
    | some u =>
      rw [hK u z] at e
      cases e)
  obtain ⟨mc, c1, c2⟩ := lim
  have md : Mod K mg (hidT s.heap H) := ⟨kin', dict hns, ⟨mb, dict hb, hbb⟩, mc, dict c1, c2⟩
  have nil : ∀ b : Addr, b ∉ ([] : List Addr) := fun _ z => nomatch z
  have e0 : Env0 P w K mg (hidT s.heap H) callerA [] s H := ⟨rfl, md, fun _ _ e => of_hidT e, Nat.le_of_eq (hidT_size _ _), trivial, fun b z => (nil b z).elim, hok, .of_eq hg⟩
  have main := (F _ kin' (dict hns)).run callerA [] s H ⟨[.ref a], []⟩ [.ref a] [.ref a] (fun v _ => v = .bl true) rfl hr e0 (hbind s _) (.cons rfl .nil) hsp
  refine codeAny_mono main fun r s' h => ?_
  cases r with
  | error _ => exact (show False from h).elim
  | ok fl => cases fl with
    | next => exact (show False from h).elim
    | brk => exact (show False from h).elim
    | cont => exact (show False from h).elim
    | ret u =>
      obtain ⟨v, H', os, bare, un, hok', rv, q⟩ := (show CE [] P w H s (fun v _ => v = .bl true) u s' from h)
      subst q
      have eu : u = Value.bool true := rv
      subst eu
      refine ⟨rfl, OldK.of_keep fun b o e => ?_, os, bare⟩
      cases q : H b with
      | none => exact un.keep b o e q (nil b) (nil b)
      | some t =>
        obtain ⟨ob, xs, z⟩ := hO b t q
        subst z
        have e1 := (hok b _ q).1
        rw [e] at e1
        cases e1
        exact (hok' b _ (un.frzs b _ _ q)).1
theorem walkG {l : PySem.W.OpenLaw} {n : Nat} {q : Program} {loose : List Str} {XP : (Str → Option Value) → Heap → Prop} {YP : World → Heap → Prop} {d : DefRec} {KK : Params → PySem.W.Frag} {sp : PySem.W.Frag → Sp}
    (hn : l.most = some n) (hn2 : n ≤ sizeLine) (hdf : d.params.defaults = []) (hr : Room k callerA) (hY : ∀ (w : World) (h : Heap), YP w h → (KK w.params).In h)
    (F : ∀ (w : World) (mg : Str → Option Value) (fa : Addr) (h : Heap), (KK w.params).In h → h.Ns mainGlobals mg → mg d.name = some (.ref fa) →
      ∃ fd : FuncData, (∀ (s : Shared) (u : Value), BindsTo s fd ⟨[u], []⟩ [(x, u)]) ∧ ∀ base : Heap, (KK w.params).In base → base.Ns mainGlobals mg → FnG l.prog w (KK w.params) mg base k fa fd [x] (sp (KK w.params)))
    (hsp : ∀ (K : PySem.W.Frag) (H : Hp) (a : Addr) (ns : List Int), ns.length ≤ n → SqL K H a (ns.map V.int) → (∀ b o, H b = some o → ∃ ob xs, o = .frz ob (.lst xs)) → sp K [.ref a] H (fun v _ => v = .bl true) E0) :
    PySem.W.WalkO q loose XP YP l.row.toRowW d [] (fun f vs => PySem.call f vs) :=
  Att.attach_call hn hdf fun w s0 s mg mb fa o pm cd doc a vs ns G Y ho hd hcd hmg hobj hints hlen hg => by
    have kin := hY w _ Y
    obtain ⟨fd, hb, hF⟩ := F w mg fa _ kin G.T.g hmg
    have hl : vs.length ≤ sizeLine := Nat.le_trans (Nat.le_of_eq hints.length) (Nat.le_trans hlen hn2)
    cases hk : (KK w.params).lookup a with
    | some ob =>
      have e := kin a ob hk
      rw [hobj] at e
      cases e
      have S : SqL (KK w.params) (fun _ => none) a (ns.map V.int) := Or.inr ⟨_, vs.toArray, _, hk, rfl, rfl, rfl, by rw [List.size_toArray]; exact hl, by simpa using vals_ints hints⟩
      exact fromTop (fun _ => none) (fun _ _ z => nomatch z) (fun _ z => nomatch z) (fun _ _ z => nomatch z) S (fun _ _ z => nomatch z) kin G.T.g G.T.b G.T.builtins G.T.nolimit hg hobj hints hr hF hb (hsp _ _ _ _ hlen S fun _ _ z => nomatch z)
    | none =>
      have one : ∀ (b : Addr) (u : HO), (if b = a then some (HO.frz { cls := .type "list", data := .seq vs.toArray } (.lst (ns.map V.int))) else none) = some u → b = a ∧ u = HO.frz { cls := .type "list", data := .seq vs.toArray } (.lst (ns.map V.int)) := fun b u z => by
        by_cases eb : b = a
        · rw [if_pos eb] at z
          exact ⟨eb, (Option.some.inj z).symm⟩
        · rw [if_neg eb] at z
          cases z
      have S : SqL (KK w.params) (fun b => if b = a then some (HO.frz { cls := .type "list", data := .seq vs.toArray } (.lst (ns.map V.int))) else none) a (ns.map V.int) := Or.inl (Or.inr ⟨_, if_pos rfl⟩)
      have O : ∀ b o, (fun b => if b = a then some (HO.frz { cls := .type "list", data := .seq vs.toArray } (.lst (ns.map V.int))) else none) b = some o → ∃ ob xs, o = .frz ob (.lst xs) := fun b o z => ⟨_, _, (one b o z).2⟩
      refine fromTop _ (fun b o z => (one b o z).1) (fun _ _ => hk) O S (fun b u z => ?_) kin G.T.g G.T.b G.T.builtins G.T.nolimit hg hobj hints hr hF hb (hsp _ _ _ _ hlen S O)
      obtain ⟨eb, eu⟩ := one b u z
      subst eb
      subst eu
      exact ⟨hobj, by rw [List.length_map, ← hints.length]; exact hl, vs, _, vals_ints hints, hobj⟩
end
end Vc
namespace Vc
open PySem PySem.Spec PyProof.Rows L2
/-! ### repr of data -/
mutual
def nsz : PyData → Nat
  | .none => 1
  | .bool _ => 1
  | .int _ => 1
  | .str x => x.length + 1
  | .list ds => nszs ds + 1
  | .tuple ds => nszs ds + 1
  | .dict _ => 100000
def nszs : List PyData → Nat
  | [] => 0
  | d :: ds => nsz d + nszs ds
end
mutual
/-- what repr writes without more ado -/
def shb : PyData → Bool
  | .none => true
  | .bool _ => true
  | .int i => decide (i.natAbs.log2 < 1920)
  | .str x => x.cps.toList.all fun c => decide (c < 16 ^ 8)
  | .list ds => shbs ds
  | .tuple ds => shbs ds
  | .dict _ => false
def shbs : List PyData → Bool
  | [] => true
  | d :: ds => shb d && shbs ds
end
mutual
theorem shb_show : ∀ d : PyData, shb d = true → d.showable = true ∧ d.hasDict = false
  | .none, _ => ⟨rfl, by simp only [PyData.hasDict]⟩
  | .bool _, _ => ⟨rfl, by simp only [PyData.hasDict]⟩
  | .int i, h => ⟨by simpa only [PyData.showable, shb] using h, by simp only [PyData.hasDict]⟩
  | .str _, _ => ⟨rfl, by simp only [PyData.hasDict]⟩
  | .list ds, h => by
    have := shbs_show ds (by simpa only [shb] using h)
    exact ⟨by simpa only [PyData.showable] using this.1, by simpa only [PyData.hasDict] using this.2⟩
  | .tuple ds, h => by
    have := shbs_show ds (by simpa only [shb] using h)
    exact ⟨by simpa only [PyData.showable] using this.1, by simpa only [PyData.hasDict] using this.2⟩
  | .dict _, h => by simp [shb] at h
theorem shbs_show : ∀ ds : List PyData, shbs ds = true → PyData.showableAll ds = true ∧ PyData.hasDictAll ds = false
  | [], _ => ⟨rfl, by simp only [PyData.hasDictAll]⟩
  | d :: ds, h => by
    have h' : shb d = true ∧ shbs ds = true := by simpa only [shbs, Bool.and_eq_true] using h
    have a := shb_show d h'.1
    have b := shbs_show ds h'.2
    exact ⟨by simp only [PyData.showableAll, a.1, b.1, Bool.and_self], by simp only [PyData.hasDictAll, a.2, b.2, Bool.or_self]⟩
end
mutual
theorem shown_nsz : ∀ d : PyData, shb d = true → d.shown.length + 6 ≤ 1940 * nsz d
  | .none, _ => by
    have e : (PyData.shown .none).length = 4 := rfl
    simp only [nsz]
    omega
  | .bool b, _ => by
    have e : (PyData.shown (.bool b)).length ≤ 5 := by cases b <;> decide
    simp only [nsz]
    omega
  | .int i, h => by
    have e : (PyData.shown (.int i)).length ≤ 1921 := int_text_len_1921 (by simpa only [shb, decide_eq_true_eq] using h)
    simp only [nsz]
    omega
  | .str x, h => by
    have e := PySem.StrLaws.reprText_len x (by simpa only [shb, List.all_eq_true, decide_eq_true_eq] using h)
    simp only [PyData.shown, nsz]
    omega
  | .list ds, h => by
    have a := shown_nszs ds (by simpa only [shb] using h)
    have b := listText_len_le (PyData.shownAll ds)
    simp only [PyData.shown, nsz]
    omega
  | .tuple ds, h => by
    have a := shown_nszs ds (by simpa only [shb] using h)
    have b := tupleText_len_le (PyData.shownAll ds)
    simp only [PyData.shown, nsz]
    omega
  | .dict _, h => by simp [shb] at h
theorem shown_nszs : ∀ ds : List PyData, shbs ds = true → ((PyData.shownAll ds).map (·.length)).sum + 2 * (PyData.shownAll ds).length ≤ 1940 * nszs ds
  | [], _ => by simp [PyData.shownAll, nszs]
  | d :: ds, h => by
    have h' : shb d = true ∧ shbs ds = true := by simpa only [shbs, Bool.and_eq_true] using h
    have a := shown_nsz d h'.1
    have b := shown_nszs ds h'.2
    simp only [PyData.shownAll, nszs, List.map_cons, List.sum_cons, List.length_cons]
    omega
end
/-- data that repr writes: small, not deep -/
def Shw (d : PyData) : Prop := shb d = true ∧ nsz d ≤ 8000 ∧ d.depth ≤ 60
def rRepr (K : PySem.W.Frag) : List V → Hp → VK → Prop := fun xs H Q => ∃ x d, xs = [x] ∧ Dp K H x d ∧ Shw d ∧ Q (.str d.shown) H
section
variable {X : Cx}
theorem cr_repr (hgd : X.A.guards = some []) (hu : X.A.units + 64 < cLine) : CallR X (.builtin "repr") (rRepr X.K) := by
  intro pins s σ H xs us Q I r h
  obtain ⟨x, d, rfl, hd, ⟨h1, h2, h3⟩, q⟩ := h
  obtain ⟨u, rfl, rx⟩ := vals1 r
  have fit : d.shown.length ≤ sizeLine := by
    have a := shown_nsz d h1
    rw [sizeLine_eq]
    omega
  have key : ∀ (b : Addr), u = .ref b → wpAny (model X.prog X.w) X.A (call (.builtin "repr") [u]) (EP X pins σ Q) X.xe s := fun b e => by
    subst e
    obtain ⟨as, r1⟩ := Dp.reads I d x _ hd rx
    have sh := shb_show d h1
    exact repr_of_reads' r1 sh.1 (PyData.noDict_hsm sh.2) hgd (by omega) (fun _ _ e => e) (fun h' u tk hk => ⟨V.str _, H, I.kept hk, ⟨_, rfl⟩, q⟩) fit
  cases hd with
  | non => cases rx; exact PySem.P.repr_of_none ⟨V.str _, H, I.tok _, ⟨_, rfl⟩, q⟩
  | bl b => cases rx; exact PySem.P.repr_of_bool ⟨V.str _, H, I.tok _, ⟨_, rfl⟩, q⟩
  | int i =>
    obtain ⟨t, rfl⟩ := rx
    exact PySem.P.repr_of_int (by simpa only [shb, decide_eq_true_eq] using h1) ⟨V.str _, H, I.tok _, ⟨_, rfl⟩, q⟩
  | str y =>
    obtain ⟨t, rfl⟩ := rx
    exact PySem.P.repr_of_str ⟨V.str _, H, I.tok _, ⟨_, rfl⟩, q⟩ fit
  | lst hs ha => exact key _ rx
  | tup hs ha => exact key _ rx
end
/-! ### which data are so -/
theorem shw_int {i : Int} (h : i.natAbs < 2 ^ 1920) : shb (.int i) = true := by
  simp only [shb, decide_eq_true_eq]
  by_cases z : i.natAbs = 0
  · rw [z]; decide
  · exact (Nat.log2_lt z).mpr h
theorem shbs_all : ∀ {ds : List PyData}, (∀ d ∈ ds, shb d = true) → shbs ds = true
  | [], _ => rfl
  | d :: ds, h => by
    simp only [shbs, h d List.mem_cons_self, shbs_all fun e he => h e (List.mem_cons_of_mem _ he), Bool.and_self]
theorem nszs_all {n : Nat} : ∀ {ds : List PyData}, (∀ d ∈ ds, nsz d ≤ n) → nszs ds ≤ n * ds.length
  | [], _ => by simp [nszs]
  | d :: ds, h => by
    have a := h d List.mem_cons_self
    have b := nszs_all (n := n) fun e he => h e (List.mem_cons_of_mem _ he)
    simp only [nszs, List.length_cons, Nat.mul_add, Nat.mul_one]
    omega
theorem depth_all {n : Nat} : ∀ {ds : List PyData}, (∀ d ∈ ds, d.depth ≤ n) → PyData.depthAll ds ≤ n
  | [], _ => by simp [PyData.depthAll]
  | d :: ds, h => by
    have a := h d List.mem_cons_self
    have b := depth_all (n := n) fun e he => h e (List.mem_cons_of_mem _ he)
    simp only [PyData.depthAll]
    omega
/-- a leaf: none, a bool, an int of at most 1920 bits, a short text -/
def Leaf (d : PyData) : Prop := shb d = true ∧ nsz d ≤ 20 ∧ d.depth = 0
theorem leaf_int {i : Int} (h : i.natAbs < 2 ^ 1920) : Leaf (.int i) := ⟨shw_int h, by simp [nsz], rfl⟩
theorem leaf_bool (b : Bool) : Leaf (.bool b) := ⟨rfl, by simp [nsz], rfl⟩
theorem leaf_none : Leaf .none := ⟨rfl, by simp [nsz], rfl⟩
theorem Leaf.shw {d : PyData} (h : Leaf d) : Shw d := ⟨h.1, by have := h.2.1; omega, by rw [h.2.2]; omega⟩
theorem shw_list {ds : List PyData} (h : ∀ d ∈ ds, Leaf d) (hl : ds.length ≤ 390) : Shw (.list ds) := by
  have a := nszs_all (n := 20) fun d hd => (h d hd).2.1
  have b := depth_all (n := 0) fun d hd => Nat.le_of_eq (h d hd).2.2
  exact ⟨by simpa only [shb] using shbs_all fun d hd => (h d hd).1, by simp only [nsz]; omega, by simp only [PyData.depth]; omega⟩
theorem shw_tuple {ds : List PyData} (h : ∀ d ∈ ds, Leaf d) (hl : ds.length ≤ 390) : Shw (.tuple ds) := by
  have a := nszs_all (n := 20) fun d hd => (h d hd).2.1
  have b := depth_all (n := 0) fun d hd => Nat.le_of_eq (h d hd).2.2
  exact ⟨by simpa only [shb] using shbs_all fun d hd => (h d hd).1, by simp only [nsz]; omega, by simp only [PyData.depth]; omega⟩
end Vc
namespace Vc
open PySem PySem.Spec PyProof.Rows L2
/-! ### readings, step by step -/
/-- a new tuple, a new list -/
def NewT (xs : List V) (H : Hp) (Q : VK) : Prop := xs.length ≤ sizeLine ∧ ∀ p, H p = none → Q (.ref p) (upd H p (.tup xs))
def NewL (xs : List V) (H : Hp) (Q : VK) : Prop := xs.length ≤ sizeLine ∧ ∀ p, H p = none → Q (.ref p) (upd H p (.lst xs))
section
variable {σ τ : L2.St} {H : Hp} {Q : VK} {QT : Bool → Hp → Prop} {QA : List V → Hp → Prop} {D : Ends} {ta tb tc te : TE} {t u : TT} {ts us : TS} {tA tr : TA} {v x y : V} {i j : Int} {n : Nat} {r r' : R2} {g : TG} {gs : TGs} {K : PySem.W.Frag}
theorem v_seq (h : ts { D with nx := us D } σ H) : tSeq ts us D σ H := h
theorem v_next (h : D.nx σ H) : tNext D σ H := h
theorem v_asg (h : te σ H fun x H1 => g x σ H1 D.nx) : tAsg te g D σ H := h
theorem v_name {Q : L2.St → Hp → Prop} (h : Q (σ.set n (some v)) H) : gName n v σ H Q := h
theorem v_var (e : σ[n]? = some (some v)) (h : Q v H) : tVar n σ H Q := ⟨v, e, h⟩
theorem v_c (h : Q v H) : tC v σ H Q := h
theorem v_op (h : ta σ H fun x H1 => tb σ H1 fun y H2 => r x y H2 Q) : tOp r ta tb σ H Q := h
theorem v_un {r : V → Hp → VK → Prop} (h : ta σ H fun x H1 => r x H1 Q) : tUn r ta σ H Q := h
theorem v_I0 {g : Int → Int → V} (h : Q (g i j) H) : rI0 g (.int i) (.int j) H Q := ⟨i, j, rfl, rfl, h⟩
theorem v_I {C : Int → Int → Prop} {g : Int → Int → V} (c : C i j) (h : Q (g i j) H) : rI C g (.int i) (.int j) H Q := ⟨i, j, rfl, rfl, c, h⟩
theorem v_U {g : Int → V} (h : Q (g i) H) : rU g (.int i) H Q := ⟨i, rfl, h⟩
theorem v_eqI (h : Q (.bl (decide (i = j))) H) : rEq (.int i) (.int j) H Q := ⟨rfl, by rw [show decide ((V.int i) = (V.int j)) = decide (i = j) by simp]; exact h⟩
theorem v_neI (h : Q (.bl (decide (i ≠ j))) H) : rNe (.int i) (.int j) H Q := ⟨rfl, by rw [show (!decide ((V.int i) = (V.int j))) = decide (i ≠ j) by simp]; exact h⟩
theorem v_eqS {a b : Str} (h : Q (.bl (decide (a = b))) H) : rEq (.str a) (.str b) H Q := ⟨rfl, by rw [show decide ((V.str a) = (V.str b)) = decide (a = b) by simp]; exact h⟩
theorem v_neS {a b : Str} (h : Q (.bl (decide (a ≠ b))) H) : rNe (.str a) (.str b) H Q := ⟨rfl, by rw [show (!decide ((V.str a) = (V.str b))) = decide (a ≠ b) by simp]; exact h⟩
/-- the same text twice -/
theorem v_neS0 {a : Str} (h : Q (.bl false) H) : rNe (.str a) (.str a) H Q := ⟨rfl, by simpa using h⟩
theorem v_eqS0 {a : Str} (h : Q (.bl true) H) : rEq (.str a) (.str a) H Q := ⟨rfl, by simpa using h⟩
theorem v_ret (h : te σ H D.rt) : tRet te D σ H := h
theorem v_retN (h : D.rt .non H) : tRetN D σ H := h
theorem v_drop (h : te σ H fun _ H1 => D.nx σ H1) : tDrop te D σ H := h
theorem v_if (h : t σ H fun b H1 => if b = true then ts D σ H1 else us D σ H1) : tIfS t ts us D σ H := h
theorem v_ifE (h : t σ H fun c H1 => if c = true then ta σ H1 Q else tb σ H1 Q) : tIf t ta tb σ H Q := h
theorem v_test (h : te σ H fun x H1 => ∃ k, x = .bl k ∧ QT k H1) : tTest te σ H QT := h
theorem v_B (h : te σ H fun x H1 => ∃ c, x = .bl c ∧ QT c H1) : tB te σ H QT := h
theorem v_bl {b : Bool} {P : Bool → Prop} (h : P b) : ∃ k, (V.bl b) = .bl k ∧ P k := ⟨b, rfl, h⟩
theorem v_and (h : t σ H fun c H1 => if c = true then u σ H1 QT else QT false H1) : tAnd t u σ H QT := h
theorem v_or (h : t σ H fun c H1 => if c = true then QT true H1 else u σ H1 QT) : tOr t u σ H QT := h
theorem v_not (h : t σ H fun c H1 => QT (!c) H1) : tNot t σ H QT := h
theorem v_andV (h : ta σ H fun x H1 => ∃ c, x = .bl c ∧ if c = true then tb σ H1 Q else Q (.bl false) H1) : tAndV ta tb σ H Q := h
theorem v_orV (h : ta σ H fun x H1 => ∃ c, x = .bl c ∧ if c = true then Q (.bl true) H1 else tb σ H1 Q) : tOrV ta tb σ H Q := h
theorem v_notV (h : ta σ H fun x H1 => ∃ c, x = .bl c ∧ Q (.bl (!c)) H1) : tNotV ta σ H Q := h
theorem v_chain (h : ta σ H fun x H1 => tb σ H1 fun y H2 => r x y H2 fun z H3 => ∃ k, z = .bl k ∧ (if k = true then tc σ H3 fun w' H4 => r' y w' H4 Q else Q (.bl false) H3)) : tChain r r' ta tb tc σ H Q := h
theorem v_nil (h : QA [] H) : tNil σ H QA := h
theorem v_cons (h : ta σ H fun x H1 => tr σ H1 fun xs H2 => QA (x :: xs) H2) : tCons ta tr σ H QA := h
theorem v_call {sp : Sp} {dvs : List V} {E : XK} (h : tA σ H fun vs H1 => sp (vs ++ dvs) H1 Q E) : tCall sp dvs E tA σ H Q := h
theorem v_callK {sp : Sp} {gV : List V → List V → List V} {E : XK} {tk : TA} (h : tA σ H fun vs H1 => tk σ H1 fun zs H2 => sp (gV vs zs) H2 Q E) : tCallK sp gV E tA tk σ H Q := h
theorem v_cb {r : List V → Hp → VK → Prop} (h : tA σ H fun vs H1 => r vs H1 Q) : tCB r tA σ H Q := h
theorem v_par {a b : Nat} (h : tA σ H fun vs H1 => ∃ v w, vs = [v, w] ∧ D.nx ((σ.set a (some v)).set b (some w)) H1) : tPar a b tA D σ H := h
theorem v_par3 {a b c : Nat} (h : tA σ H fun vs H1 => ∃ u v w, vs = [u, v, w] ∧ D.nx (((σ.set a (some u)).set b (some v)).set c (some w)) H1) : tPar3 a b c tA D σ H := h
theorem v_two {P : V → V → Prop} (h : P x y) : ∃ v w, [x, y] = [v, w] ∧ P v w := ⟨x, y, rfl, h⟩
theorem v_three {P : V → V → V → Prop} (h : P v x y) : ∃ u w z, [v, x, y] = [u, w, z] ∧ P u w z := ⟨v, x, y, rfl, h⟩
theorem v_tup (h : tA σ H fun xs H1 => NewT xs H1 Q) : tTup tA σ H Q := h
theorem v_lst (h : tA σ H fun xs H1 => NewL xs H1 Q) : tLst tA σ H Q := h
theorem n_tup {xs : List V} (hl : xs.length ≤ 1000) (h : ∀ p, H p = none → Q (.ref p) (upd H p (.tup xs))) : NewT xs H Q := ⟨Nat.le_trans hl (by decide), h⟩
theorem n_lst {xs : List V} (hl : xs.length ≤ 1000) (h : ∀ p, H p = none → Q (.ref p) (upd H p (.lst xs))) : NewL xs H Q := ⟨Nat.le_trans hl (by decide), h⟩
theorem v_isN (h : Q (.bl (decide (x = .non))) H) : (fun (x y : V) (H : Hp) (Q : VK) => y = .non ∧ Q (.bl (decide (x = .non))) H) x .non H Q := ⟨rfl, h⟩
theorem v_if0 {A B : Prop} (h : B) : if false = true then A else B := by simpa using h
theorem v_if1 {A B : Prop} (h : A) : if true = true then A else B := by simpa using h
theorem v_ifd {c : Prop} [Decidable c] {A B : Prop} (h1 : c → A) (h2 : ¬ c → B) : if decide c = true then A else B := by
  by_cases h : c
  · simpa [h] using h1 h
  · simpa [h] using h2 h
theorem v_ifb {b : Bool} {A B : Prop} (h1 : b = true → A) (h2 : b = false → B) : if b = true then A else B := by
  cases b
  · simpa using h2 rfl
  · simpa using h1 rfl
theorem v_ifn {b : Bool} {A B : Prop} (h : if b = true then B else A) : if (!b) = true then A else B := by
  cases b
  · simpa using h
  · simpa using h
theorem v_gsub {to ti : TE} {t : TSet} {Q : L2.St → Hp → Prop} (h : to σ H fun o H1 => ti σ H1 fun i H2 => t o i v H2 fun H3 => Q σ H3) : gSub to ti t v σ H Q := h
theorem v_gnil {Q : L2.St → Hp → Prop} (h : Q σ H) : gNil [] σ H Q := ⟨rfl, h⟩
theorem v_gcons {Q : L2.St → Hp → Prop} {vs : List V} (h : g v σ H fun σ' H' => gs vs σ' H' Q) : gCons g gs (v :: vs) σ H Q := ⟨v, vs, rfl, h⟩
theorem v_gtup {Q : L2.St → Hp → Prop} {a : Addr} {xs : List V} (h : SqT K H a xs) (hl : xs.length = n) (q : gs xs σ H Q) : gTup K n gs (.ref a) σ H Q := ⟨a, xs, rfl, h, hl, q⟩
theorem v_setL {p : Addr} {xs : List V} {k : Int} {m : Nat} {Q : Hp → Prop} (h : H p = some (.lst xs)) (hk : ixN xs.length k = some m) (q : Q (upd H p (.lst (xs.set m v)))) : rSetL (.ref p) (.int k) v H Q := ⟨p, xs, k, m, rfl, rfl, h, hk, q⟩
theorem v_ixL {p : Addr} {xs : List V} (h : SqL K H p xs) (ha : atI xs i = some v) (q : Q v H) : rIxL K (.ref p) (.int i) H Q := ⟨p, xs, i, v, rfl, rfl, h, ha, q⟩
theorem v_ixT {p : Addr} {xs : List V} (h : SqT K H p xs) (ha : atI xs i = some v) (q : Q v H) : rIxT K (.ref p) (.int i) H Q := ⟨p, xs, i, v, rfl, rfl, h, ha, q⟩
theorem v_isInt (h : Q (.bl true) H) : rIsi K [.int i, .ty "int"] H Q := ⟨_, _, _, _, true, rfl, .ty _, .base (.int i), kit_ty (by decide +kernel), h⟩
theorem v_isBool (h : Q (.bl false) H) : rIsi K [.int i, .ty "bool"] H Q := ⟨_, _, _, _, false, rfl, .ty _, .base (.int i), kit_ty (by decide +kernel), h⟩
theorem v_repr {d : PyData} (hd : Dp K H x d) (hs : Shw d) (q : Q (.str d.shown) H) : rRepr K [x] H Q := ⟨x, d, rfl, hd, hs, q⟩
theorem v_append {l : Addr} {xs : List V} (h : H l = some (.lst xs)) (hz : xs.length < 100000) (q : Q .non (upd H l (.lst (xs ++ [y])))) : rAppend (.ref l) [y] H Q := ⟨l, xs, y, rfl, rfl, h, Nat.lt_of_lt_of_le hz (by decide), q⟩
theorem v_bmL {T : String} {r : V → List V → Hp → VK → Prop} (h : te σ H fun x H1 => tyV K T x H1 ∧ tA σ H1 fun xs H2 => r x xs H2 Q) : tBM K T r te tA σ H Q := h
theorem v_never (h : False) : tNever D σ H := h
end
/-! ### built-ins by names -/
def rInt1 : List V → Hp → VK → Prop := fun xs H Q => (∃ i, xs = [.int i] ∧ Q (.int i) H) ∨ ∃ k, xs = [.bl k] ∧ Q (.int (if k then 1 else 0)) H
def rAbs : List V → Hp → VK → Prop := fun xs H Q => ∃ i, xs = [.int i] ∧ Q (.int (if i < 0 then -i else i)) H
def rDivW : List V → Hp → VK → Prop := fun xs H Q => ∃ i j, xs = [.int i, .int j] ∧ CDivP i j ∧ ∀ p, H p = none → Q (.ref p) (upd H p (.tup [.int (i / j), .int (i % j)]))
def rLen (K : PySem.W.Frag) : List V → Hp → VK → Prop := fun xs H Q => ∃ p ys, xs = [.ref p] ∧ (SqL K H p ys ∨ SqT K H p ys) ∧ Q (.int ys.length) H
def rMax2 : List V → Hp → VK → Prop := fun xs H Q => ∃ i j, xs = [.int i, .int j] ∧ Q (.int (if j > i then j else i)) H
def rMin2 : List V → Hp → VK → Prop := fun xs H Q => ∃ i j, xs = [.int i, .int j] ∧ Q (.int (if j < i then j else i)) H
def rTupOf (K : PySem.W.Frag) : List V → Hp → VK → Prop := fun xs H Q => ∃ p ys, xs = [.ref p] ∧ ((SqL K H p ys ∧ ∀ l, H l = none → Q (.ref l) (upd H l (.tup ys))) ∨ (SqT K H p ys ∧ Q (.ref p) H))
def rListOf (K : PySem.W.Frag) : List V → Hp → VK → Prop := fun xs H Q => ∃ p ys, xs = [.ref p] ∧ (SqL K H p ys ∨ SqT K H p ys) ∧ ∀ l, H l = none → Q (.ref l) (upd H l (.lst ys))
section
variable {X : Cx}
theorem cv_int : CallR X (.type "int") rInt1 := call_int1
theorem cv_abs : CallR X (.builtin "abs") rAbs := call_abs
theorem cv_divmod : CallR X (.builtin "divmod") rDivW := call_divmodW
theorem cv_len : CallR X (.builtin "len") (rLen X.K) := call_len_seq
theorem cv_max (hc : X.calm = true) : CallR X (.builtin "max") rMax2 := call_max2 hc
theorem cv_min (hc : X.calm = true) : CallR X (.builtin "min") rMin2 := call_min2 hc
theorem cv_tuple : CallR X (.type "tuple") (rTupOf X.K) := call_tuple_of
theorem cv_list : CallR X (.type "list") (rListOf X.K) := call_list_of
end
section
variable {H : Hp} {Q : VK} {i j : Int} {K : PySem.W.Frag} {p : Addr} {ys : List V} {v : V} {σ : L2.St} {tA : TA} {R : It → Hp → Prop} {D : Ends} {g : TG} {tb : TS} {wi : TI}
theorem v_int1 (h : Q (.int i) H) : rInt1 [.int i] H Q := Or.inl ⟨i, rfl, h⟩
theorem v_int1b {b : Bool} (h : Q (.int (if b then 1 else 0)) H) : rInt1 [.bl b] H Q := Or.inr ⟨b, rfl, h⟩
theorem v_abs (h : Q (.int (if i < 0 then -i else i)) H) : rAbs [.int i] H Q := ⟨i, rfl, h⟩
theorem v_div (c : CDivP i j) (h : ∀ p, H p = none → Q (.ref p) (upd H p (.tup [.int (i / j), .int (i % j)]))) : rDivW [.int i, .int j] H Q := ⟨i, j, rfl, c, h⟩
theorem v_lenL (h : SqL K H p ys) (q : Q (.int ys.length) H) : rLen K [.ref p] H Q := ⟨p, ys, rfl, Or.inl h, q⟩
theorem v_lenT (h : SqT K H p ys) (q : Q (.int ys.length) H) : rLen K [.ref p] H Q := ⟨p, ys, rfl, Or.inr h, q⟩
theorem v_max (q : Q (.int (if j > i then j else i)) H) : rMax2 [.int i, .int j] H Q := ⟨i, j, rfl, q⟩
theorem v_min (q : Q (.int (if j < i then j else i)) H) : rMin2 [.int i, .int j] H Q := ⟨i, j, rfl, q⟩
theorem v_tupL (h : SqL K H p ys) (q : ∀ l, H l = none → Q (.ref l) (upd H l (.tup ys))) : rTupOf K [.ref p] H Q := ⟨p, ys, rfl, Or.inl ⟨h, q⟩⟩
theorem v_tupT (h : SqT K H p ys) (q : Q (.ref p) H) : rTupOf K [.ref p] H Q := ⟨p, ys, rfl, Or.inr ⟨h, q⟩⟩
theorem v_listL (h : SqL K H p ys) (q : ∀ l, H l = none → Q (.ref l) (upd H l (.lst ys))) : rListOf K [.ref p] H Q := ⟨p, ys, rfl, Or.inl h, q⟩
theorem v_listT (h : SqT K H p ys) (q : ∀ l, H l = none → Q (.ref l) (upd H l (.lst ys))) : rListOf K [.ref p] H Q := ⟨p, ys, rfl, Or.inr h, q⟩
theorem v_all {bs : List Bool} (h : SqL K H p (bs.map V.bl)) (q : Q (.bl (bs.all id)) H) : rAll K [.ref p] H Q := ⟨p, bs, rfl, h, q⟩
theorem v_any {bs : List Bool} (h : SqL K H p (bs.map V.bl)) (q : Q (.bl (bs.any id)) H) : rAny K [.ref p] H Q := ⟨p, bs, rfl, h, q⟩
theorem v_sum {ns : List Int} (h : SqL K H p (ns.map V.int)) (q : Q (.int ns.sum) H) : rSum K [.ref p] H Q := ⟨p, ns, rfl, h, q⟩
/-- a for: first what it walks -/
theorem v_for (h : wi σ H fun J H1 => ∃ W : Nat → Nat → L2.St → Hp → Prop, (∃ m, W 0 m σ H1) ∧ ∀ i m σ H, W i m σ H →
  (J.stop i H ∧ D.nx σ H) ∨ (J.go i H ∧ ∃ N : L2.St → Hp → Prop, (∀ σ' H', N σ' H' → ∃ m', m' < m ∧ W (i + 1) m' σ' H') ∧ ∀ x H', J.yld i H x H' → g x σ H' fun σ2 H2 => tb { D with nx := N, ct := N, bk := D.nx } σ2 H2)) : tFor wi g tb D σ H := h
theorem v_rng1 (h : tA σ H fun vs H1 => ∃ j : Int, vs = [.int j] ∧ -(2 ^ 62) ≤ j ∧ j < 2 ^ 62 ∧ R (Itr 0 j.toNat) H1) : iRng1 tA σ H R := h
theorem v_rngN {n : Nat} {P : Nat → Prop} (hn : n < 2 ^ 61) (h : P n) : ∃ j : Int, [V.int (n : Int)] = [.int j] ∧ -(2 ^ 62) ≤ j ∧ j < 2 ^ 62 ∧ P j.toNat :=
  ⟨n, rfl, by omega, by omega, by rw [Int.toNat_natCast]; exact h⟩
theorem v_iList {tl : TE} (h : tl σ H fun x H1 => ∃ a, x = .ref a ∧ (∃ xs, SqL K H1 a xs) ∧ R (Itl K a) H1) : iList K tl σ H R := h
theorem v_iTup {tl : TE} (h : tl σ H fun x H1 => ∃ a, x = .ref a ∧ (∃ xs, SqT K H1 a xs) ∧ R (Itt K a) H1) : iTup K tl σ H R := h
theorem v_ref {P : Addr → Prop} (h : P p) : ∃ a, V.ref p = .ref a ∧ P a := ⟨p, rfl, h⟩
theorem v_sl {r : V → Option Int → Option Int → Hp → VK → Prop} {te : TE} {tl th : TO} (h : te σ H fun x H1 => tl σ H1 fun l H2 => th σ H2 fun u H3 => r x l u H3 Q) : tSl r te tl th σ H Q := h
theorem v_noPart {Q : Option Int → Hp → Prop} (h : Q none H) : tNoPart σ H Q := h
theorem v_part {te : TE} {Q : Option Int → Hp → Prop} (h : te σ H fun x H1 => ∃ i, x = .int i ∧ Q (some i) H1) : tPart te σ H Q := h
theorem v_pInt {P : Int → Prop} (h : P i) : ∃ j, V.int i = .int j ∧ P j := ⟨i, rfl, h⟩
theorem v_slL {lo hi : Option Int} (h : SqL K H p ys) (q : ∀ l, H l = none → Q (.ref l) (upd H l (.lst (cutV ys lo hi)))) : rSlL K (.ref p) lo hi H Q := ⟨p, ys, rfl, h, q⟩
theorem v_lc {tt : TT} {te : TE} {vs : List Nat} (h : wi σ H fun J H1 => ∀ D, H1 D = none → ∃ W : Nat → Nat → Hp → Prop, (∃ m, W 0 m (upd H1 D (.lst []))) ∧ ∀ i m H, W i m H →
  (J.stop i H ∧ Q (.ref D) H) ∨ (J.go i H ∧ ∃ Nx : Hp → Prop, (∀ H', Nx H' → ∃ m', m' < m ∧ W (i + 1) m' H') ∧ ∀ x H', J.yld i H x H' → g x (wipe σ vs) H' fun σ2 H2 => wipe σ2 vs = wipe σ vs ∧ tt σ2 H2 fun b H3 =>
    if b = true then te σ2 H3 fun y H4 => ∃ acc, H4 D = some (.lst acc) ∧ acc.length < sizeLine ∧ Nx (upd H4 D (.lst (acc ++ [y]))) else Nx H3)) : tLc wi g tt te vs σ H Q := h
theorem v_yes {Q : Bool → Hp → Prop} (h : Q true H) : tYes σ H Q := h
theorem v_cat {q : Addr} {xs zs : List V} (h : H p = some (.lst xs)) (h2 : H q = some (.lst zs)) (hl : xs.length + zs.length ≤ 100000) (k : ∀ l, H l = none → Q (.ref l) (upd H l (.lst (xs ++ zs)))) : rCat (.ref p) (.ref q) H Q :=
  ⟨p, q, xs, zs, rfl, rfl, h, h2, Nat.le_trans hl (by decide), k⟩
end
/-! ### specs by the number of arguments -/
def sp1 (f : V → Hp → VK → Prop) : Sp := fun vs H Q _ => ∃ a, vs = [a] ∧ f a H Q
def sp2 (f : V → V → Hp → VK → Prop) : Sp := fun vs H Q _ => ∃ a b, vs = [a, b] ∧ f a b H Q
def sp3 (f : V → V → V → Hp → VK → Prop) : Sp := fun vs H Q _ => ∃ a b c, vs = [a, b, c] ∧ f a b c H Q
def sp4 (f : V → V → V → V → Hp → VK → Prop) : Sp := fun vs H Q _ => ∃ a b c d, vs = [a, b, c, d] ∧ f a b c d H Q
theorem len1 {f : V → Hp → VK → Prop} {p : Str} : ∀ vs H Q E, sp1 f vs H Q E → vs.length = [p].length := fun _ _ _ _ h => by obtain ⟨a, rfl, _⟩ := h; rfl
theorem len2 {f : V → V → Hp → VK → Prop} {p q : Str} : ∀ vs H Q E, sp2 f vs H Q E → vs.length = [p, q].length := fun _ _ _ _ h => by obtain ⟨a, b, rfl, _⟩ := h; rfl
theorem len3 {f : V → V → V → Hp → VK → Prop} {p q r : Str} : ∀ vs H Q E, sp3 f vs H Q E → vs.length = [p, q, r].length := fun _ _ _ _ h => by obtain ⟨a, b, c, rfl, _⟩ := h; rfl
theorem len4 {f : V → V → V → V → Hp → VK → Prop} {p q r s : Str} : ∀ vs H Q E, sp4 f vs H Q E → vs.length = [p, q, r, s].length := fun _ _ _ _ h => by obtain ⟨a, b, c, d, rfl, _⟩ := h; rfl
section
variable {H : Hp} {Q : VK} {E : XK} {a b c d : V}
theorem c1 {f : V → Hp → VK → Prop} (h : f a H Q) : sp1 f ([a] ++ []) H Q E := ⟨a, rfl, h⟩
theorem c2 {f : V → V → Hp → VK → Prop} (h : f a b H Q) : sp2 f ([a, b] ++ []) H Q E := ⟨a, b, rfl, h⟩
theorem c3 {f : V → V → V → Hp → VK → Prop} (h : f a b c H Q) : sp3 f ([a, b, c] ++ []) H Q E := ⟨a, b, c, rfl, h⟩
theorem c4 {f : V → V → V → V → Hp → VK → Prop} (h : f a b c d H Q) : sp4 f ([a, b, c, d] ++ []) H Q E := ⟨a, b, c, d, rfl, h⟩
theorem k1 {f : V → Hp → VK → Prop} (h : f a H Q) : sp1 f [a] H Q E := ⟨a, rfl, h⟩
theorem k2 {f : V → V → Hp → VK → Prop} (h : f a b H Q) : sp2 f [a, b] H Q E := ⟨a, b, rfl, h⟩
theorem k3 {f : V → V → V → Hp → VK → Prop} (h : f a b c H Q) : sp3 f [a, b, c] H Q E := ⟨a, b, c, rfl, h⟩
end
end Vc
namespace Vc
open PySem PySem.Spec PyProof.Rows L2
/-! ### heaps: all stays but W -/
def Sx (W : Addr) (H H' : Hp) : Prop := ∀ b o, b ≠ W → H b = some o → H' b = some o
theorem Sx.refl {W : Addr} {H : Hp} : Sx W H H := fun _ _ _ h => h
theorem Sx.trans {W : Addr} {H H1 H2 : Hp} (a : Sx W H H1) (b : Sx W H1 H2) : Sx W H H2 := fun c o n h => b c o n (a c o n h)
theorem Sx.of {W : Addr} {H H' : Hp} (a : Same H H') : Sx W H H' := fun c o _ h => a c o h
theorem Sx.new {W p : Addr} {H : Hp} {o : HO} (h : H p = none) : Sx W H (upd H p o) := fun b u _ e => by
  rw [upd_ne (ne_of_none e h)]
  exact e
theorem Sx.mut {W : Addr} {H : Hp} {o : HO} : Sx W H (upd H W o) := fun b u n e => by
  rw [upd_ne n]
  exact e
/-- what was not there may change -/
theorem Sx.own {W p : Addr} {H H' : Hp} {o : HO} (s : Sx W H H') (h : H p = none) : Sx W H (upd H' p o) := fun b u n e => by
  rw [upd_ne (ne_of_none e h)]
  exact s b u n e
theorem same_new {p : Addr} {H : Hp} {o : HO} (h : H p = none) : Same H (upd H p o) := fun b u e => by
  rw [upd_ne (ne_of_none e h)]
  exact e
theorem same_own {p : Addr} {H H' : Hp} {o : HO} (s : Same H H') (h : H p = none) : Same H (upd H' p o) := fun b u e => by
  rw [upd_ne (ne_of_none e h)]
  exact s b u e
theorem sqL_of {K : PySem.W.Frag} {H : Hp} {a : Addr} {xs : List V} (h : H a = some (.lst xs)) : SqL K H a xs := .inl (.inl h)
theorem sqT_of {K : PySem.W.Frag} {H : Hp} {a : Addr} {xs : List V} (h : H a = some (.tup xs)) : SqT K H a xs := .inl (.inl h)
theorem Same.seqT {K : PySem.W.Frag} {H H' : Hp} {a : Addr} {xs : List V} (e : Same H H') (h : SqT K H a xs) : SqT K H' a xs := by
  rcases h with (h | ⟨o, h⟩) | h
  · exact .inl (.inl (e _ _ h))
  · exact .inl (.inr ⟨o, e _ _ h⟩)
  · exact .inr h
/-- the drawn numbers' list: three ints, then what stays -/
def Wl (tl : List V) (H : Hp) (W : Addr) : Prop := ∃ a b c : Int, H W = some (.lst (.int a :: .int b :: .int c :: tl))
theorem Wl.new {tl : List V} {W p : Addr} {H : Hp} {o : HO} (w : Wl tl H W) (h : H p = none) : Wl tl (upd H p o) W := by
  obtain ⟨a, b, c, e⟩ := w
  exact ⟨a, b, c, by rw [upd_ne (ne_of_none e h)]; exact e⟩
theorem Wl.of {tl : List V} {W : Addr} {H H' : Hp} (w : Wl tl H W) (s : Same H H') : Wl tl H' W := by
  obtain ⟨a, b, c, e⟩ := w
  exact ⟨a, b, c, s _ _ e⟩
theorem mod_ge {i j : Int} (hj : 0 < j) : 0 ≤ i.fmod j ∧ i.fmod j < j := by
  rw [Int.fmod_eq_emod_of_nonneg i (by omega)]
  exact ⟨Int.emod_nonneg _ (by omega), Int.emod_lt_of_pos _ hj⟩
/-- a rest: a letter with its bounds -/
theorem v_modN {z : Int} {k : Nat} {H : Hp} {Q : VK} (hk : 0 < k) (h : ∀ r : Nat, r < k → Q (.int (r : Int)) H) : rI (fun _ j => j ≠ 0) (fun i j => V.int (i.fmod j)) (.int z) (.int (k : Int)) H Q := by
  have hz := mod_ge (i := z) (j := (k : Int)) (by omega)
  refine ⟨z, k, rfl, rfl, by omega, ?_⟩
  have e := Int.toNat_of_nonneg hz.1
  have h2 := h (z.fmod k).toNat (by omega)
  rw [e] at h2
  exact h2
theorem cm_r {x y j c : Int} (h0 : 0 < j) (hc : 0 ≤ c) (h : j + c < 2 ^ 63) : CMul x (y.fmod j + c) := Or.inr (by
  have := mod_ge (i := y) h0
  have e : (2 : Int) ^ 63 = 9223372036854775808 := by decide
  have e2 : (2 : Int) ^ 64 = 18446744073709551616 := by decide
  omega)
theorem cut_mem {xs : List V} {lo hi : Option Int} {i : Nat} {x : V} (h : (cutV xs lo hi)[i]? = some x) : x ∈ xs := by
  have m := List.mem_of_getElem? h
  unfold cutV at m
  exact List.mem_of_mem_drop (List.mem_of_mem_take m)
theorem cut_ints {ns : List Int} {lo hi : Option Int} {i : Nat} {x : V} (h : (cutV (ns.map V.int) lo hi)[i]? = some x) : ∃ z : Int, x = .int z := by
  obtain ⟨z, _, e⟩ := List.mem_map.mp (cut_mem h)
  exact ⟨z, e.symm⟩
/-! ### new things, the heap a letter -/
section
variable {H : Hp} {Q : VK} {K : PySem.W.Frag} {σ : L2.St} {xs ys : List V} {p : Addr} {c : Bool} {ta tb : TE}
theorem a_tup (hl : xs.length ≤ 1000) (h : ∀ (p : Addr) (H' : Hp), H p = none → Same H H' → H' p = some (.tup xs) → Q (.ref p) H') : NewT xs H Q :=
  ⟨Nat.le_trans hl (by decide), fun p hp => h p _ hp (same_new hp) upd_same⟩
theorem a_lst (hl : xs.length ≤ 1000) (h : ∀ (p : Addr) (H' : Hp), H p = none → Same H H' → H' p = some (.lst xs) → Q (.ref p) H') : NewL xs H Q :=
  ⟨Nat.le_trans hl (by decide), fun p hp => h p _ hp (same_new hp) upd_same⟩
theorem a_slL {lo hi : Option Int} (h : SqL K H p ys) (q : ∀ (l : Addr) (H' : Hp), H l = none → Same H H' → H' l = some (.lst (cutV ys lo hi)) → Q (.ref l) H') : rSlL K (.ref p) lo hi H Q := v_slL h fun l hl => q l _ hl (same_new hl) upd_same
theorem a_tupL (h : SqL K H p ys) (q : ∀ (l : Addr) (H' : Hp), H l = none → Same H H' → H' l = some (.tup ys) → Q (.ref l) H') : rTupOf K [.ref p] H Q := v_tupL h fun l hl => q l _ hl (same_new hl) upd_same
theorem a_cat {q : Addr} {zs : List V} (h : H p = some (.lst xs)) (h2 : H q = some (.lst zs)) (hl : xs.length + zs.length ≤ 100000) (k : ∀ (l : Addr) (H' : Hp), H l = none → Same H H' → H' l = some (.lst (xs ++ zs)) → Q (.ref l) H') : rCat (.ref p) (.ref q) H Q :=
  v_cat h h2 hl fun l hl => k l _ hl (same_new hl) upd_same
/-- two ways to an int -/
theorem v_joinI (ha : c = true → ∀ Q' : VK, (∀ o : Int, Q' (.int o) H) → ta σ H Q') (hb : c = false → ∀ Q' : VK, (∀ o : Int, Q' (.int o) H) → tb σ H Q') (h : ∀ o : Int, Q (.int o) H) : if c = true then ta σ H Q else tb σ H Q := by
  cases c with
  | true => simpa using ha rfl Q h
  | false => simpa using hb rfl Q h
/-- a and b, b only asked where a is so -/
theorem v_andJ {d : Bool} (h : c = true → ∀ Q' : VK, Q' (.bl d) H → tb σ H Q') (q : Q (.bl (c && d)) H) : if c = true then tb σ H Q else Q (.bl false) H := by
  cases c with
  | true => simpa using h rfl Q (by simpa using q)
  | false => simpa using q
theorem v_orJ {d : Bool} (h : c = false → ∀ Q' : VK, Q' (.bl d) H → tb σ H Q') (q : Q (.bl (c || d)) H) : if c = true then Q (.bl true) H else tb σ H Q := by
  cases c with
  | true => simpa using q
  | false => simpa using h rfl Q (by simpa using q)
theorem v_tandJ {t : TT} {QT : Bool → Hp → Prop} {d : Bool} (h : c = true → ∀ Q' : Bool → Hp → Prop, Q' d H → t σ H Q') (q : QT (c && d) H) : if c = true then t σ H QT else QT false H := by
  cases c with
  | true => simpa using h rfl QT (by simpa using q)
  | false => simpa using q
theorem v_torJ {t : TT} {QT : Bool → Hp → Prop} {d : Bool} (h : c = false → ∀ Q' : Bool → Hp → Prop, Q' d H → t σ H Q') (q : QT (c || d) H) : if c = true then QT true H else t σ H QT := by
  cases c with
  | true => simpa using q
  | false => simpa using h rfl QT (by simpa using q)
/-- two ways to a number of a kind -/
theorem v_joinN (P : Nat → Prop) (ha : c = true → ∀ Q' : VK, (∀ o : Nat, P o → Q' (.int o) H) → ta σ H Q') (hb : c = false → ∀ Q' : VK, (∀ o : Nat, P o → Q' (.int o) H) → tb σ H Q') (h : ∀ o : Nat, P o → Q (.int o) H) : if c = true then ta σ H Q else tb σ H Q := by
  cases c with
  | true => simpa using ha rfl Q h
  | false => simpa using hb rfl Q h
end
theorem dp_ints {K : PySem.W.Frag} {H : Hp} : ∀ ns : List Nat, DpAll K H (ns.map fun n : Nat => V.int (n : Int)) (ns.map fun n : Nat => PyData.int (n : Int))
  | [] => .nil
  | _ :: ns => .cons (.int _) (dp_ints ns)
theorem same_sx {W : Addr} {H H1 H2 : Hp} (hW : H W = none) (s1 : Same H H1) (sx : Sx W H1 H2) : Same H H2 := fun b o e => sx b o (ne_of_none e hW) (s1 b o e)
theorem Sx.free {W : Addr} {H H' : Hp} (s : Sx W H H') {l : Addr} (h : H' l = Option.none) (n : l ≠ W) : H l = Option.none := by
  cases z : H l with
  | none => rfl
  | some o =>
    rw [s l o n z] at h
    cases h
theorem Wl.ne {tl : List V} {W p : Addr} {H : Hp} (w : Wl tl H W) (h : H p = none) : p ≠ W := by
  obtain ⟨x, y, u, e⟩ := w
  exact (ne_of_none e h).symm
theorem Wl.ne' {tl : List V} {W p : Addr} {H : Hp} (w : Wl tl H W) (h : H p = none) : W ≠ p := fun e => w.ne h e.symm
theorem tyL {K : PySem.W.Frag} {H : Hp} {p : Addr} {xs : List V} (h : H p = some (.lst xs)) : tyV K "list" (.ref p) H := .inl ⟨rfl, _, sqL_of h⟩
theorem v_allT {K : PySem.W.Frag} {H : Hp} {p : Addr} {n : Nat} {Q : VK} (h : H p = some (.lst (List.replicate n (.bl true)))) (q : Q (.bl true) H) : rAll K [.ref p] H Q :=
  v_all (bs := List.replicate n true) (sqL_of (by rw [List.map_replicate]; exact h)) (by simpa using q)
theorem rep_more {α : Type} (n : Nat) (x : α) : List.replicate n x ++ [x] = List.replicate (n + 1) x := (List.replicate_succ' ..).symm
theorem r_int {K : PySem.W.Frag} {H : Hp} {Q : VK} {i : Int} (h : Leaf (.int i)) (q : Q (.str (PyData.shown (.int i))) H) : rRepr K [.int i] H Q := v_repr (.int i) h.shw q
/-! ### keywords: places -/
def picks {α : Type} (is : List Nat) (xs : List α) : List α := is.filterMap fun i => xs[i]?
def gpick {α : Type} (n m : Nat) (is : List Nat) (us ws : List α) : List α := if us.length = n ∧ ws.length = m then picks is (us ++ ws) else []
theorem picks_rel {xs : List V} {us : List Value} (r : Vals xs us) : ∀ is : List Nat, Vals (picks is xs) (picks is us)
  | [] => .nil
  | i :: is => by
    have ih := picks_rel r is
    unfold picks at ih ⊢
    cases e : xs[i]? with
    | none => rw [List.filterMap_cons_none e, List.filterMap_cons_none (r.none_of e)]; exact ih
    | some x =>
      obtain ⟨u, hu, ru⟩ := r.get e
      rw [List.filterMap_cons_some e, List.filterMap_cons_some hu]
      exact .cons ru ih
theorem gpick_rel (n m : Nat) (is : List Nat) {vs zs : List V} {us ws : List Value} (r : Vals vs us) (rz : Vals zs ws) : Vals (gpick n m is vs zs) (gpick n m is us ws) := by
  unfold gpick
  rw [r.length, rz.length]
  split
  · exact picks_rel (r.append rz) is
  · exact .nil
/-! ### bits of what is not negative -/
theorem bA (a b : Nat) : Builtin.bitAnd (a : Int) (b : Int) = ((a &&& b : Nat) : Int) := by
  rw [bitAnd_pp (Int.natCast_nonneg _) (Int.natCast_nonneg _), Int.toNat_natCast, Int.toNat_natCast]
theorem bO (a b : Nat) : Builtin.bitOr (a : Int) (b : Int) = ((a ||| b : Nat) : Int) := by
  rw [bitOr_nn (Int.natCast_nonneg _) (Int.natCast_nonneg _), Int.toNat_natCast, Int.toNat_natCast]
theorem or_add (a b : Nat) : (a ||| b) + (a &&& b) = a + b := by
  have h := bitOr_and (a : Int) (b : Int)
  rw [bO, bA] at h
  omega
theorem xor_add (a b : Nat) : (a ^^^ b) + 2 * (a &&& b) = a + b := by
  have h1 := or_add (a ^^^ b) (a &&& b)
  have e1 : (a ^^^ b) ||| (a &&& b) = a ||| b := by
    apply Nat.eq_of_testBit_eq
    intro i
    simp only [Nat.testBit_or, Nat.testBit_xor, Nat.testBit_and]
    cases a.testBit i <;> cases b.testBit i <;> rfl
  have e2 : (a ^^^ b) &&& (a &&& b) = 0 := by
    apply Nat.eq_of_testBit_eq
    intro i
    simp only [Nat.testBit_xor, Nat.testBit_and, Nat.zero_testBit]
    cases a.testBit i <;> cases b.testBit i <;> rfl
  have h2 := or_add a b
  rw [e1, e2] at h1
  omega
theorem bX (a b : Nat) : Builtin.bitXor (a : Int) (b : Int) = ((a ^^^ b : Nat) : Int) := by
  have h := xor_add a b
  have h2 := or_add a b
  show Builtin.bitOr (a : Int) (b : Int) - Builtin.bitAnd (a : Int) (b : Int) = _
  rw [bO, bA]
  omega
theorem shl1 (n : Nat) : (1 : Int) * 2 ^ ((n : Int).toNat) = ((2 ^ n : Nat) : Int) := by
  rw [Int.toNat_natCast, Int.one_mul]
  exact (PySem.W.kbt_cast n).symm
theorem natOf {r : Int} (h : 0 ≤ r) : ∃ n : Nat, r = (n : Int) := ⟨r.toNat, (Int.toNat_of_nonneg h).symm⟩
theorem lt_and {a b n : Nat} (h : a < 2 ^ n) : a &&& b < 2 ^ n := Nat.lt_of_le_of_lt Nat.and_le_left h
theorem lt_or {a b n : Nat} (h : a < 2 ^ n) (h2 : b < 2 ^ n) : a ||| b < 2 ^ n := Nat.or_lt_two_pow h h2
theorem lt_xor {a b n : Nat} (h : a < 2 ^ n) (h2 : b < 2 ^ n) : a ^^^ b < 2 ^ n := Nat.xor_lt_two_pow h h2
theorem lt_bit {k n : Nat} (h : k < n) : 2 ^ k < 2 ^ n := Nat.pow_lt_pow_right (by decide) h
theorem bits_ext {a b n : Nat} (ha : a < 2 ^ n) (hb : b < 2 ^ n) (h : ∀ i, i < n → a.testBit i = b.testBit i) : a = b := by
  apply Nat.eq_of_testBit_eq
  intro i
  by_cases hi : i < n
  · exact h i hi
  · have e := Nat.pow_le_pow_right (n := 2) (by decide) (Nat.le_of_not_lt hi)
    rw [Nat.testBit_lt_two_pow (Nat.lt_of_lt_of_le ha e), Nat.testBit_lt_two_pow (Nat.lt_of_lt_of_le hb e)]
theorem bit_high {a n i : Nat} (ha : a < 2 ^ n) (hi : n ≤ i) : a.testBit i = false := Nat.testBit_lt_two_pow (Nat.lt_of_lt_of_le ha (Nat.pow_le_pow_right (by decide) hi))
end Vc
namespace Vc
open PySem PySem.Spec PyProof.Rows L2
/-! ### the binary digits of a number -/
def binS (n : Nat) : PySem.Str := ⟨((Nat.toDigits 2 n).map Char.toNat).toArray⟩
section
open Builtin Builtin.Str Builtin.Int
theorem gives_b (n : Nat) (t u : Tok) : Gives (Builtin.«int.__format__» ⟨[.int (n : Int) t, .str (Str.ofString "b") u], []⟩) (.str (binS n)) := by
  intro prog w A R s hq
  have e0 : (decide ((n : Int) < 0)) = false := decide_eq_false (by omega)
  unfold Builtin.«int.__format__»
  simp only [selfAndOne, noKeywords, Int.intOfSelf, asInt?, asStr?, List.isEmpty_nil, if_true, pure_bind, bind_pure, bind_assoc, Bool.false_eq_true, if_false,
    show (Value.str (Str.ofString "b") u == Value.none) = false from rfl, show ((Str.ofString "b").length == 0) = false by decide]
  refine wpAny_bind (wpAny_typeNameOf (T := "str") (typeIs_str _ _ _) (by decide) fun _ => ?_)
  rw [if_neg (by decide)]
  refine wpAny_bind (wpAny_typeNameOfCut_int ?_)
  obtain ⟨f, hp, ht, hpr, hz, hal, hw, hgr, hsg, hfi⟩ : ∃ f, Float.parseFormatSpec (Str.ofString "b").cps.toList "int" 62 = .ok f ∧ f.type = some 98 ∧ f.precision = none ∧ f.noNeg0 = false ∧ f.alt = false ∧ f.width = none ∧ f.grouping = none ∧ f.sign = none ∧ (f.fill == 48) = false :=
    ⟨_, rfl, rfl, rfl, rfl, rfl, rfl, rfl, rfl, rfl⟩
  rw [hp]
  simp only [ht, Option.getD_some]
  rw [if_pos (by decide)]
  show wpAny _ _ (if _ then _ else _) _ _ _
  rw [if_neg (by simp [hpr])]
  show wpAny _ _ (if _ then _ else _) _ _ _
  rw [if_neg (by simp [hz])]
  show wpAny _ _ (if _ then _ else _) _ _ _
  rw [if_neg (by decide)]
  show wpAny _ _ (if _ then _ else _) _ _ _
  rw [if_neg (by decide)]
  show wpAny _ _ (if _ then _ else _) _ _ _
  rw [if_neg (by simp [hw])]
  have key : intField' f (decide ((n : Int) < 0)) (if f.alt then [] else []) ((Nat.toDigits 2 n).map fun c => (if (98 : Nat) == 88 then c.toUpper else c).toNat) [] 4 = binS n := by
    have hne : ((Nat.toDigits 2 n).map fun c => (if (98 : Nat) == 88 then c.toUpper else c).toNat) = (Nat.toDigits 2 n).map Char.toNat := by simp
    rw [hne, e0, hal]
    unfold intField' binS
    simp only [hw, hgr, hsg, hfi, Bool.false_and, Bool.false_eq_true, if_false]
    split <;> simp_all
  show wpAny _ _ (retStr _) _ _ _
  unfold retStr
  simp only [hal, Bool.false_eq_true, if_false, Int.natAbs_natCast] at key ⊢
  have q1 : (binS n).length ≤ sizeLine := hq.1
  have q2 := hq.2
  rw [← key] at q1 q2
  simp only [intField', hw, hgr, hsg, hfi, Bool.false_and, Bool.false_eq_true, if_false] at q1 q2
  refine wpAny_bind (wpAny_mkStr (wpAny_pure ?_) ?hs2)
  case hs2 =>
    conv => lhs; arg 1; whnf
    simp only [hw, hgr, hsg, hfi, Bool.false_and, Bool.false_eq_true, if_false]
    exact q1
  · dsimp only
    conv => arg 1; arg 1; arg 1; arg 1; whnf
    simp only [hw, hgr, hsg, hfi, Bool.false_and, Bool.false_eq_true, if_false]
    exact q2
end
theorem binS_len (n : Nat) : (binS n).length ≤ n + 1 := by
  show ((Nat.toDigits 2 n).map Char.toNat).toArray.size ≤ _
  rw [List.size_toArray, List.length_map]
  exact tDigits_len_le 2 n
/-- the number of ones among the binary digits -/
def ones : Nat → Nat
  | 0 => 0
  | n + 1 => (n + 1) % 2 + ones ((n + 1) / 2)
decreasing_by omega
theorem ones_eq (n : Nat) : ones n = n % 2 + ones (n / 2) := by
  cases n with
  | zero => simp [ones]
  | succ n => rw [ones]
def oneL (l : List Char) : Nat := (l.filter fun c => c == '1').length
theorem core_ones : ∀ (fuel n : Nat) (ds : List Char), n < fuel → oneL (Nat.toDigitsCore 2 fuel n ds) = ones n + oneL ds
  | 0, n, ds, h => by omega
  | fuel + 1, n, ds, h => by
    rw [Nat.toDigitsCore]
    have hd : oneL ((n % 2).digitChar :: ds) = n % 2 + oneL ds := by
      have h2 : n % 2 = 0 ∨ n % 2 = 1 := by omega
      rcases h2 with e | e
      · rw [e]; simp [oneL, Nat.digitChar]
      · rw [e]; simp [oneL, Nat.digitChar]; omega
    split
    · rename_i hz
      rw [hd, ones_eq n, hz]
      simp [ones]
    · rename_i hz
      rw [core_ones fuel (n / 2) _ (by omega), hd, ones_eq n]
      omega
theorem cnt_map (l : List Char) : cnt 49 (l.map Char.toNat) = (oneL l : Nat) := by
  induction l with
  | nil => rfl
  | cons c r ih =>
    rw [List.map_cons, cnt_cons, ih]
    by_cases h : c = '1'
    · subst h
      simp [oneL]
      omega
    · have hn : ¬ c.toNat = 49 := fun e => h (by
        apply Char.ext
        apply UInt32.toNat_inj.mp
        exact e)
      rw [if_neg hn]
      have : (c == '1') = false := by simpa using h
      simp [oneL, this]
theorem count_bin (n : Nat) : Txt.count (binS n) ⟨#[49]⟩ = (ones n : Nat) := by
  rw [count_is]
  show cnt 49 (binS n).cps.toList = _
  show cnt 49 ((Nat.toDigits 2 n).map Char.toNat) = _
  rw [cnt_map]
  have := core_ones (n + 1) n [] (by omega)
  show ((oneL (Nat.toDigitsCore 2 (n + 1) n []) : Nat) : Int) = _
  rw [this]
  simp [oneL]
end Vc
namespace Vc
open PySem PySem.Spec PyProof.Rows L2
theorem core_len : ∀ (fuel n k : Nat) (ds : List Char), n < 2 ^ k → 1 ≤ k → (Nat.toDigitsCore 2 fuel n ds).length ≤ ds.length + k
  | 0, n, k, ds, _, _ => by rw [Nat.toDigitsCore]; omega
  | fuel + 1, n, k, ds, h, hk => by
    rw [Nat.toDigitsCore]
    split
    · rw [List.length_cons]; omega
    · rename_i hz
      have hk2 : 2 ≤ k := by
        refine Nat.le_of_not_lt fun z => hz ?_
        have e : k = 1 := by omega
        rw [e] at h
        omega
      have h2 : n / 2 < 2 ^ (k - 1) := by
        have e : 2 ^ k = 2 * 2 ^ (k - 1) := by
          rw [← Nat.pow_succ']
          congr 1
          omega
        omega
      have := core_len fuel (n / 2) (k - 1) ((n % 2).digitChar :: ds) h2 (by omega)
      rw [List.length_cons] at this
      omega
theorem binS_le {n k : Nat} (h : n < 2 ^ k) (hk : 1 ≤ k) : (binS n).length ≤ k := by
  show ((Nat.toDigits 2 n).map Char.toNat).toArray.size ≤ _
  rw [List.size_toArray, List.length_map]
  have := core_len (n + 1) n k [] h hk
  show (Nat.toDigitsCore 2 (n + 1) n []).length ≤ k
  simpa using this
/-- the text of a number's binary digits -/
def tBin (te : TE) : TE := fun σ H Q => te σ H fun x H1 => ∃ n : Nat, x = .int (n : Int) ∧ n < 2 ^ 600 ∧ Q (.str (binS n)) H1
def rCount : V → List V → Hp → VK → Prop := fun x xs H Q => ∃ a b, x = .str a ∧ xs = [.str b] ∧ Q (.int (Txt.count a b)) H
section
variable {X : Cx}
theorem pe_fmtB {e : Expr} {te : TE} {k : Nat} {p1 p2 p3 pos : Pos} (he : PE X e te) : PE X (.JoinedStr [.FormattedValue e (-1) (some (.JoinedStr [.Constant (.str (Str.ofString "b")) k p1] p2)) p3] pos) (tBin te) := by
  refine pe_joined1 ⟨fun pins s σ H Q I h => ?_⟩
  refine wpAny_FormattedValue_spec (thn (he.run pins s σ H _ I h) fun u s1 hh => ?_)
  obtain ⟨x, H1, I1, rx, n, rfl, hn, q⟩ := hh
  have sp : PE X (.JoinedStr [.Constant (.str (Str.ofString "b")) k p1] p2) (tC (.str (Str.ofString "b"))) := pe_joined1 pe_str
  refine thn (sp.run pins s1 σ H1 (fun v H2 => v = .str (Str.ofString "b") ∧ H2 = H1) I1 ⟨rfl, rfl⟩) fun r s2 hr => ?_
  obtain ⟨y, H2, I2, ry, rfl, rfl⟩ := hr
  obtain ⟨t2, rfl⟩ := ry
  obtain ⟨t, rfl⟩ := rx
  refine ⟨_, _, rfl, ?_⟩
  refine wpAny_formatField_spec (by decide) (fun s' => typeIs_int s' _ t) PySem.F.slot_int_format PySem.F.entry_int_format PySem.F.args_int_format_2 (fun u => gives_b n t u) ?_ (by decide) ?_
  · exact ⟨.str _, H2, I2.tok _, ⟨_, rfl⟩, q⟩
  · have := binS_le hn (by decide)
    rw [sizeLine_eq]
    omega
theorem mv_count : MtR X "str.count" rCount := mt_count
end
section
variable {σ : L2.St} {H : Hp} {Q : VK} {te : TE}
theorem v_bin (h : te σ H fun x H1 => ∃ n : Nat, x = .int (n : Int) ∧ n < 2 ^ 600 ∧ Q (.str (binS n)) H1) : tBin te σ H Q := h
theorem v_count {n : Nat} (q : Q (.int (ones n : Nat)) H) : rCount (.str (binS n)) [.str (Str.ofString "1")] H Q := ⟨_, _, rfl, rfl, by
  have e : (Str.ofString "1") = ⟨#[49]⟩ := by decide
  rw [e, count_bin]
  exact q⟩
end
/-! ### how many ones -/
theorem ones_le : ∀ (k n : Nat), n < 2 ^ k → ones n ≤ k
  | 0, n, h => by
    have : n = 0 := by simpa using h
    subst this
    simp [ones]
  | k + 1, n, h => by
    have := ones_le k (n / 2) (by rw [Nat.pow_succ] at h; omega)
    rw [ones_eq]
    omega
theorem ones_pos {n : Nat} (h : 0 < n) : 0 < ones n := by
  induction n using Nat.strongRecOn with
  | _ n ih =>
    rw [ones_eq]
    by_cases h2 : n % 2 = 0
    · have := ih (n / 2) (by omega) (by omega)
      omega
    · omega
theorem ones_drop {n : Nat} (h : 0 < n) : ones (n &&& (n - 1)) + 1 = ones n := by
  induction n using Nat.strongRecOn with
  | _ n ih =>
    have hm : ¬ (n &&& (n - 1)) % 2 = 1 := by
      rw [Nat.and_mod_two_eq_one]
      omega
    rw [ones_eq (n &&& (n - 1)), ones_eq n, Nat.and_div_two]
    by_cases ho : n % 2 = 1
    · have e : (n - 1) / 2 = n / 2 := by omega
      rw [e, Nat.and_self]
      omega
    · have e : (n - 1) / 2 = n / 2 - 1 := by omega
      have := ih (n / 2) (by omega) (by omega)
      rw [e]
      omega
theorem and_lt {n : Nat} (h : 0 < n) : n &&& (n - 1) < n := Nat.lt_of_le_of_lt Nat.and_le_right (by omega)
/-- within: as many ones at most, and if as many, then the same -/
theorem ones_sub (a b : Nat) (h : a &&& b = a) : ones a ≤ ones b ∧ (ones a = ones b → a = b) := by
  induction a using Nat.strongRecOn generalizing b with
  | _ a ih =>
    by_cases h0 : a = 0
    · subst h0
      refine ⟨by simp [ones], fun e => ?_⟩
      by_cases hb : b = 0
      · exact hb.symm
      · have := ones_pos (n := b) (by omega)
        simp [ones] at e
        omega
    · have hd : a / 2 &&& b / 2 = a / 2 := by rw [← Nat.and_div_two, h]
      have hm : a % 2 = 1 → b % 2 = 1 := fun e => by
        have e2 : (a &&& b) % 2 = 1 := by rw [h]; exact e
        exact (Nat.and_mod_two_eq_one.mp e2).2
      have := ih (a / 2) (by omega) (b / 2) hd
      rw [ones_eq a, ones_eq b]
      refine ⟨by omega, fun e => ?_⟩
      have e2 := this.2 (by omega)
      omega
/-! ### words that no cut can feign -/
def wholeP (p : Nat) : Prop := p % 1024 = 512 - ones (p / 1024)
def wordD (d : Nat) : Nat := d * 1024 + (512 - ones d)
theorem wordD_div {d : Nat} : wordD d / 1024 = d := by unfold wordD; omega
theorem wordD_mod {d : Nat} : wordD d % 1024 = 512 - ones d := by unfold wordD; omega
theorem wordD_whole (d : Nat) : wholeP (wordD d) := by
  unfold wholeP
  rw [wordD_div, wordD_mod]
theorem wholeP_eq {p : Nat} (h : wholeP p) : p = wordD (p / 1024) := by
  unfold wholeP at h
  unfold wordD
  omega
theorem and_div (a b : Nat) : (a &&& b) / 1024 = a / 1024 &&& b / 1024 := by
  have := Nat.shiftRight_and_distrib (a := a) (b := b) (i := 10)
  simpa [Nat.shiftRight_eq_div_pow] using this
theorem and_mod' (a b : Nat) : (a &&& b) % 1024 = a % 1024 &&& b % 1024 := by
  have := Nat.and_mod_two_pow (a := a) (b := b) (n := 10)
  simpa using this
theorem ones512 {p : Nat} (h : p < 2 ^ 522) : ones (p / 1024) ≤ 512 := ones_le 512 _ (by
  have e : (2 : Nat) ^ 522 = 1024 * 2 ^ 512 := by rw [show (1024 : Nat) = 2 ^ 10 by decide, ← Nat.pow_add]
  rw [e] at h
  exact Nat.div_lt_of_lt_mul h)
/-- of two whole words, one within the other one, both are the same -/
theorem berger {p q : Nat} (hp : wholeP p) (hq : wholeP q) (p2 : p < 2 ^ 522) (q2 : q < 2 ^ 522) (h : p &&& q = p) : p = q := by
  have e1 : p / 1024 &&& q / 1024 = p / 1024 := by rw [← and_div, h]
  have e2 : p % 1024 &&& q % 1024 = p % 1024 := by rw [← and_mod', h]
  have l : p % 1024 ≤ q % 1024 := by
    rw [← e2]
    exact Nat.and_le_right
  have s := ones_sub _ _ e1
  have a := ones512 p2
  have b := ones512 q2
  unfold wholeP at hp hq
  have := s.2 (by omega)
  omega
theorem wordD_lt {d : Nat} (h : d < 2 ^ 512) : wordD d < 2 ^ 522 := by
  have e : (2 : Nat) ^ 522 = 2 ^ 512 * 1024 := by rw [show (1024 : Nat) = 2 ^ 10 by decide, ← Nat.pow_add]
  rw [e]
  have := Nat.mul_le_mul_right 1024 (show d + 1 ≤ 2 ^ 512 by omega)
  unfold wordD
  omega
/-- the word is within what is left: whole exactly if it is the word -/
theorem whole_iff {p x : Nat} (hp : wholeP p) (p2 : p < 2 ^ 522) (x2 : x < 2 ^ 522) (h : p &&& x = p) : wholeP x ↔ x = p := by
  constructor
  · intro hx
    exact (berger hp hx p2 x2 h).symm
  · intro e
    rw [e]
    exact hp
end Vc
namespace Vc
open PySem PySem.Spec PyProof.Rows L2
theorem v_while {c : TT} {tb : TS} {D : Ends} {σ : L2.St} {H : Hp} (h : ∃ W : Nat → L2.St → Hp → Prop, (∃ m, W m σ H) ∧ ∀ m σ H, W m σ H →
  c σ H fun b H1 => if b = true then ∃ N : L2.St → Hp → Prop, (∀ σ' H', N σ' H' → ∃ m', m' < m ∧ W m' σ' H') ∧ tb { D with nx := N, ct := N, bk := D.nx } σ H1 else D.nx σ H1) : tWhile c tb D σ H := h
theorem pylong {i : Int} {k b : Nat} (h : k < 2 ^ b) (h0 : 0 < b) (h9 : b ≤ 9000) : Builtin.divisionGoesByPylong i (k : Int) = false :=
  PyProof.noPylong_of_log2 (Nat.lt_of_lt_of_le (PySem.Flt.log2_lt_of h0 (by rw [Int.natAbs_natCast]; exact h)) h9)
theorem nd (x y : Nat) : decide ((x : Int) = (y : Int)) = decide (x = y) := by simp [Int.natCast_inj]
theorem ndn (x y : Nat) : decide ((x : Int) ≠ (y : Int)) = decide (x ≠ y) := by simp [Int.natCast_inj]
theorem ndl (x y : Nat) : decide ((x : Int) < (y : Int)) = decide (x < y) := by simp
theorem shlN (d k : Nat) : (d : Int) * 2 ^ ((k : Int).toNat) = ((d * 2 ^ k : Nat) : Int) := by
  rw [Int.toNat_natCast, Int.natCast_mul, PySem.W.kbt_cast]
theorem shlP (k : Nat) : (1 : Int) * 2 ^ k = ((2 ^ k : Nat) : Int) := by
  rw [Int.one_mul, PySem.W.kbt_cast]
theorem shl_okN {d j n : Nat} (h : d < 2 ^ n) (hn : n + j ≤ 134217728) : CShl (d : Int) (j : Int) := shl_ok (n := n) (by rw [Int.natAbs_natCast]; exact h) hn
theorem shrN (d k : Nat) : (d : Int) / 2 ^ ((k : Int).toNat) = ((d / 2 ^ k : Nat) : Int) := by
  rw [Int.toNat_natCast, show (2 : Int) ^ k = ((2 ^ k : Nat) : Int) from (PySem.W.kbt_cast k).symm, Int.natCast_ediv]
theorem atI_mem {xs : List V} {i : Nat} (h : i < xs.length) : ∃ x, x ∈ xs ∧ atI xs (i : Int) = some x := ⟨xs[i], List.getElem_mem h, atI_nat (List.getElem?_eq_getElem h)⟩
theorem Same.toSx {W : Addr} {H H' : Hp} (s : Same H H') : Sx W H H' := Sx.of s
/-- the numbers of a row as data -/
def fold (ns : List Nat) : Nat := ns.foldl (fun d x => d * 65536 + x) ns.length
def dataOf (ns : List Nat) : Nat := fold ns * 2 ^ (16 * (31 - ns.length))
theorem foldl_lt : ∀ (ns : List Nat) (d k : Nat), (∀ n ∈ ns, n < 65536) → d < 65536 ^ k → ns.foldl (fun d x => d * 65536 + x) d < 65536 ^ (k + ns.length)
  | [], d, k, _, h => by simpa using h
  | n :: ns, d, k, hn, h => by
    have h1 : n < 65536 := hn n List.mem_cons_self
    have h2 : d * 65536 + n < 65536 ^ (k + 1) := by
      rw [Nat.pow_succ]
      have := Nat.mul_le_mul_right 65536 (show d + 1 ≤ 65536 ^ k by omega)
      omega
    have := foldl_lt ns (d * 65536 + n) (k + 1) (fun m hm => hn m (List.mem_cons_of_mem _ hm)) h2
    rw [List.foldl_cons, List.length_cons, show k + (ns.length + 1) = k + 1 + ns.length by omega]
    exact this
theorem fold_lt {ns : List Nat} (hn : ∀ n ∈ ns, n < 65536) (hl : ns.length ≤ 31) : fold ns < 65536 ^ (1 + ns.length) := foldl_lt ns _ 1 hn (by omega)
theorem dataOf_lt {ns : List Nat} (hn : ∀ n ∈ ns, n < 65536) (hl : ns.length ≤ 31) : dataOf ns < 2 ^ 512 := by
  have h := fold_lt hn hl
  unfold dataOf
  have e : (2 : Nat) ^ 512 = 65536 ^ (1 + ns.length) * 2 ^ (16 * (31 - ns.length)) := by
    rw [show (65536 : Nat) = 2 ^ 16 by decide, ← Nat.pow_mul, ← Nat.pow_add]
    congr 1
    omega
  rw [e]
  exact Nat.mul_lt_mul_of_pos_right h (Nat.pow_pos (by decide))
theorem fold_big {ns : List Nat} (hn : ∀ n ∈ ns, n < 65536) (hl : ns.length ≤ 31) : fold ns < 2 ^ 512 := by
  refine Nat.lt_of_lt_of_le (fold_lt hn hl) ?_
  rw [show (65536 : Nat) = 2 ^ 16 by decide, ← Nat.pow_mul]
  exact Nat.pow_le_pow_right (by decide) (by omega)
end Vc
namespace Vc
open PySem PySem.Spec PyProof.Rows L2
theorem sqT_sx {K : PySem.W.Frag} {tl : List V} {W p : Addr} {H H' : Hp} {xs : List V} (h : SqT K H p xs) (w : Wl tl H W) (s : Sx W H H') : SqT K H' p xs := by
  obtain ⟨a, b, c, e⟩ := w
  rcases h with (h | ⟨o, h⟩) | h
  · exact .inl (.inl (s _ _ (fun z => by rw [z, e] at h; cases h) h))
  · exact .inl (.inr ⟨o, s _ _ (fun z => by rw [z, e] at h; cases h) h⟩)
  · exact .inr h
theorem sqL_sx {K : PySem.W.Frag} {W p : Addr} {H H' : Hp} {xs : List V} (h : SqL K H p xs) (n : p ≠ W) (s : Sx W H H') : SqL K H' p xs := by
  rcases h with (h | ⟨o, h⟩) | h
  · exact .inl (.inl (s _ _ n h))
  · exact .inl (.inr ⟨o, s _ _ n h⟩)
  · exact .inr h
theorem fold_take {ns : List Nat} {i n d : Nat} (h : ns[i]? = some n) : (ns.take (i + 1)).foldl (fun d x => d * 65536 + x) d = (ns.take i).foldl (fun d x => d * 65536 + x) d * 65536 + n := by
  rw [List.take_add_one, h, List.foldl_append]
  rfl
abbrev vN : Nat → V := fun n => V.int (n : Int)
theorem vN_get {ns : List Nat} {i : Nat} {x : V} (h : (ns.map vN)[i]? = some x) : ∃ n, ns[i]? = some n ∧ x = vN n := by
  rw [List.getElem?_map] at h
  cases e : ns[i]? with
  | none => rw [e] at h; cases h
  | some n => rw [e] at h; exact ⟨n, rfl, (Option.some.inj h).symm⟩
theorem small_of {x : V} {m : Nat} {ks : List Nat} (hk : ∀ k ∈ ks, k ≤ m) (h : x ∈ ks.map vN) : ∃ n : Nat, n ≤ m ∧ x = V.int (n : Int) := by
  obtain ⟨n, hn, e⟩ := List.mem_map.mp h
  exact ⟨n, hk n hn, e.symm⟩
end Vc
namespace Vc
open PySem PySem.Spec PyProof.Rows L2
/-- two ways to what P says -/
theorem v_joinP {H : Hp} {Q : VK} {σ : L2.St} {c : Bool} {ta tb : TE} (P : V → Hp → Prop) (ha : c = true → ∀ Q' : VK, (∀ v H', P v H' → Q' v H') → ta σ H Q') (hb : c = false → ∀ Q' : VK, (∀ v H', P v H' → Q' v H') → tb σ H Q') (h : ∀ v H', P v H' → Q v H') : if c = true then ta σ H Q else tb σ H Q := by
  cases c with
  | true => simpa using ha rfl Q h
  | false => simpa using hb rfl Q h
theorem v_neB {a b : Bool} {H : Hp} {Q : VK} (h : Q (.bl (!decide (a = b))) H) : rNotB (.bl a) (.bl b) H Q := ⟨a, b, rfl, rfl, h⟩
theorem v_isB {a b : Bool} {H : Hp} {Q : VK} (h : Q (.bl (decide (a = b))) H) : rIsB (.bl a) (.bl b) H Q := ⟨a, b, rfl, rfl, h⟩
theorem v_notN {x : V} {H : Hp} {Q : VK} (h : Q (.bl (!decide (x = .non))) H) : (fun (x y : V) (H : Hp) (Q : VK) => y = .non ∧ Q (.bl (!decide (x = .non))) H) x .non H Q := ⟨rfl, h⟩
end Vc
namespace Vc
open PySem PySem.Spec PyProof.Rows L2
/-! ### range(i, j, c) as a value -/
def RgO (p : Addr) (i j c : Int) : HO := .ext fun h => ∃ t u v, IsRange h p i j c t u v
theorem rgO_ok {P : Program} {w : World} {H : Hp} {h : Heap} {p : Addr} {i j c : Int} {t u v : Tok} (e : IsRange h p i j c t u v) : ObjOk P w H h p (RgO p i j c) :=
  ⟨⟨t, u, v, e⟩, ⟨_, e⟩, fun _ _ ⟨t, u, v, e⟩ k => ⟨t, u, v, k _ e⟩⟩
def rRange3 : List V → Hp → VK → Prop := fun xs H Q => ∃ i j c, xs = [.int i, .int j, .int c] ∧ c ≠ 0 ∧ c.natAbs < 1073741824 ∧ ∀ p, H p = none → Q (.ref p) (upd H p (RgO p i j c))
def iRgv (te : TE) : TI := fun σ H R => te σ H fun x H1 => ∃ (p : Addr) (i j c : Int) (n : Nat), x = .ref p ∧ H1 p = some (RgO p i j c) ∧ RgC i j c n ∧ R (Itc i c n) H1
section
variable {X : Cx}
theorem cv_range3 : CallR X (.type "range") rRange3 := by
  intro pins s σ H xs us Q I r h
  obtain ⟨i, j, c, rfl, c0, c1, q⟩ := h
  cases r with
  | cons r rr =>
    cases rr with
    | cons r' rr =>
      cases rr with
      | cons r'' rr =>
        cases rr
        obtain ⟨t, rfl⟩ := r
        obtain ⟨t', rfl⟩ := r'
        obtain ⟨t'', rfl⟩ := r''
        refine call_range_3 c0 ?_ (.inl (PyProof.noPylong_small c1))
        exact ⟨.ref s.heap.objs.size, _, I.laid (t' := s.toks) (fun b u e => Heap.get?_push_of_some _ e) (Nat.le_refl _) (rgO_ok (IsRange.new ..)), rfl, q _ (I.hok.fresh (Nat.le_refl _))⟩
theorem pi_rgv {tg e : Expr} {te : TE} (he : PE X e te) : PI X tg e (iRgv te) := by
  refine ⟨fun pins s σ H R I h => ?_⟩
  refine thn (he.run pins s σ H _ I h) fun v s1 ⟨x, H1, I1, r1, q1⟩ => ?_
  obtain ⟨p, i, j, k, n, e1, hp, ⟨c0, c1, c2, c3⟩, q⟩ := q1
  subst e1
  cases r1
  obtain ⟨⟨t, u, v, hr⟩, _⟩ := I1.hok _ _ hp
  refine wpAny_pyIter_range hr c2 ?_
  refine pi_one (tk := s1.toks) I1 _ (turn_rangeC _ i k n) ?_ q
  have e1 : i + ((0 : Nat) : Int) * k = i := by simp
  have e2 : (n : Int) - ((0 : Nat) : Int) = Builtin.Range.rangeSize i j k := by rw [c3]; simp
  show IsRangeIter _ _ (i + ((0 : Nat) : Int) * k) ((n : Int) - ((0 : Nat) : Int)) k
  rw [e1, e2]
  exact Heap.get?_push_size _ rfl
end
theorem v_iRgv {te : TE} {σ : L2.St} {H : Hp} {R : It → Hp → Prop} (h : te σ H fun x H1 => ∃ (p : Addr) (i j c : Int) (n : Nat), x = .ref p ∧ H1 p = some (RgO p i j c) ∧ RgC i j c n ∧ R (Itc i c n) H1) : iRgv te σ H R := h
theorem lc_rangeC {lo c : Int} {n : Nat} {g : TG} {tt : TT} {te : TE} {vs : List Nat} {σ : L2.St} {H1 : Hp} {D : Addr} {Qd : Hp → Prop} (Pv : Nat → Hp → Prop) (h0 : Pv 0 (upd H1 D (.lst [])))
    (hs : ∀ i H, i < n → Pv i H → g (.int (lo + i * c)) (wipe σ vs) H fun σ2 H2 => wipe σ2 vs = wipe σ vs ∧ tt σ2 H2 fun b H3 =>
      if b = true then te σ2 H3 fun y H4 => ∃ acc, H4 D = some (.lst acc) ∧ acc.length < sizeLine ∧ Pv (i + 1) (upd H4 D (.lst (acc ++ [y]))) else Pv (i + 1) H3) (hd : ∀ H, Pv n H → Qd H) :
    ∃ W : Nat → Nat → Hp → Prop, (∃ m, W 0 m (upd H1 D (.lst []))) ∧ ∀ i m H, W i m H →
      ((Itc lo c n).stop i H ∧ Qd H) ∨ ((Itc lo c n).go i H ∧ ∃ Nx : Hp → Prop, (∀ H', Nx H' → ∃ m', m' < m ∧ W (i + 1) m' H') ∧ ∀ x H', (Itc lo c n).yld i H x H' → g x (wipe σ vs) H' fun σ2 H2 => wipe σ2 vs = wipe σ vs ∧ tt σ2 H2 fun b H3 =>
        if b = true then te σ2 H3 fun y H4 => ∃ acc, H4 D = some (.lst acc) ∧ acc.length < sizeLine ∧ Nx (upd H4 D (.lst (acc ++ [y]))) else Nx H3) := by
  refine ⟨fun i m H => m = n - i ∧ i ≤ n ∧ Pv i H, ⟨n, by simp, Nat.zero_le _, h0⟩, ?_⟩
  rintro i m H ⟨rfl, hi, p⟩
  by_cases hlt : i < n
  · refine .inr ⟨hlt, Pv (i + 1), fun H' p' => ⟨n - (i + 1), by omega, rfl, hlt, p'⟩, fun x H' y => ?_⟩
    obtain ⟨e, y⟩ := y
    subst e y
    exact hs i _ hlt p
  · have e : i = n := by omega
    subst e
    exact .inl ⟨Nat.le_refl _, hd H p⟩
/-! ### a, *b = a tuple -/
theorem tuple_from {prog : Program} {w : World} {A : Around} (hh : A.handled = none) (I ax : Addr) (hne : ax ≠ I) (x : Value) (items : List Value) :
    Walks prog w A I [I, ax] [I] items.length (fun i v => items[i]? = some v) (fun i h => h.IsTupleIter I ax (1 + i) ∧ h.IsTuple ax (x :: items).toArray) where
  sub := fun b hb => by simp at hb; simp [hb]
  frame := fun _ _ _ st hk => ⟨st.1.at fun o e => hk I (by simp) o e, st.2.at fun o e => hk ax (by simp) o e⟩
  item := fun i s Q E hi st hQ => by
    refine wpAny_pyNext_tuple_item st.1 st.2 (x := items[i]) (by simp [Nat.add_comm 1 i, hi]) fun h' hit' hs' => ?_
    exact hQ _ h' s.toks (by simp [hi]) ⟨by rw [← Nat.add_assoc]; exact hit', st.2.extBut hs'.extBut hne⟩ fun b o hb e => hs'.extBut b o (fun h => hb (by simp [h])) e
  done := fun s Q E st hQ => wpAny_pyNext_tuple_end hh st.1 st.2 (by simp [Nat.add_comm 1]) fun h' he' => hQ h' s.toks fun b o hb e => he' b o (fun h => hb (by simp [h])) e
  self := fun _ _ _ _ st hQ => wpAny_pyIter_tupleiter st.1 hQ
def gHead (K : PySem.W.Frag) (g1 g2 : TG) : TG := fun v σ H Q => ∃ a x xs, v = .ref a ∧ SqT K H a (x :: xs) ∧ xs.length ≤ 1000 ∧ ∀ l, H l = none → g1 x σ (upd H l (.lst xs)) fun σ1 H1 => g2 (.ref l) σ1 H1 Q
section
variable {X : Cx}
theorem pg_head {t1 t2 : Expr} {p2 pos : Pos} {k : Nat} {g1 g2 : TG} (hc : X.calm = true) (h1 : PG X t1 g1) (h2 : PG X t2 g2)
    (hs : assignEach [t1, .Starred t2 p2] X.env = [(false, assign t1 X.env), (true, assign t2 X.env)] := by rfl) : PG X (.Tuple [t1, .Starred t2 p2] k pos) (gHead X.K g1 g2) := by
  refine ⟨fun pins s σ H v u Q I r hw => ?_⟩
  obtain ⟨a, x, xs, e1, hq, hl, hw⟩ := hw
  subst e1
  cases r
  obtain ⟨its, rv, ht, hz⟩ := I.tuple hq
  cases rv with
  | cons rx rxs =>
    rename_i ux uxs
    have hlt : a ≠ s.heap.objs.size := by obtain ⟨o, ho, _⟩ := ht; exact Nat.ne_of_lt (Heap.lt_size ho)
    rw [assign_Tuple]
    refine wpAny_bind (wpAny_standAt ?_)
    unfold unpack
    rw [hs]
    refine wpAny_bind (wpAny_holding ?_)
    show wpAny _ _ (unpackItems (.ref a) 2 (some 1)) _ _ _
    unfold unpackItems
    refine wpAny_bind ?_
    unfold notIterableAtAll
    refine wpAny_bind (wpAny_specialOf ht.typeIs slot_tuple_iter.lookup ?_)
    refine wpAny_pure ?_
    simp only [Bool.false_eq_true, if_false]
    refine wpAny_bind (wpAny_holding (iter_tuple ht ?_))
    refine wpAny_bind (wpAny_holding (draw_tuple hlt 1 0 _ _ ⟨_, Heap.get?_push_size _ rfl, rfl, rfl⟩ (ht.push _) (by simp) fun h₁ hit₁ hs₁ => ?_))
    have e0 : List.take 1 (List.drop 0 ((ux :: uxs).toArray.toList)) = [ux] := by simp
    rw [e0]
    rw [if_neg (by simp)]
    have ht₁ : IsTup h₁ a (ux :: uxs).toArray := (ht.push _).extBut hs₁.extBut hlt
    have hz1 : s.heap.objs.size < h₁.objs.size := by obtain ⟨o, ho, _⟩ := hit₁; exact Heap.lt_size ho
    refine wpAny_bind (wpAny_holding (wpAny_collect_iter (.inr (.inr (.inr rfl))) (tuple_from (A := X.A.in1) (I.ok.hd hc) s.heap.objs.size a hlt ux uxs).toS (fun _ _ st => Heap.IsTupleIter.typeIs st.1) ⟨hit₁, ht₁⟩ (fun b hb => ?_) (List.mem_cons_self) (fun s' acc hm ha => ?_) ?_))
    · rcases List.mem_cons.mp hb with rfl | hb
      · exact hz1
      · rw [List.mem_singleton.mp hb]
        obtain ⟨o, ho, _⟩ := ht₁
        exact Heap.lt_size ho
    · have ea : acc.toList = uxs := by
        obtain ⟨n1, n2⟩ := ha
        refine List.ext_getElem? fun i => ?_
        cases e : acc[i]? with
        | some y => rw [n2 i y e, Array.getElem?_toList, e]
        | none =>
          have : acc.size ≤ i := by simpa using e
          rw [List.getElem?_eq_none (by simpa using this), List.getElem?_eq_none (by omega)]
      rw [ea]
      rw [if_neg (by simp)]
      have kk : ∀ b o, s.heap.get? b = some o → s'.heap.get? b = some o := fun b o e => hm.heap b o (fun z => by
        rw [List.mem_singleton.mp z] at e
        exact absurd (Heap.lt_size e) (Nat.lt_irrefl _)) (hs₁.extBut b o (Nat.ne_of_lt (Heap.lt_size e)) (Heap.get?_push_of_some _ e))
      rw [show 2 - 1 - 1 = 0 from rfl, Nat.sub_zero, List.take_length, List.drop_length]
      have I1 : Inv X pins σ H s' := by
        have q := I.kept (t' := s'.toks) kk
        obtain ⟨hp', g', d', tk', os'⟩ := s'
        have e2 : g' = s.gens := hm.gens
        have e3 : d' = s.drawn := hm.drawn
        have e4 : os' = s.os := hm.os
        subst e2 e3 e4
        exact q
      refine wpAny_bind (wpAny_newList ?_ ?_)
      · refine wpAny_pure ?_
        have I2 : Inv X pins σ (upd H s'.heap.objs.size (.lst xs)) { s' with heap := s'.heap.push { cls := .type "list", data := .seq uxs.toArray } } :=
          I1.laid (t' := s'.toks) (fun b u e => Heap.get?_push_of_some _ e) (Nat.le_refl _) (show ObjOk X.prog X.w _ _ _ (.lst xs) from ⟨Nat.le_trans hl (by decide), uxs, _, rxs, Heap.get?_push_size _ rfl⟩)
        show wpAny _ _ (assignInOrder [assign t1 X.env, assign t2 X.env] [ux, .ref s'.heap.objs.size]) _ _ _
        refine assignInOrder_cons (thn (h1.run pins _ σ _ x ux _ I2 rx (hw _ (I1.hok.fresh (Nat.le_refl _)))) fun _ s3 ⟨σ3, H3, I3, q3⟩ => ?_)
        refine assignInOrder_cons (thn (h2.run pins s3 σ3 H3 (.ref s'.heap.objs.size) _ _ I3 rfl q3) fun _ s4 ⟨σ4, H4, I4, q4⟩ => ?_)
        exact assignInOrder_nil ⟨σ4, H4, I4, q4⟩
      · rw [← rxs.length]
        exact Nat.le_trans hl (by decide)
    · rw [← rxs.length]
      exact Nat.le_trans hl (by decide)
end
/-! ### any, of ints by their truth -/
def rAnyI (K : PySem.W.Frag) : List V → Hp → VK → Prop := fun vs H Q => ∃ (a : Addr) (ns : List Int), vs = [V.ref a] ∧ SqL K H a (ns.map V.int) ∧ Q (.bl (ns.any (· ≠ 0))) H
section
variable {X : Cx}
theorem truth_ints {prog : Program} {w : World} {A : Around} {ns : List Int} {its : List Value} (e : Vals (ns.map V.int) its) :
    TruthOf prog w A (fun i v => its.toArray[i]? = some v) (fun i => (ns.map fun z => decide (z ≠ 0)).getD i false) := fun i v s Q E hv hq => by
  have hv' : its[i]? = some v := by simpa using hv
  have hi : i < its.length := by
    rcases Nat.lt_or_ge i its.length with h | h
    · exact h
    · rw [List.getElem?_eq_none h] at hv'; cases hv'
  have el := Paired.length e
  rw [List.length_map] at el
  have hn : ns[i]? = some (ns[i]'(by omega)) := List.getElem?_eq_getElem (by omega)
  generalize ns[i]'(by omega) = n at hn
  obtain ⟨w', hw, rw'⟩ := Vals.get e (i := i) (by rw [List.getElem?_map, hn]; rfl)
  rw [hv'] at hw
  cases hw
  obtain ⟨t, rfl⟩ := rw'
  have hg : (ns.map (fun z => decide (z ≠ 0))).getD i false = (n != 0) := by rw [List.getD_eq_getElem?_getD, List.getElem?_map, hn, bne, Option.map_some, Option.getD_some]; by_cases h : n = 0 <;> simp [h]
  have hq' : Q ((ns.map (fun z => decide (z ≠ 0))).getD i false) s := hq
  rw [hg] at hq'
  exact PyProof.Rows.truthy_int hq'
theorem cr_anyI (hc : X.calm = true) : CallR X (.builtin "any") (rAnyI X.K) := by
  intro pins s σ H vs us Q I r h
  obtain ⟨a, ns, rfl, hs, q⟩ := h
  obtain ⟨its, rv, hl, _⟩ := I.list hs
  rw [Vals.ref1 r]
  refine call_any_walk (iter_any hl.isList fun s₂ e2 st hne => ?_)
  subst e2
  refine ⟨_, _, _, _, _, _, _, rfl, Walks.list (A := X.A.in1) (I.ok.hd hc) _ a hne its.toArray, st, truth_ints rv, fun h' tk hk => ?_⟩
  refine ⟨.bl _, H, I.kept fun b o eo => hk b o (fun hmem => ?_) (Heap.get?_push_of_some _ eo), ?_, q⟩
  · rcases List.mem_cons.mp hmem with e1 | hmem
    · exact absurd (e1 ▸ Heap.lt_size eo) (Nat.lt_irrefl _)
    · cases hmem
  · show Value.bool _ = Value.bool _
    have e := rv.length
    rw [List.length_map] at e
    rw [show ns.any (fun z => decide (z ≠ 0)) = (ns.map fun z => decide (z ≠ 0)).any id by rw [List.any_map]; rfl, ← L2.any_range, List.size_toArray, List.length_map, ← e]
end
theorem v_rng3 {i j c : Int} {H : Hp} {Q : VK} (c0 : c ≠ 0) (c1 : c.natAbs < 1073741824) (q : ∀ p, H p = none → Q (.ref p) (upd H p (RgO p i j c))) : rRange3 [.int i, .int j, .int c] H Q := ⟨i, j, c, rfl, c0, c1, q⟩
theorem v_anyI {K : PySem.W.Frag} {H : Hp} {Q : VK} {p : Addr} {ns : List Int} (h : SqL K H p (ns.map V.int)) (q : Q (.bl (ns.any (· ≠ 0))) H) : rAnyI K [.ref p] H Q := ⟨p, ns, rfl, h, q⟩
theorem v_head {K : PySem.W.Frag} {g1 g2 : TG} {a : Addr} {x : V} {xs : List V} {σ : L2.St} {H : Hp} {Q : L2.St → Hp → Prop} (h : SqT K H a (x :: xs)) (hl : xs.length ≤ 1000) (q : ∀ (l : Addr) (H' : Hp), H l = none → Same H H' → H' l = some (.lst xs) → g1 x σ H' fun σ1 H1 => g2 (.ref l) σ1 H1 Q) : gHead K g1 g2 (.ref a) σ H Q :=
  ⟨a, x, xs, rfl, h, hl, fun l hl => q l _ hl (same_new hl) upd_same⟩
/-! ### the units of data -/
theorem fold_split : ∀ (B : List Nat) (d : Nat), B.foldl (fun d x => d * 65536 + x) d = d * 65536 ^ B.length + B.foldl (fun d x => d * 65536 + x) 0
  | [], d => by simp
  | b :: B, d => by
    rw [List.foldl_cons, List.foldl_cons, fold_split B (d * 65536 + b), fold_split B (0 * 65536 + b), List.length_cons, Nat.pow_succ]
    rw [Nat.zero_mul, Nat.zero_add, Nat.add_mul, Nat.mul_assoc, Nat.mul_comm 65536 (65536 ^ B.length)]
    omega
theorem digit {A B : List Nat} {x : Nat} (hx : x < 65536) (hB : ∀ n ∈ B, n < 65536) :
    (A ++ x :: B).foldl (fun d x => d * 65536 + x) 0 / 65536 ^ B.length % 65536 = x := by
  have hb := foldl_lt B 0 0 hB (by decide)
  rw [Nat.zero_add] at hb
  rw [List.foldl_append, List.foldl_cons, fold_split B]
  rw [Nat.add_comm, Nat.add_mul_div_right _ _ (Nat.pow_pos (by decide)), Nat.div_eq_of_lt hb, Nat.zero_add]
  omega
theorem fold_zeros : ∀ (k d : Nat), (List.replicate k 0).foldl (fun d x => d * 65536 + x) d = d * 65536 ^ k
  | 0, d => by simp
  | k + 1, d => by
    rw [List.replicate_succ, List.foldl_cons, fold_zeros k, Nat.add_zero, Nat.pow_succ, Nat.mul_assoc, Nat.mul_comm 65536]
def rowU (ns : List Nat) : List Nat := ns.length :: ns ++ List.replicate (31 - ns.length) 0
theorem dataOf_units (ns : List Nat) : dataOf ns = (rowU ns).foldl (fun d x => d * 65536 + x) 0 := by
  unfold dataOf rowU fold
  rw [List.foldl_append, List.foldl_cons, fold_zeros, Nat.zero_mul, Nat.zero_add, show (65536 : Nat) = 2 ^ 16 by decide, ← Nat.pow_mul]
theorem rowU_lt {ns : List Nat} (hn : ∀ n ∈ ns, n < 65536) (hl : ns.length ≤ 31) : ∀ n ∈ rowU ns, n < 65536 := by
  intro n h
  unfold rowU at h
  rcases List.mem_append.mp h with h | h
  · rcases List.mem_cons.mp h with rfl | h
    · omega
    · exact hn n h
  · rw [(List.mem_replicate.mp h).2]
    decide
theorem rowU_len {ns : List Nat} (hl : ns.length ≤ 31) : (rowU ns).length = 32 := by
  unfold rowU
  rw [List.length_append, List.length_cons, List.length_replicate]
  omega
theorem unit_at {ns : List Nat} (hn : ∀ n ∈ ns, n < 65536) (hl : ns.length ≤ 31) {i x : Nat} (h : (rowU ns)[i]? = some x) : wordD (dataOf ns) / 2 ^ (506 - 16 * i) % 65536 = x := by
  have hi : i < 32 := by
    rw [← rowU_len hl]
    rcases Nat.lt_or_ge i (rowU ns).length with h' | h'
    · exact h'
    · rw [List.getElem?_eq_none h'] at h; cases h
  have hlt := rowU_lt hn hl
  have e : rowU ns = (rowU ns).take i ++ x :: (rowU ns).drop (i + 1) := by
    have hi' : i < (rowU ns).length := by rw [rowU_len hl]; exact hi
    rw [List.getElem?_eq_getElem hi'] at h
    have h2 := Option.some.inj h
    rw [← h2, List.getElem_cons_drop, List.take_append_drop]
  have hB : ((rowU ns).drop (i + 1)).length = 31 - i := by
    rw [List.length_drop, rowU_len hl]
    omega
  have d := digit (A := (rowU ns).take i) (x := x) (B := (rowU ns).drop (i + 1)) (hlt x (List.mem_of_getElem? h)) (fun n hn => hlt n (List.mem_of_mem_drop hn))
  rw [← e, ← dataOf_units, hB] at d
  rw [show 2 ^ (506 - 16 * i) = 1024 * 65536 ^ (31 - i) by
    rw [show (65536 : Nat) = 2 ^ 16 by decide, show (1024 : Nat) = 2 ^ 10 by decide, ← Nat.pow_mul, ← Nat.pow_add]
    congr 1
    omega]
  rw [← Nat.div_div_eq_div_mul, wordD_div]
  exact d
theorem unit_row {ns : List Nat} (hn : ∀ n ∈ ns, n < 65536) (hl : ns.length ≤ 31) : (List.range 32).map (fun i => wordD (dataOf ns) / 2 ^ (506 - 16 * i) % 65536) = rowU ns := by
  refine List.ext_getElem? fun i => ?_
  rw [List.getElem?_map]
  rcases Nat.lt_or_ge i 32 with hi | hi
  · have hi' : i < (rowU ns).length := by rw [rowU_len hl]; exact hi
    rw [List.getElem?_range hi, Option.map_some, List.getElem?_eq_getElem hi', unit_at hn hl (List.getElem?_eq_getElem hi')]
  · rw [List.getElem?_eq_none (by rw [List.length_range]; exact hi), List.getElem?_eq_none (by rw [rowU_len hl]; exact hi), Option.map_none]
theorem cut_from (xs ys : List V) (k : Nat) (h : xs.length = k) : cutV (xs ++ ys) (some (k : Int)) none = ys := by
  have e : HT.sIx (xs ++ ys).length 0 (some (k : Int)) = k := by
    rw [HT.sIx_nat, List.length_append]
    omega
  have e2 : HT.sIx (xs ++ ys).length (xs ++ ys).length none = (xs ++ ys).length := rfl
  unfold cutV
  rw [e, e2, ← h, List.drop_left, List.length_append, List.take_of_length_le (by omega)]
theorem cut_to (xs ys : List V) (k : Nat) (h : xs.length = k) : cutV (xs ++ ys) none (some (k : Int)) = xs := by
  have e : HT.sIx (xs ++ ys).length (xs ++ ys).length (some (k : Int)) = k := by
    rw [HT.sIx_nat, List.length_append]
    omega
  have e2 : HT.sIx (xs ++ ys).length 0 none = 0 := rfl
  unfold cutV
  rw [e, e2, ← h, List.drop_zero, Nat.sub_zero, List.take_left]
end Vc
namespace Vc
open PySem PySem.Spec PyProof.Rows L2
/-! ### enumerate(a tuple) -/
section
variable {prog : Program} {w : World} {A : Around} {E : Value → Shared → Prop} {s : Shared}
theorem tup_next {j a : Addr} {i : Nat} {xs : Array Value} {v : Value} {Q : Value → Shared → Prop} (hj : IsTupIter s.heap j a i) (ha : IsTup s.heap a xs) (hv : xs[i]? = some v)
    (q : ∀ h', IsTupIter h' j a (i + 1) → Heap.SameBut j s.heap h' → Q v { s with heap := h' }) : wpAny (model prog w) A (Builtin.SmallTypes.nextOf (.ref j)) Q E s := by
  obtain ⟨oj, gj, cj, dj⟩ := id hj
  obtain ⟨oa, ga, _, na, da⟩ := ha
  unfold Builtin.SmallTypes.nextOf
  refine wpAny_bind (wpAny_callSpecial?_slot (name := Str.ofString "__next__") hj.typeIs slot_tupleiter_next (wpAny_call_entry slot_tupleiter_next hj.typeIs entry_tupleiter_next ?_ (args_tupleiter_next _)))
  show wpAny _ _ (field (.ref j) 0 >>= _) _ _ s
  refine wpAny_bind (wpAny_field gj dj (x := .ref a) rfl ?_)
  show wpAny _ _ (if (Value.ref a == Value.none) = true then _ else _) _ _ s
  rw [if_neg (show ¬ ((Value.ref a == Value.none) = true) from Bool.false_ne_true)]
  show wpAny _ _ (field (.ref j) 1 >>= _) _ _ s
  refine wpAny_bind (wpAny_field gj dj (x := .int i 0) rfl ?_)
  show wpAny _ _ (seqItems? (.ref a) >>= _) _ _ s
  refine wpAny_bind (wpAny_seqItems ga da ?_)
  simp only [Int.toNat_natCast, hv]
  refine wpAny_bind (wpAny_setField gj dj (by simp) (wpAny_pure ⟨v, rfl, wpAny_pure (q _ ⟨_, Heap.get?_update_self _ gj (Obj.isFreed_of_fields (Obj.data_mapFields dj _)), (Obj.cls_mapFields ..).trans cj, ?_⟩ (Heap.SameBut.update ..))⟩))
  rw [Obj.data_mapFields dj]
  simp [rawInt]
theorem tup_last {j a : Addr} {i : Nat} {xs : Array Value} {Q : Value → Shared → Prop} (hh : A.handled = none) (hj : IsTupIter s.heap j a i) (ha : IsTup s.heap a xs) (hv : xs[i]? = none)
    (q : ∀ h' e, Heap.ExtBut j s.heap h' → (∃ o, h'.get? e = some o ∧ o.cls = .type "StopIteration") → E (.ref e) { s with heap := h' }) : wpAny (model prog w) A (Builtin.SmallTypes.nextOf (.ref j)) Q E s := by
  obtain ⟨oj, gj, cj, dj⟩ := id hj
  obtain ⟨oa, ga, _, na, da⟩ := ha
  unfold Builtin.SmallTypes.nextOf
  refine wpAny_bind (wpAny_callSpecial?_slot (name := Str.ofString "__next__") hj.typeIs slot_tupleiter_next (wpAny_call_entry slot_tupleiter_next hj.typeIs entry_tupleiter_next ?_ (args_tupleiter_next _)))
  show wpAny _ _ (field (.ref j) 0 >>= _) _ _ s
  refine wpAny_bind (wpAny_field gj dj (x := .ref a) rfl ?_)
  show wpAny _ _ (if (Value.ref a == Value.none) = true then _ else _) _ _ s
  rw [if_neg (show ¬ ((Value.ref a == Value.none) = true) from Bool.false_ne_true)]
  show wpAny _ _ (field (.ref j) 1 >>= _) _ _ s
  refine wpAny_bind (wpAny_field gj dj (x := .int i 0) rfl ?_)
  show wpAny _ _ (seqItems? (.ref a) >>= _) _ _ s
  refine wpAny_bind (wpAny_seqItems ga da ?_)
  simp only [Int.toNat_natCast, hv]
  refine wpAny_bind (wpAny_rule (wpAny_bind (wpAny_setField gj dj (by simp) ?_)))
  show wpAny _ _ (newExc (.type "StopIteration") [] >>= _) _ _ _
  refine wpAny_bind ?_
  simp only [newExc, newTuple]
  refine wpAny_bind (wpAny_newObj_type ?_ (by size_fits))
  refine wpAny_bind (m := firstArgMember _ _) (wpAny_of_eq (a := Value.none) (by first | rfl | (simp only [firstArgMember]; rfl)) ?_)
  refine wpAny_newObj_type ?_ (by size_fits)
  simp only [raiseNew]
  refine wpAny_bind (wpAny_handled ?_)
  first | rw [show A.in1.handled = none from hh] | rw [hh]
  refine wpAny_bind (wpAny_pure (wpAny_throw ?_))
  exact q _ _ (((Heap.SameBut.update ..).extBut.push _).push _) ⟨_, Heap.get?_push_size _ rfl, rfl⟩
end
theorem draws_tup {prog : Program} {w : World} {A : Around} (hh : A.handled = none) (j a : Addr) (ne : a ≠ j) (xs : Array Value) :
    Draws prog w A j [j, a] xs.size (fun i v => xs[i]? = some v) (fun i h => IsTupIter h j a i ∧ IsTup h a xs) where
  live := fun _ _ ⟨⟨o, ho, _⟩, _⟩ => ⟨o, ho⟩
  frame := fun _ _ _ ⟨⟨o, ho, r⟩, ⟨o2, ho2, r2⟩⟩ k => ⟨⟨o, k j (by simp) _ ho, r⟩, ⟨o2, k a (by simp) _ ho2, r2⟩⟩
  item := fun i s Q E hi st hQ => tup_next st.1 st.2 (v := xs[i]) (by simp [hi]) fun h' t1 t2 => hQ _ h' s.toks (by simp [hi]) ⟨t1, st.2.extBut t2.extBut ne⟩ t2
  done := fun s Q E st hE => tup_last hh st.1 st.2 (by simp) hE
theorem enum_makes (a : Addr) (xs : Array Value) (n : Nat) (dct : Option Addr) (sl : Array (Option Value)) :
    Meets (Builtin.«enumerate.__new__» ⟨[.type "enumerate", .ref a], []⟩) (fun _ R s => s.heap.get? a = some { cls := .type "tuple", dict := dct, data := .seq xs n, slots := sl } ∧
      R (.ok (.ret (.ref (s.heap.push { cls := .type "tuple_iterator", data := .fields #[.ref a, .int 0 0] }).objs.size)))
        { s with heap := (s.heap.push { cls := .type "tuple_iterator", data := .fields #[.ref a, .int 0 0] }).push { cls := .type "enumerate", data := .fields #[.none, .bool false, .ref s.heap.objs.size, rawInt 0, .none, .none] } }) :=
  .of_wp fun prog w A R s hyp => by
    obtain ⟨hp, gs, dr, tk, os⟩ := s
    obtain ⟨ha, hyp⟩ := hyp
    have se := sub_enumerate
    have isT : IsTup (Shared.heap ⟨hp, gs, dr, tk, os⟩) a xs := ⟨_, ha, rfl, n, rfl⟩
    wp_walk using AutoSeq1.wpAny_loadPart' ha
    refine wpAny_stack_any fun _ => wpAny_pure ?_
    split
    · rename_i c _ _ _ _ _
      cases (c == Value.type "enumerate") <;> wp_walk using AutoSeq1.wpAny_loadPart' ha, iter_tuple isT <;> exact ⟨_, rfl, hyp⟩
    · wp_walk using AutoSeq1.wpAny_loadPart' ha, iter_tuple isT
      exact ⟨_, rfl, hyp⟩
end Vc
namespace Vc
open PySem PySem.Spec PyProof.Rows L2
theorem enum_tup {prog : Program} {w : World} {A : Around} {E : Value → Shared → Prop} {s : Shared} {a : Addr} {xs : Array Value} {Q : Value → Shared → Prop} (ha : IsTup s.heap a xs)
    (h : ∀ h', IsEnum h' (s.heap.objs.size + 1) s.heap.objs.size 0 .none → IsTupIter h' s.heap.objs.size a 0 → (∀ b o, s.heap.get? b = some o → h'.get? b = some o) → Q (.ref (s.heap.objs.size + 1)) { s with heap := h' }) :
    wpAny (model prog w) A (call (.type "enumerate") [.ref a]) Q E s := by
  obtain ⟨⟨c, dct, dt, sl⟩, ga, gc, n, gd⟩ := ha
  replace gc : c = .type "tuple" := gc
  replace gd : dt = .seq xs n := gd
  subst gc gd
  refine callType_new F.called_enumerate (by decide) (F.typeCall_enumerate_1 _) (F.newCall_enumerate_1 _) (fun ob => F.args_object_init_2 ob _) F.entry_enumerate_new (enum_makes a xs n dct sl) ⟨ga, ?_⟩
  have z : (s.heap.push { cls := .type "tuple_iterator", data := .fields #[.ref a, .int 0 0] }).objs.size = s.heap.objs.size + 1 := Heap.size_push ..
  have g := Heap.get?_push_size (s.heap.push { cls := .type "tuple_iterator", data := .fields #[.ref a, .int 0 0] })
    (o := { cls := .type "enumerate", data := .fields #[.none, .bool false, .ref s.heap.objs.size, rawInt 0, .none, .none] }) rfl
  show _ ∧ _
  rw [z] at g ⊢
  exact ⟨⟨_, g, rfl⟩, h _ g ⟨_, Heap.get?_push_of_some _ (Heap.get?_push_size _ rfl), rfl, rfl⟩ fun b o x => Heap.get?_push_of_some _ (Heap.get?_push_of_some _ x)⟩
theorem draws_end {prog : Program} {w : World} {A : Around} (hh : A.handled = none) (j a : Addr) (ne : a ≠ j) (xs : Array Value) (i : Nat) (hn : xs[i]? = none) :
    Draws prog w A j [j, a] i (fun _ _ => True) (fun k h => k = i ∧ IsTupIter h j a i ∧ IsTup h a xs) where
  live := fun _ _ st => let ⟨_, ⟨o, ho, _⟩, _⟩ := st; ⟨o, ho⟩
  frame := fun _ _ _ st k => let ⟨e, ⟨o, ho, r⟩, ⟨o2, ho2, r2⟩⟩ := st; ⟨e, ⟨o, k j (by simp) _ ho, r⟩, ⟨o2, k a (by simp) _ ho2, r2⟩⟩
  item := fun k s Q E hi st hQ => absurd st.1 (Nat.ne_of_lt hi)
  done := fun s Q E st hE => tup_last hh st.2.1 st.2.2 hn hE
/-- the tuple at a, each item in a new pair -/
def Itq (K : PySem.W.Frag) (a : Addr) : It :=
  ⟨fun i H => ∃ (xs : List V) (x : V), SqT K H a xs ∧ xs[i]? = some x, fun i H v H' => ∃ T x, v = .ref T ∧ H T = none ∧ H' = upd H T (.tup [.int (i : Nat), x]) ∧ ∀ xs, SqT K H a xs → xs[i]? = some x, fun i H => ∃ xs : List V, SqT K H a xs ∧ xs.length ≤ i⟩
theorem turn_q {P : Program} {w : World} {K : PySem.W.Frag} {elts : List Expr} {kk : Nat} {tpos : Pos} (a e it : Addr) :
    Turn P w K (.Tuple elts kk tpos) (Itq K a) [e, it] e (fun i h => (∃ old, IsEnum h e it ((i : Nat) : Int) old) ∧ IsTupIter h it a i ∧ e ≠ it ∧ a ≠ it ∧ a ≠ e) where
  mem := List.mem_cons_self
  obj := fun i h st b hb => by
    obtain ⟨⟨old, he⟩, ⟨o, ho, hc, hd⟩, hr⟩ := st
    rcases List.mem_cons.mp hb with z | z
    · subst z
      exact ⟨_, he, fun v q => nomatch q⟩
    · rw [List.mem_singleton.mp z]
      exact ⟨o, ho, fun v q => by rw [hd] at q; cases q⟩
  keep := fun i h h' st k => let ⟨⟨old, he⟩, ⟨o, ho, r⟩, ne⟩ := st; ⟨⟨old, k e (by simp) _ he⟩, ⟨o, k it (by simp) _ ho, r⟩, ne⟩
  item := by
    intro X hP hw hK hc i pins s σ H E I hf st hg
    subst hP hw hK
    obtain ⟨⟨old, he⟩, hit, ne, na, ne2⟩ := st
    obtain ⟨xs, x, hq, hx⟩ := hg
    obtain ⟨its, rv, p, hz⟩ := I.tuple hq
    obtain ⟨u, hu, ru⟩ := rv.get hx
    have lt_e : e < s.heap.objs.size := Heap.lt_size he
    have lt_i : it < s.heap.objs.size := by obtain ⟨_, g, _⟩ := hit; exact Heap.lt_size g
    have hui : its.toArray[i]? = some u := by simpa using hu
    have hlt : i < its.toArray.size := by
      rcases Nat.lt_or_ge i its.toArray.size with z | z
      · exact z
      · rw [Array.getElem?_eq_none z] at hui; cases hui
    refine wpAny_pyNext_enum_itemD (draws_tup (A := X.A.in1) (I.ok.hd hc) it a na its.toArray) he ⟨hit, p⟩ hlt ne (by simp [ne, Ne.symm ne2]) fun x' h' tk hx' ho st' hT hsz hk => ?_
    have ex : x' = u := by
      have hx' : its.toArray[i]? = some x' := hx'
      rw [hui] at hx'
      exact (Option.some.inj hx').symm
    subst ex
    refine ⟨_, rfl, wpAny_letOwnedTupleGo_enum (s := { s with heap := h', toks := tk + 1 }) ho fun h2 he2 sb => ?_⟩
    have hT2 := (sb.2 _ (Nat.ne_of_gt lt_e)).trans hT
    have I1 : Inv X pins σ (upd H s.heap.objs.size (.tup [.int (i : Nat), x])) { s with heap := h2, toks := tk + 1 } :=
      I.turnedNew (ch := [e, it]) (fun b ob hb q => (sb.2 b (fun z => hb (by simp [z]))).trans (hk b ob (fun z => hb (by simp [z])) (fun z => hb (by simp [z])) q)) hf (Nat.le_refl _)
        (show ObjOk X.prog X.w _ h2 _ (.tup _) from ⟨by show 2 ≤ sizeLine; decide, [.int i tk, x'], .cons ⟨_, rfl⟩ (.cons ru .nil), ⟨_, hT2, rfl, _, rfl⟩⟩)
    refine ⟨.ref s.heap.objs.size, _, I1, rfl, ⟨_, x, rfl, I.hok.fresh (Nat.le_refl _), rfl, fun ys hy => ?_⟩, ⟨⟨x', by rw [show ((i + 1 : Nat) : Int) = (i : Int) + 1 by omega]; exact he2⟩, ?_, ne, na, ne2⟩, fun b hb => ?_⟩
    · rw [I.tuple_inj hy hq]
      exact hx
    · obtain ⟨o, g, r⟩ := st'.1
      exact ⟨o, (sb.2 it (Ne.symm ne)).trans g, r⟩
    · have hb' : b < s.heap.objs.size := by
        rcases List.mem_cons.mp hb with z | z
        · rw [z]; exact lt_e
        · rw [List.mem_singleton.mp z]; exact lt_i
      rw [upd_ne (Nat.ne_of_lt hb')]
      exact (hf b hb).1
  done := by
    intro X hP hw hK hc i pins s σ H E I hf st hg
    subst hP hw hK
    obtain ⟨⟨old, he⟩, hit, ne, na, ne2⟩ := st
    obtain ⟨xs, hq, hx⟩ := hg
    obtain ⟨its, rv, p, hz⟩ := I.tuple hq
    obtain ⟨f0, f1, f2, f3, f4, f5⟩ := hf it (by simp)
    have hn : its.toArray[i]? = none := by
      have := rv.length
      simp
      omega
    exact wpAny_pyNext_enum_endD (draws_end (A := X.A.in1) (I.ok.hd hc) it a na its.toArray i hn) he ⟨rfl, hit, p⟩ fun h' eb => ⟨rfl, I.turned (t' := s.toks) (fun b o hb q => eb b o hb q) f0 f1 f3 f4 f5⟩
  self := fun A i s Q E st h => let ⟨⟨_, he⟩, _⟩ := st; wpAny_pyIter_enum he h
def iEnq (K : PySem.W.Frag) (ta : TA) : TI := fun σ H R => ta σ H fun vs H1 => ∃ a xs, vs = [.ref a] ∧ SqT K H1 a xs ∧ R (Itq K a) H1
theorem v_iEnq {K : PySem.W.Frag} {ta : TA} {σ : L2.St} {H : Hp} {R : It → Hp → Prop} (h : ta σ H fun vs H1 => ∃ a xs, vs = [.ref a] ∧ SqT K H1 a xs ∧ R (Itq K a) H1) : iEnq K ta σ H R := h
theorem pi_enq {X : Cx} {e : Expr} {ta : TA} {p pos tpos : Pos} {elts : List Expr} {kk : Nat} (hg : Gl X "enumerate") (hm : X.mg "enumerate" = none) (ha : PA X [e] ta) (hs : starEach [e] X.env = [(false, eval e X.env)] := by rfl) :
    PI X (.Tuple elts kk tpos) (.Call (.Name "enumerate" p) [e] [] pos) (iEnq X.K ta) := by
  refine ⟨fun pins s σ H R I h => Call_ (ld_blt I hg hm boot_enumerate (PyProof.Rows.callWith_type1 (thn (ha.run pos pins s σ H _ I h) fun us s1 ⟨vs, H1, I1, r1, q1⟩ => ?_) hs rfl))⟩
  obtain ⟨a, xs, rfl, hq, q⟩ := q1
  obtain ⟨u, rfl, ru⟩ := vals1 r1
  cases ru
  obtain ⟨its, rv, p', hz⟩ := I1.tuple hq
  have la : a < s1.heap.objs.size := by obtain ⟨o, ho, _⟩ := p'; exact Heap.lt_size ho
  refine enum_tup p' fun h' he hit hk => wpAny_pyIter_enum he ⟨s1.heap.objs.size + 1, [s1.heap.objs.size + 1, s1.heap.objs.size], _, _, H1, rfl, I1.kept (t' := s1.toks) hk, turn_q a (s1.heap.objs.size + 1) s1.heap.objs.size,
    ⟨⟨.none, he⟩, hit, Nat.succ_ne_self _, Nat.ne_of_lt la, Nat.ne_of_lt (Nat.lt_succ_of_lt la)⟩, fun b hb => ?_, q⟩
  have hle : s1.heap.objs.size ≤ b := by
    rcases List.mem_cons.mp hb with z | z
    · rw [z]; exact Nat.le_add_right _ _
    · rw [List.mem_singleton.mp z]; exact Nat.le_refl _
  exact I1.fpOk hle (I1.hok.fresh hle)
theorem for_enq {K : PySem.W.Frag} {a : Addr} {xs : List V} {g : TG} {tb : TS} {D : Ends} {σ : L2.St} {H : Hp} (Pv : Nat → L2.St → Hp → Prop) (h0 : Pv 0 σ H) (ht : ∀ i σ H, i ≤ xs.length → Pv i σ H → SqT K H a xs)
    (hs : ∀ i x σ H T H', xs[i]? = some x → Pv i σ H → H T = none → Same H H' → H' T = some (.tup [.int (i : Nat), x]) → g (.ref T) σ H' fun σ2 H2 => tb { D with nx := Pv (i + 1), ct := Pv (i + 1), bk := D.nx } σ2 H2) (hd : ∀ σ H, Pv xs.length σ H → D.nx σ H) :
    ∃ W : Nat → Nat → L2.St → Hp → Prop, (∃ m, W 0 m σ H) ∧ ∀ i m σ H, W i m σ H →
      ((Itq K a).stop i H ∧ D.nx σ H) ∨ ((Itq K a).go i H ∧ ∃ N : L2.St → Hp → Prop, (∀ σ' H', N σ' H' → ∃ m', m' < m ∧ W (i + 1) m' σ' H') ∧ ∀ x H', (Itq K a).yld i H x H' → g x σ H' fun σ2 H2 => tb { D with nx := N, ct := N, bk := D.nx } σ2 H2) := by
  refine ⟨fun i m σ H => m + i = xs.length ∧ Pv i σ H, ⟨xs.length, Nat.add_zero _, h0⟩, ?_⟩
  rintro i m σ H ⟨hm, p⟩
  have t := ht i σ H (by omega) p
  cases m with
  | zero =>
    have e : i = xs.length := by omega
    subst e
    exact .inl ⟨⟨xs, t, Nat.le_refl _⟩, hd σ H p⟩
  | succ m =>
    have hi : xs[i]? = some (xs[i]'(by omega)) := List.getElem?_eq_getElem (by omega)
    refine .inr ⟨⟨xs, _, t, hi⟩, Pv (i + 1), fun σ' H' p' => ⟨m, Nat.lt_succ_self _, by omega, p'⟩, ?_⟩
    rintro x H' ⟨T, y, rfl, hT, rfl, hy⟩
    exact hs i y σ H T _ (hy xs t) p hT (same_new hT) upd_same
/-! ### a local name that holds a def -/
theorem pe_callVG {X : Cx} {k i : Nat} {f : Addr} {fd : FuncData} {ps : List Str} {ds : List Value} {dvs : List V} {sp : Sp} {x : Str} {e : Expr} {es : List Expr} {t : TA} {p pos : Pos}
    (F : FnG X.prog X.w X.K X.mg X.base k f fd ps sp) (hgd : X.A.guards = some []) (hr : Room k X.A) (hk : PySem.W.keepIn X.K (.ref f) = true) (hb : Binds X.K fd ps ds) (hd : Vals dvs ds) (hN : X.N[i]? = some x) (hv : Vis X.env.scope x) (ha : PA X (e :: es) t)
    (h1 : (x == ("__debug__" : Str)) = false := by decide) (h2 : (x == ("__classdict__" : Str)) = false := by decide)
    (he : starEach (e :: es) X.env = (false, eval e X.env) :: starEach es X.env := by rfl) (hpl : (backTo pos (starEach es X.env)).any (·.1) = false := by rfl) :
    PE X (.Call (.Name x p) (e :: es) [] pos) (fun σ H Q => σ[i]? = some (some (.ref f)) ∧ tCall sp dvs E0 t σ H Q) := by
  refine ⟨fun pins s σ H Q I h => ?_⟩
  obtain ⟨hs, h⟩ := h
  refine wpAny_Call_Name_kw (thn ((pe_var (pos := p) (i := i) hN hv h1 h2).run pins s σ H (fun v H1 => v = .ref f ∧ H1 = H) I ⟨.ref f, hs, rfl, rfl⟩) fun u s1 ⟨v, H1, I1, r1, ev, eH⟩ => ?_)
  subst ev eH
  cases r1
  exact PySem.W.callWith_K (h₀ := X.base) I.ok.mod.kin hk (thn (ha.run pos pins s1 σ _ _ I1 h) fun us s2 hh => by obtain ⟨vs, H2, I2, r, q⟩ := hh; exact ⟨I2.kIn, runG F hgd hr hb hd I2 r q⟩) he hpl
/-! ### the type of a tuple -/
theorem ty_tup {K : PySem.W.Frag} {H : Hp} {p : Addr} {xs : List V} (h : SqT K H p xs) : TyX K H (.ref p) (.type "tuple") := by
  rcases h with (h | ⟨o, h⟩) | ⟨o, its, n, e, c, _⟩
  · exact .base (.tup h)
  · exact .fTuple h
  · exact .kTuple e c
theorem v_isTup {K : PySem.W.Frag} {H : Hp} {Q : VK} {p : Addr} {xs : List V} (h : SqT K H p xs) (q : Q (.bl true) H) : rIsi K [.ref p, .ty "tuple"] H Q := ⟨_, _, _, _, true, rfl, .ty _, ty_tup h, kit_ty (by decide +kernel), q⟩
theorem v_star {K : PySem.W.Frag} {te : TE} {t : TA} {σ : L2.St} {H : Hp} {QA : List V → Hp → Prop} (h : te σ H fun x H1 => ∃ p xs, x = V.ref p ∧ (SqT K H1 p xs ∨ SqL K H1 p xs) ∧ t σ H1 fun ys H2 => QA (xs ++ ys) H2) : StX.tStar K te t σ H QA := h
theorem v_aug {i : Nat} {te : TE} {ti : TIp} {D : Ends} {σ : L2.St} {H : Hp} {x : V} (e : σ[i]? = some (some x)) (h : te σ H fun y H1 => ti x y H1 fun z H2 => D.nx (σ.set i (some z)) H2) : tAug i te ti D σ H := ⟨x, e, h⟩
/-! ### numbers set side by side -/
theorem or_side {a b n : Nat} (h : b < 2 ^ n) : a * 2 ^ n ||| b = a * 2 ^ n + b := by
  have := Nat.shiftLeft_add_eq_or_of_lt h a
  rw [Nat.shiftLeft_eq] at this
  exact this.symm
end Vc
namespace Vc
open PySem PySem.Spec PyProof.Rows L2
/-! ### data of any kind, the empty dict too; lists and tuples of it lie outside M -/
inductive D where
  | non
  | bl (b : Bool)
  | int (i : Int)
  | str (s : PySem.Str)
  | lst (xs : List D)
  | tup (xs : List D)
  | dic
mutual
inductive Is (M : Addr → Prop) (H : Hp) : V → D → Prop
  | non : Is M H .non .non
  | bl (b : Bool) : Is M H (.bl b) (.bl b)
  | int (i : Int) : Is M H (.int i) (.int i)
  | str (s : PySem.Str) : Is M H (.str s) (.str s)
  | lst {a : Addr} {xs : List V} {ds : List D} (e : H a = some (.lst xs)) (n : ¬ M a) (h : IsAll M H xs ds) : Is M H (.ref a) (.lst ds)
  | tup {a : Addr} {xs : List V} {ds : List D} (e : H a = some (.tup xs)) (n : ¬ M a) (h : IsAll M H xs ds) : Is M H (.ref a) (.tup ds)
  | dic {a : Addr} (e : H a = some (.dK [])) (n : ¬ M a) : Is M H (.ref a) .dic
inductive IsAll (M : Addr → Prop) (H : Hp) : List V → List D → Prop
  | nil : IsAll M H [] []
  | cons {v : V} {vs : List V} {d : D} {ds : List D} (h : Is M H v d) (t : IsAll M H vs ds) : IsAll M H (v :: vs) (d :: ds)
end
def Fr (M : Addr → Prop) (H H' : Hp) : Prop := ∀ b o, ¬ M b → H b = some o → H' b = some o
section
variable {M M' : Addr → Prop} {H H' : Hp}
mutual
theorem Is.to (f : ∀ b o, ¬ M b → H b = some o → H' b = some o ∧ ¬ M' b) : ∀ (d : D) (v : V), Is M H v d → Is M' H' v d
  | .non, _, h => by cases h; exact .non
  | .bl _, _, h => by cases h; exact .bl _
  | .int _, _, h => by cases h; exact .int _
  | .str _, _, h => by cases h; exact .str _
  | .lst ds, _, h => by
    cases h with
    | lst e n h => exact .lst (f _ _ n e).1 (f _ _ n e).2 (IsAll.to f ds _ h)
  | .tup ds, _, h => by
    cases h with
    | tup e n h => exact .tup (f _ _ n e).1 (f _ _ n e).2 (IsAll.to f ds _ h)
  | .dic, _, h => by
    cases h with
    | dic e n => exact .dic (f _ _ n e).1 (f _ _ n e).2
theorem IsAll.to (f : ∀ b o, ¬ M b → H b = some o → H' b = some o ∧ ¬ M' b) : ∀ (ds : List D) (vs : List V), IsAll M H vs ds → IsAll M' H' vs ds
  | [], _, h => by cases h; exact .nil
  | d :: ds, _, h => by
    cases h with
    | cons h t => exact .cons (Is.to f d _ h) (IsAll.to f ds _ t)
end
theorem Is.fr {v : V} {d : D} (h : Is M H v d) (f : Fr M H H') : Is M H' v d := Is.to (fun b o n e => ⟨f b o n e, n⟩) d v h
theorem IsAll.fr {vs : List V} {ds : List D} (h : IsAll M H vs ds) (f : Fr M H H') : IsAll M H' vs ds := IsAll.to (fun b o n e => ⟨f b o n e, n⟩) ds vs h
theorem Is.same {v : V} {d : D} (h : Is M H v d) (s : Same H H') : Is M H' v d := h.fr fun b o _ e => s b o e
theorem IsAll.same {vs : List V} {ds : List D} (h : IsAll M H vs ds) (s : Same H H') : IsAll M H' vs ds := h.fr fun b o _ e => s b o e
theorem Is.weak {v : V} {d : D} (h : Is M H v d) (f : ∀ b, M' b → M b) : Is M' H v d := Is.to (fun b o n e => ⟨e, fun m => n (f b m)⟩) d v h
theorem IsAll.weak {vs : List V} {ds : List D} (h : IsAll M H vs ds) (f : ∀ b, M' b → M b) : IsAll M' H vs ds := IsAll.to (fun b o n e => ⟨e, fun m => n (f b m)⟩) ds vs h
theorem IsAll.len {vs : List V} : ∀ {ds : List D}, IsAll M H vs ds → vs.length = ds.length
  | [], h => by cases h; rfl
  | _ :: ds, h => by
    cases h with
    | cons _ t => rw [List.length_cons, List.length_cons, t.len]
theorem IsAll.get {x : V} : ∀ {vs : List V} {ds : List D} {i : Nat}, IsAll M H vs ds → vs[i]? = some x → ∃ d, ds[i]? = some d ∧ Is M H x d
  | [], [], i, _, e => by simp at e
  | v :: vs, d :: ds, 0, h, e => by
    cases h with
    | cons h t =>
      rw [List.getElem?_cons_zero] at e
      cases e
      exact ⟨d, rfl, h⟩
  | v :: vs, d :: ds, i + 1, h, e => by
    cases h with
    | cons h t =>
      rw [List.getElem?_cons_succ] at e ⊢
      exact t.get e
theorem IsAll.mem {x : V} {vs : List V} {ds : List D} (h : IsAll M H vs ds) (m : x ∈ vs) : ∃ d, d ∈ ds ∧ Is M H x d := by
  obtain ⟨i, hi⟩ := List.getElem?_of_mem m
  obtain ⟨d, hd, r⟩ := h.get hi
  exact ⟨d, List.mem_of_getElem? hd, r⟩
theorem IsAll.app {vs ws : List V} {ds es : List D} (h : IsAll M H vs ds) (t : IsAll M H ws es) : IsAll M H (vs ++ ws) (ds ++ es) := by
  induction vs generalizing ds with
  | nil => cases h; exact t
  | cons v vs ih =>
    cases h with
    | cons a b => exact .cons a (ih b)
theorem IsAll.take : ∀ {vs : List V} {ds : List D} (k : Nat), IsAll M H vs ds → IsAll M H (vs.take k) (ds.take k)
  | [], [], k, _ => by simp; exact .nil
  | _ :: _, _ :: _, 0, _ => .nil
  | v :: vs, d :: ds, k + 1, h => by
    cases h with
    | cons a b => exact .cons a (b.take k)
theorem IsAll.drop : ∀ {vs : List V} {ds : List D} (k : Nat), IsAll M H vs ds → IsAll M H (vs.drop k) (ds.drop k)
  | [], [], k, _ => by simp; exact .nil
  | _ :: _, _ :: _, 0, h => h
  | v :: vs, d :: ds, k + 1, h => by
    cases h with
    | cons a b => exact b.drop k
theorem IsAll.rev {vs : List V} {ds : List D} (h : IsAll M H vs ds) : IsAll M H vs.reverse ds.reverse := by
  induction vs generalizing ds with
  | nil => cases h; exact .nil
  | cons v vs ih =>
    cases h with
    | cons a b => rw [List.reverse_cons, List.reverse_cons]; exact (ih b).app (.cons a .nil)
theorem IsAll.rep {v : V} {d : D} (h : Is M H v d) : ∀ k : Nat, IsAll M H (List.replicate k v) (List.replicate k d)
  | 0 => .nil
  | k + 1 => .cons h (IsAll.rep h k)
end
/-! ### its kinds -/
def D.ty : D → String
  | .non => "NoneType"
  | .bl _ => "bool"
  | .int _ => "int"
  | .str _ => "str"
  | .lst _ => "list"
  | .tup _ => "tuple"
  | .dic => "dict"
theorem Is.tyx {K : PySem.W.Frag} {M : Addr → Prop} {H : Hp} {v : V} {d : D} (h : Is M H v d) : TyX K H v (.type d.ty) := by
  cases h with
  | non => exact .base .non
  | bl b => exact .base (.bl b)
  | int i => exact .base (.int i)
  | str s => exact .base (.str s)
  | lst e n h => exact .base (.lst e)
  | tup e n h => exact .base (.tup e)
  | dic e n => exact .base (.dK e)
def D.isInt : D → Bool
  | .int _ => true
  | .bl _ => true
  | _ => false
def D.isBl : D → Bool
  | .bl _ => true
  | _ => false
def D.isStr : D → Bool
  | .str _ => true
  | _ => false
def D.isTup : D → Bool
  | .tup _ => true
  | _ => false
def D.num : D → Option Int
  | .int i => some i
  | _ => none
section
variable {K : PySem.W.Frag} {M : Addr → Prop} {H : Hp} {v : V} {d : D} {Q : VK}
theorem d_isInt (h : Is M H v d) (q : Q (.bl d.isInt) H) : rIsi K [v, .ty "int"] H Q :=
  ⟨_, _, _, _, d.isInt, rfl, .ty _, h.tyx, kit_ty (by cases d <;> (simp only [D.ty, D.isInt, D.isBl, D.isStr, D.isTup]; decide +kernel)), q⟩
theorem d_isBl (h : Is M H v d) (q : Q (.bl d.isBl) H) : rIsi K [v, .ty "bool"] H Q :=
  ⟨_, _, _, _, d.isBl, rfl, .ty _, h.tyx, kit_ty (by cases d <;> (simp only [D.ty, D.isInt, D.isBl, D.isStr, D.isTup]; decide +kernel)), q⟩
theorem d_isStr (h : Is M H v d) (q : Q (.bl d.isStr) H) : rIsi K [v, .ty "str"] H Q :=
  ⟨_, _, _, _, d.isStr, rfl, .ty _, h.tyx, kit_ty (by cases d <;> (simp only [D.ty, D.isInt, D.isBl, D.isStr, D.isTup]; decide +kernel)), q⟩
theorem d_isTup (h : Is M H v d) (q : Q (.bl d.isTup) H) : rIsi K [v, .ty "tuple"] H Q :=
  ⟨_, _, _, _, d.isTup, rfl, .ty _, h.tyx, kit_ty (by cases d <;> (simp only [D.ty, D.isInt, D.isBl, D.isStr, D.isTup]; decide +kernel)), q⟩
end
/-- a whole number from j up to k -/
def D.btw (j k : Int) : D → Bool
  | .int i => decide (j ≤ i ∧ i ≤ k)
  | _ => false
def D.whole : D → Bool
  | .int _ => true
  | _ => false
/-! ### displays of data -/
def Old (H : Hp) (b : Addr) : Prop := H b ≠ none
def tD (d : D) : TE := fun _ H Q => ∀ v H', Same H H' → Is (Old H) H' v d → Q v H'
def tDs (ds : List D) : TA := fun _ H Q => ∀ vs H', Same H H' → IsAll (Old H) H' vs ds → Q vs H'
theorem old_same {H H' : Hp} (s : Same H H') : ∀ b, Old H b → Old H' b := fun b h => by
  unfold Old at h ⊢
  cases e : H b with
  | none => exact absurd e h
  | some o => rw [s b o e]; exact fun z => nomatch z
theorem new_old {H H' : Hp} {p : Addr} (s : Same H H') (h : H' p = none) : ¬ Old H p := fun z => (old_same s p z) h
section
variable {X : Cx} {e : Expr} {es : List Expr} {t : TE} {d : D} {ds : List D} {pos : Pos}
theorem pd_of (he : PE X e t) (h : ∀ σ H Q, tD d σ H Q → t σ H Q) : PE X e (tD d) := ⟨fun pins s σ H Q I q => he.run pins s σ H Q I (h σ H Q q)⟩
theorem pd_int {i : Int} {j} : PE X (.Constant (.int i) j pos) (tD (.int i)) := pd_of pe_int fun σ H Q h => h _ H (fun _ _ e => e) (.int i)
theorem pd_bl {b : Bool} {j} : PE X (.Constant (.bool b) j pos) (tD (.bl b)) := pd_of pe_bl fun σ H Q h => h _ H (fun _ _ e => e) (.bl b)
theorem pd_non {j} : PE X (.Constant .none j pos) (tD .non) := pd_of pe_non fun σ H Q h => h _ H (fun _ _ e => e) .non
theorem pd_str {x : PySem.Str} {j} : PE X (.Constant (.str x) j pos) (tD (.str x)) := pd_of pe_str fun σ H Q h => h _ H (fun _ _ e => e) (.str x)
theorem pd_neg {i : Int} {j} {p1 : Pos} : PE X (.UnaryOp .USub (.Constant (.int i) j p1) pos) (tD (.int (-i))) := pd_of (pe_un un_neg pe_int) fun σ H Q h => ⟨i, rfl, h _ H (fun _ _ e => e) (.int _)⟩
theorem pd_dic : PE X (.Dict [] [] pos) (tD .dic) := pd_of pe_dnewK fun σ H Q h p hp => h _ _ (same_new hp) (.dic upd_same fun z => z hp)
theorem pd_pow {i k : Int} {j1 j2} {p1 p2 : Pos} (h : 0 ≤ k ∧ k ≤ 1000000) (h2 : i.natAbs < 2 ^ 64) : PE X (.BinOp (.Constant (.int i) j1 p1) .Pow (.Constant (.int k) j2 p2) pos) (tD (.int (i ^ k.toNat))) := pd_of (pe_op op_pow pe_int pe_int) fun σ H Q q => ⟨i, k, rfl, rfl, ⟨h.1, h.2, h2⟩, q _ H (fun _ _ e => e) (.int _)⟩
theorem pds_nil : PA X [] (tDs []) := ⟨fun p pins s σ H Q I h => pa_nil.run p pins s σ H Q I (h _ H (fun _ _ e => e) .nil)⟩
theorem pds_cons (ha : PE X e (tD d)) (hr : PA X es (tDs ds)) (hs : starEach (e :: es) X.env = (false, eval e X.env) :: starEach es X.env := by rfl) : PA X (e :: es) (tDs (d :: ds)) :=
  ⟨fun p pins s σ H Q I h => (pa_cons ha hr hs).run p pins s σ H Q I fun v H1 s1 i1 vs H2 s2 i2 => h _ H2 (fun b o e => s2 _ _ (s1 _ _ e)) (.cons (i1.same s2) (i2.weak (old_same s1)))⟩
theorem pd_tup {x1} (h : PA X es (tDs ds)) (hl : ds.length ≤ 1000) : PE X (.Tuple es x1 pos) (tD (.tup ds)) := pd_of (pe_tup h) fun σ H Q q vs H1 s1 i1 =>
  ⟨by rw [i1.len]; exact Nat.le_trans hl (by decide), fun p hp => q _ _ (fun b o e => same_new hp _ _ (s1 _ _ e)) (.tup upd_same (new_old s1 hp) (i1.same (same_new hp)))⟩
theorem pd_lst (h : PA X es (tDs ds)) (hl : ds.length ≤ 1000) : PE X (.List es pos) (tD (.lst ds)) := pd_of (pe_lst h) fun σ H Q q vs H1 s1 i1 =>
  ⟨by rw [i1.len]; exact Nat.le_trans hl (by decide), fun p hp => q _ _ (fun b o e => same_new hp _ _ (s1 _ _ e)) (.lst upd_same (new_old s1 hp) (i1.same (same_new hp)))⟩
theorem pd_rep {e2 : Expr} {k : Nat} {d : D} (h : PE X e (tD (.tup [d]))) (h2 : PE X e2 (tC (.int (k : Int)))) (h0 : 2 ≤ k) (h1 : k ≤ 1000) : PE X (.BinOp e .Mult e2 pos) (tD (.tup (List.replicate k d))) := pd_of (pe_op op_repT h h2) fun σ H Q q v H1 s1 i1 => by
  cases i1 with
  | tup e n i =>
    cases i with
    | @cons v vs d ds i t =>
      cases t
      refine ⟨_, _, _, rfl, rfl, sqT_of e, by simp, by omega, by omega, by simp, fun p hp => q _ _ (fun b o e => same_new hp _ _ (s1 _ _ e)) (.tup upd_same (new_old s1 hp) ?_)⟩
      rw [Int.toNat_natCast, show (List.replicate k [v]).flatten = List.replicate k v by simp]
      exact IsAll.rep (i.same (same_new hp)) k
end
theorem v_D {d : D} {σ : L2.St} {H : Hp} {Q : VK} (h : ∀ v H', Same H H' → Is (Old H) H' v d → Q v H') : tD d σ H Q := h

/-! ### the same as the library's data -/
mutual
def D.toP : D → PyData
  | .non => .none
  | .bl b => .bool b
  | .int i => .int i
  | .str s => .str s
  | .lst ds => .list (D.toPs ds)
  | .tup ds => .tuple (D.toPs ds)
  | .dic => .dict []
def D.toPs : List D → List PyData
  | [] => []
  | d :: ds => d.toP :: D.toPs ds
end
mutual
def D.nod : D → Bool
  | .lst ds => D.nods ds
  | .tup ds => D.nods ds
  | .dic => false
  | _ => true
def D.nods : List D → Bool
  | [] => true
  | d :: ds => d.nod && D.nods ds
end
section
variable {K : PySem.W.Frag} {M : Addr → Prop} {H : Hp}
mutual
theorem Is.dp : ∀ (d : D) (v : V), d.nod = true → Is M H v d → Dp K H v d.toP
  | .non, _, _, h => by cases h; exact .non
  | .bl _, _, _, h => by cases h; exact .bl _
  | .int _, _, _, h => by cases h; exact .int _
  | .str _, _, _, h => by cases h; exact .str _
  | .lst ds, _, g, h => by
    cases h with
    | lst e n h => exact .lst (sqL_of e) (IsAll.dp ds _ (by simpa only [D.nod] using g) h)
  | .tup ds, _, g, h => by
    cases h with
    | tup e n h => exact .tup (sqT_of e) (IsAll.dp ds _ (by simpa only [D.nod] using g) h)
  | .dic, _, g, _ => by simp [D.nod] at g
theorem IsAll.dp : ∀ (ds : List D) (vs : List V), D.nods ds = true → IsAll M H vs ds → DpAll K H vs (D.toPs ds)
  | [], _, _, h => by cases h; exact .nil
  | d :: ds, _, g, h => by
    simp only [D.nods, Bool.and_eq_true] at g
    cases h with
    | cons h t => exact .cons (Is.dp d _ g.1 h) (IsAll.dp ds _ g.2 t)
end
end
theorem toPs_len : ∀ ds : List D, (D.toPs ds).length = ds.length
  | [] => rfl
  | d :: ds => by simp only [D.toPs, List.length_cons, toPs_len ds]
theorem toPs_mem : ∀ {ds : List D} {x : PyData}, x ∈ D.toPs ds → ∃ d, d ∈ ds ∧ x = d.toP
  | d :: ds, x, h => by
    simp only [D.toPs, List.mem_cons] at h
    rcases h with h | h
    · exact ⟨d, List.mem_cons_self, h⟩
    · obtain ⟨e, m, r⟩ := toPs_mem h
      exact ⟨e, List.mem_cons_of_mem _ m, r⟩
theorem nods_all : ∀ {ds : List D}, (∀ d ∈ ds, d.nod = true) → D.nods ds = true
  | [], _ => by simp [D.nods]
  | d :: ds, h => by
    simp only [D.nods, Bool.and_eq_true]
    exact ⟨h d List.mem_cons_self, nods_all fun x hx => h x (List.mem_cons_of_mem _ hx)⟩
/-- a number, a truth, a text of few signs, or a list of truths -/
def Cell (d : D) : Prop := (∃ i : Int, d = .int i ∧ i.natAbs < 2 ^ 1920) ∨ ∃ bs : List Bool, d = .lst (bs.map D.bl) ∧ bs.length ≤ 8
theorem Cell.nod {d : D} (h : Cell d) : d.nod = true := by
  rcases h with ⟨i, rfl, _⟩ | ⟨bs, rfl, _⟩
  · rfl
  · simp only [D.nod]
    exact nods_all fun d hd => by obtain ⟨b, _, rfl⟩ := List.mem_map.mp hd; rfl
theorem Cell.mix {d : D} (h : Cell d) : shb d.toP = true ∧ nsz d.toP ≤ 200 ∧ d.toP.depth ≤ 1 := by
  rcases h with ⟨i, rfl, hi⟩ | ⟨bs, rfl, hb⟩
  · have := leaf_int hi
    exact ⟨this.1, Nat.le_trans this.2.1 (by decide), by rw [show (D.int i).toP = .int i from rfl, this.2.2]; decide⟩
  · have lf : ∀ x ∈ D.toPs (bs.map D.bl), Leaf x := fun x hx => by
      obtain ⟨d, hd, rfl⟩ := toPs_mem hx
      obtain ⟨b, _, rfl⟩ := List.mem_map.mp hd
      exact leaf_bool b
    have a := nszs_all (n := 20) fun x hx => (lf x hx).2.1
    have b := depth_all (n := 0) fun x hx => Nat.le_of_eq (lf x hx).2.2
    rw [toPs_len, List.length_map] at a
    simp only [D.toP]
    exact ⟨by simpa only [shb] using shbs_all fun x hx => (lf x hx).1, by simp only [nsz]; omega, by simp only [PyData.depth]; omega⟩
theorem shw_cells {ds : List D} (h : ∀ d ∈ ds, Cell d) (hl : ds.length ≤ 39) : Shw (.list (D.toPs ds)) := by
  have m : ∀ x ∈ D.toPs ds, shb x = true ∧ nsz x ≤ 200 ∧ x.depth ≤ 1 := fun x hx => by
    obtain ⟨d, hd, rfl⟩ := toPs_mem hx
    exact (h d hd).mix
  have a := nszs_all (n := 200) fun x hx => (m x hx).2.1
  have b := depth_all (n := 1) fun x hx => (m x hx).2.2
  rw [toPs_len] at a
  exact ⟨by simpa only [shb] using shbs_all fun x hx => (m x hx).1, by simp only [nsz]; omega, by simp only [PyData.depth]; omega⟩
/-! ### how great it is: the longest text or row, how deep -/
mutual
def D.mx : D → Nat
  | .str s => s.length
  | .lst ds => max ds.length (D.mxs ds)
  | .tup ds => max ds.length (D.mxs ds)
  | _ => 0
def D.mxs : List D → Nat
  | [] => 0
  | d :: ds => max d.mx (D.mxs ds)
end
mutual
def D.dep : D → Nat
  | .lst ds => D.deps ds + 1
  | .tup ds => D.deps ds + 1
  | _ => 0
def D.deps : List D → Nat
  | [] => 0
  | d :: ds => max d.dep (D.deps ds)
end
end Vc
namespace Vc
open PySem PySem.Spec PyProof.Rows L2
/-! ### two lists that grow side by side, and the drawn numbers' list W -/
def M3 (T U W : Addr) (b : Addr) : Prop := b = T ∨ b = U ∨ b = W
def Apt (T U W : Addr) : Prop := T ≠ U ∧ T ≠ W ∧ U ≠ W
structure TDx (T U W : Addr) (tv uv : List V) (ds es : List D) (H : Hp) : Prop where
  t : H T = some (.lst tv)
  u : H U = some (.lst uv)
  w : Wl [] H W
  ap : Apt T U W
  ti : IsAll (M3 T U W) H tv ds
  ui : IsAll (M3 T U W) H uv es
section
variable {T U W : Addr} {tv uv : List V} {ds es : List D} {H H' : Hp}
theorem fr_T {o : HO} : Fr (M3 T U W) H (upd H T o) := fun b u n e => by rw [upd_ne fun z => n (.inl z)]; exact e
theorem fr_U {o : HO} : Fr (M3 T U W) H (upd H U o) := fun b u n e => by rw [upd_ne fun z => n (.inr (.inl z))]; exact e
theorem fr_W (s : Sx W H H') : Fr (M3 T U W) H H' := fun b u n e => s b u (fun z => n (.inr (.inr z))) e
theorem fr_S {M : Addr → Prop} (s : Same H H') : Fr M H H' := fun b u _ e => s b u e
theorem TDx.same (h : TDx T U W tv uv ds es H) (s : Same H H') : TDx T U W tv uv ds es H' := ⟨s _ _ h.t, s _ _ h.u, h.w.of s, h.ap, h.ti.fr (fr_S s), h.ui.fr (fr_S s)⟩
theorem TDx.sx (h : TDx T U W tv uv ds es H) (s : Sx W H H') (w : Wl [] H' W) : TDx T U W tv uv ds es H' := ⟨s _ _ h.ap.2.1 h.t, s _ _ h.ap.2.2 h.u, w, h.ap, h.ti.fr (fr_W s), h.ui.fr (fr_W s)⟩
theorem TDx.addT {v : V} {d : D} (h : TDx T U W tv uv ds es H) (i : Is (M3 T U W) H v d) : TDx T U W (tv ++ [v]) uv (ds ++ [d]) es (upd H T (.lst (tv ++ [v]))) :=
  ⟨upd_same, by rw [upd_ne h.ap.1.symm]; exact h.u, by obtain ⟨a, b, c, e⟩ := h.w; exact ⟨a, b, c, by rw [upd_ne h.ap.2.1.symm]; exact e⟩, h.ap, (h.ti.app (.cons i .nil)).fr fr_T, h.ui.fr fr_T⟩
theorem TDx.addU {v : V} {d : D} (h : TDx T U W tv uv ds es H) (i : Is (M3 T U W) H v d) : TDx T U W tv (uv ++ [v]) ds (es ++ [d]) (upd H U (.lst (uv ++ [v]))) :=
  ⟨by rw [upd_ne h.ap.1]; exact h.t, upd_same, by obtain ⟨a, b, c, e⟩ := h.w; exact ⟨a, b, c, by rw [upd_ne h.ap.2.2.symm]; exact e⟩, h.ap, h.ti.fr fr_U, (h.ui.app (.cons i .nil)).fr fr_U⟩
theorem TDx.free {p : Addr} (h : TDx T U W tv uv ds es H) (e : H p = none) : ¬ M3 T U W p := by
  rintro (rfl | rfl | rfl)
  · rw [h.t] at e; cases e
  · rw [h.u] at e; cases e
  · exact h.w.ne e rfl
theorem TDx.old (h : TDx T U W tv uv ds es H) : ∀ b, M3 T U W b → Old H b := fun b m z => h.free z m
theorem TDx.old' (h : TDx T U W tv uv ds es H) (s : Sx W H H') {v : V} {d : D} (i : Is (Old H) H' v d) : Is (M3 T U W) H' v d := i.weak h.old
end
theorem old_sx {W : Addr} {H H' : Hp} (s : Sx W H H') (w : Wl [] H' W) : ∀ b, Old H b → Old H' b := fun b h => by
  unfold Old at h ⊢
  by_cases e : b = W
  · subst e
    obtain ⟨_, _, _, z⟩ := w
    rw [z]
    exact fun z => nomatch z
  · cases q : H b with
    | none => exact absurd q h
    | some o => rw [s b o e q]; exact fun z => nomatch z
theorem wl_old {W : Addr} {H : Hp} (w : Wl [] H W) : Old H W := by
  obtain ⟨_, _, _, z⟩ := w
  unfold Old
  rw [z]
  exact fun z => nomatch z
theorem Is.sx {W : Addr} {H H1 H2 : Hp} {v : V} {d : D} (h : Is (Old H) H1 v d) (w : Wl [] H W) (s : Sx W H1 H2) : Is (Old H) H2 v d := h.fr fun b o n e => s b o (fun z => n (z ▸ wl_old w)) e
theorem all_of {α : Type} {P : α → Prop} [DecidablePred P] {xs : List α} (h : (xs.all fun x => decide (P x)) = true) (x : α) (hx : x ∈ xs) : P x := of_decide_eq_true (List.all_eq_true.mp h x hx)
end Vc
namespace Vc
open PySem PySem.Spec PyProof.Rows L2
theorem a_rep {l : Addr} {v : V} {H : Hp} {Q : VK} {k : Nat} (h : H l = some (.lst [v])) (hk : k ≤ 1000) (q : ∀ (p : Addr) (H' : Hp), H p = none → Same H H' → H' p = some (.lst (List.replicate k v)) → Q (.ref p) H') : rRep (.ref l) (.int (k : Int)) H Q := by
  refine ⟨l, k, [v], rfl, rfl, h, by omega, by omega, by rw [Int.toNat_natCast]; simp; exact Nat.le_trans hk (by decide), fun p hp => ?_⟩
  have := q p _ hp (same_new hp) upd_same
  rw [Int.toNat_natCast, show (List.replicate k [v]).flatten = List.replicate k v by simp]
  exact this
end Vc
namespace Vc
open PySem PySem.Spec PyProof.Rows L2
/-! ### a lambda of one parameter a, handed to a def as its second argument -/
structure Lam1 (sc scope : Scope) (a : Str) : Prop where
  kind : scope.kind = .function
  co : scope.isCoroutine = false
  gen : scope.isGenerator = false
  own : ∀ y ∈ scope.names, y.2 ≠ .cell ∧ (y.2 = .local → y.1 = a)
  par : scope.names.lookup a = some .local
  free : ∀ y ∈ scope.names, y.2 = .free → sc.names.lookup y.1 = some .cell ∨ sc.names.lookup y.1 = some .free
def lam1B (sc scope : Scope) (a : Str) : Bool :=
  decide (scope.kind = .function) && !scope.isCoroutine && !scope.isGenerator && (decide (scope.names.lookup a = some .local)) && scope.names.all fun y => !decide (y.2 = .cell) && (!decide (y.2 = .local) || decide (y.1 = a)) && (!decide (y.2 = .free) || decide (sc.names.lookup y.1 = some .cell) || decide (sc.names.lookup y.1 = some .free))
theorem lam1_by {sc scope : Scope} {a : Str} (h : lam1B sc scope a = true) : Lam1 sc scope a := by
  unfold lam1B at h
  simp only [Bool.and_eq_true, Bool.or_eq_true, Bool.not_eq_true', decide_eq_true_eq, decide_eq_false_iff_not, List.all_eq_true] at h
  obtain ⟨⟨⟨⟨h1, h2⟩, h3⟩, h5⟩, h4⟩ := h
  refine ⟨h1, h2, h3, fun y hy => ⟨(h4 y hy).1.1, fun e => ?_⟩, h5, fun y hy e => ?_⟩
  · rcases (h4 y hy).1.2 with z | z
    · exact absurd e z
    · exact z
  · rcases (h4 y hy).2 with (z | z) | z
    · exact absurd e z
    · exact .inl z
    · exact .inr z
theorem Lam1.has {X : Cx} {scope : Scope} {a : Str} (L : Lam1 X.env.scope scope a) (ok : X.Ok) : ∀ y ∈ scope.names, y.2 = .free → ∃ c, X.env.cells.lookup y.1 = some c := fun y hy e => by
  rcases L.free y hy e with k | k
  · exact ok.has _ (.inl k)
  · exact ok.has _ (.inr k)
def lamCx1 (X : Cx) (a : Str) (A : Around) (outer : List Env) (s : Shared) (H : Hp) (scope : Scope) (f c' : Addr) : Cx where
  prog := X.prog
  w := X.w
  K := X.K
  mg := X.mg
  base := X.base
  A := A.deeper (LamX.lamEnv X scope s.heap.objs.size f c')
  N := X.N ++ [a]
  s_0 := s
  H_0 := H
  env := LamX.lamEnv X scope s.heap.objs.size f c'
  outer := outer
  stack := LamX.lamEnv X scope s.heap.objs.size f c' :: outer
  ex := []
  fn := fun _ => false
  calm := true
  pn := []
  xe := fun _ _ => False
section
variable {X : Cx} {pins : List (Addr × Obj)} {σ : L2.St} {H HZ : Hp} {s s1 : Shared}
theorem lam_start1 {A : Around} {outer : List Env} {scope : Scope} {f c' : Addr} {h₁ : Heap} {tk : Nat} {a : Str} {v : V} {u : Value} (I : Inv X pins σ H s) (L : Lam1 X.env.scope scope a) (hna : a ∉ X.N) (e0 : Env0 X.prog X.w X.K X.mg X.base A outer s1 HZ) (hd : A.handled = none)
    (un : Un (frs X.stack) [] H HZ s.heap s1.heap) (rv : RelV v u) (hns : h₁.Ns s1.heap.objs.size fun y => ([(a, u)] : List (Str × Value)).reverse.lookup y) (kp : ∀ b o, s1.heap.get? b = some o → h₁.get? b = some o) :
    Inv (lamCx1 X a A outer s1 HZ scope f c') [] (σ ++ [some v]) HZ { s1 with heap := h₁, toks := tk } := by
  have hfree := L.has I.ok
  have cm : ∀ {y c}, (cloFrom X.env.cells scope.names []).lookup y = some c → X.env.cells.lookup y = some c := fun {y c} e => by
    rcases cloFrom_mem (PySem.mem_of_lookup e) with hm | ⟨h1, h2⟩
    · cases hm
    · obtain ⟨c1, hc⟩ := hfree _ h1 rfl
      have hc : X.env.cells.lookup y = some c1 := hc
      have e2 : c = c1 := by
        rw [h2, hc] <;> rfl
      rw [e2]
      exact hc
  have look : ∀ {y}, scope.names.lookup y = some .free → ∃ c, (cloFrom X.env.cells scope.names []).lookup y = some c := fun {y} hl => by
    have hy : (y, NameKind.free) ∈ scope.names := PySem.mem_of_lookup hl
    exact mem_lookup (cloFrom_has (cells := X.env.cells) (acc := []) hy)
  have cellK : ∀ {c : Addr} {v : Option Value}, H c = none → s.heap.IsCell c v → h₁.IsCell c v := fun {c v} n ⟨o, ho, hd⟩ => by
    obtain ⟨sl, q⟩ := un.any ho n (by simp)
    exact ⟨_, kp _ _ q, hd⟩
  have noA : ∀ b : Addr, b ∉ (lamCx1 X a A outer s1 HZ scope f c').ex := fun b z => absurd (show b ∈ ([] : List Addr) from z) (by simp)
  refine ⟨⟨e0.mod, L.kind, rfl, rfl, Nat.le_refl _, fun y z c e1 e2 => I.ok.inj y z c (cm e1) (cm e2), fun y hy => ?_, fun y c z _ => ?_, fun _ => hd, Around.frames_deeper e0.frames, .inr ⟨rfl, rfl⟩, fun b z => absurd z (noA b), e0.bs, e0.bsz, fun b _ _ => noA b,
      fun b z => absurd z (noA b), e0.funs, e0.frf⟩,
    rfl, e0.bare, Un.kept kp, ⟨_, hns, fun i y v e1 e2 e3 => ?_⟩, fun y c e => ?_, e0.hok.fresh (Nat.le_refl _), fun y c e => ?_, fun q hq => absurd (show q ∈ ([] : List (Addr × Obj)) ++ [] from hq) (by simp), e0.hok.kept kp, ?_⟩
  · have hy : scope.names.lookup y = some .cell ∨ scope.names.lookup y = some .free := hy
    rcases hy with hy | hy
    · exact absurd rfl (L.own _ (PySem.mem_of_lookup hy)).1
    · exact look hy
  · have z : false = true := z
    cases z
  · have e1 : (X.N ++ [a])[i]? = some y := e1
    have e3 : Vis scope y := e3
    rcases Nat.lt_or_ge i X.N.length with hi | hi
    · rw [List.getElem?_append_left hi] at e1
      rw [List.getElem?_append_left (by rw [I.len]; exact hi)] at e2
      have ya : y ≠ a := fun z => hna (z ▸ List.mem_of_getElem? e1)
      rcases e3 with k | k | k
      · exact absurd ((L.own _ (PySem.mem_of_lookup k)).2 rfl) ya
      · exact absurd rfl (L.own _ (PySem.mem_of_lookup k)).1
      · obtain ⟨m, hn, hl⟩ := I.loc
        have hvis : Vis X.env.scope y := (L.free _ (PySem.mem_of_lookup k) rfl).elim (fun k => .inr (.inl k)) (fun k => .inr (.inr k))
        obtain ⟨w', r, q⟩ := hl i y v e1 e2 hvis
        obtain ⟨c2, h2⟩ := look k
        refine ⟨w', r, .inr ⟨.inr k, c2, h2, ?_⟩⟩
        have c1 := cm h2
        rcases q with ⟨k', _⟩ | ⟨_, c3, e', z⟩
        · have k' : X.env.scope.names.lookup y = some .local := k'
          rcases L.free _ (PySem.mem_of_lookup k) rfl with k2 | k2 <;> rw [show X.env.scope.names.lookup y = _ from k2] at k' <;> cases k'
        · rw [c1] at e'
          cases e'
          exact cellK (I.freeC y _ c1) z
    · rw [List.getElem?_append_right hi] at e1
      rw [List.getElem?_append_right (by rw [I.len]; exact hi), I.len] at e2
      have h0 : i - X.N.length = 0 := by
        rcases Nat.eq_zero_or_pos (i - X.N.length) with z | z
        · exact z
        · rw [List.getElem?_eq_none (by simp; omega)] at e1
          cases e1
      rw [h0] at e1 e2
      cases e1
      cases e2
      exact ⟨u, rv, .inl ⟨L.par, by simp⟩⟩
  · obtain ⟨w', z⟩ := I.cell y c (cm e)
    exact ⟨w', cellK (I.freeC y c (cm e)) z⟩
  · obtain ⟨v, o, ho, hd⟩ := I.cell y c (cm e)
    exact un.free c o ho (I.freeC y c (cm e)) (by simp)
  · show (σ ++ [some v]).length = (X.N ++ [a]).length
    rw [List.length_append, List.length_append, I.len]
    rfl
/-- x(e), in the def that got the lambda: Z is that def's context, entered at s -/
theorem pe_act1 {Ng : List Str} {qg : Str} {sg : Scope} {g f c' : Addr} {cdg pm ctv : Value} {params : Arguments} {body : Expr} {scope : Scope} {k i : Nat} {a b : Str} {tb te : TE} {e : Expr} {p1 p2 : Pos}
    (I : Inv X pins σ H s) (L : Lam1 X.env.scope scope a) (hna : a ∉ X.N) (hf : s.heap.get? f = some (PySem.W.kla_obj "<lambda>" (X.env.qual ++ "<lambda>") params body scope (cloFrom X.env.cells scope.names []) pm c' ctv)) (hfn : H f = none) (hfr : f ∉ frs X.stack)
    (hbind : ∀ u, bindArgs (PySem.W.kla_fn "<lambda>" (X.env.qual ++ "<lambda>") params body scope (cloFrom X.env.cells scope.names []) pm (.ref c') ctv) ⟨[u], []⟩ = pure [(a, u)])
    {gd : Prop} (hgd : gd → X.A.guards = some []) (hr : Room (k + 1) (X.A.deeper (envOfC qg sg s.heap.objs.size g cdg)))
    (hbody : ∀ (A : Around) (outer : List Env) (s : Shared) (H : Hp), (gd → (A.deeper (LamX.lamEnv X scope s.heap.objs.size f c')).guards = some []) → Room k (A.deeper (LamX.lamEnv X scope s.heap.objs.size f c')) → PE (lamCx1 X a A outer s H scope f c') body tb)
    (hN : Ng[i]? = some b) (hv : Vis sg b) (he : PE (cxOf CX0 X.prog X.w X.K X.mg X.base Ng qg sg g cdg X.A X.stack s H E0).nox e te) (hd : (b == ("__debug__" : Str)) = false := by decide) (hcd : (b == ("__classdict__" : Str)) = false := by decide)
    (hse : starEach [e] (envOfC qg sg s.heap.objs.size g cdg) = [(false, eval e (envOfC qg sg s.heap.objs.size g cdg))] := by rfl) :
    PE (cxOf CX0 X.prog X.w X.K X.mg X.base Ng qg sg g cdg X.A X.stack s H E0).nox (.Call (.Name b p1) [e] [] p2)
      (fun σZ HZ Q => σZ[i]? = some (some (.ref f)) ∧ te σZ HZ fun v H1 => H1 c' = some (LamX.CodeO c' (X.env.qual ++ "<lambda>")) ∧ tb (σ ++ [some v]) H1 Q) := by
  refine ⟨fun pinsZ sZ σZ HZ Q IZ h => ?_⟩
  obtain ⟨hs, ht⟩ := h
  refine wpAny_Call_Name_kw (thn ((pe_var (pos := p1) (i := i) hN hv hd hcd).run pinsZ sZ σZ HZ (fun v H1 => v = .ref f ∧ H1 = HZ) IZ ⟨.ref f, hs, rfl, rfl⟩) fun u s1 ⟨v, H1, I1, r1, q1⟩ => ?_)
  obtain ⟨ev, eH⟩ := q1
  subst ev
  rw [eH] at I1
  obtain rfl : u = Value.ref f := r1
  have at_ : ∀ {p : List (Addr × Obj)} {σ : L2.St} {H' : Hp} {s' : Shared}, Inv (cxOf CX0 X.prog X.w X.K X.mg X.base Ng qg sg g cdg X.A X.stack s H E0).nox p σ H' s' → s'.heap.get? f = some (PySem.W.kla_obj "<lambda>" (X.env.qual ++ "<lambda>") params body scope (cloFrom X.env.cells scope.names []) pm c' ctv) :=
    fun J => J.base.keep f _ hf hfn hfr (fun z => nomatch (show f ∈ ([] : List Addr) from z))
  refine PySem.W.callWith_F ⟨_, _, _, _, at_ I1⟩ (thn ((pa_cons he pa_nil hse).run p2 pinsZ s1 σZ HZ (fun vs H1 => match vs with | [v] => H1 c' = some (LamX.CodeO c' (X.env.qual ++ "<lambda>")) ∧ tb (σ ++ [some v]) H1 Q | _ => False) I1 ht) fun us s2 hh => ?_) hse rfl
  obtain ⟨vs, H2, I2, r2, q2⟩ := hh
  obtain ⟨v, u, rfl, rfl, ru, hc, hb⟩ : ∃ v u, vs = [v] ∧ us = [u] ∧ RelV v u ∧ H2 c' = some (LamX.CodeO c' (X.env.qual ++ "<lambda>")) ∧ tb (σ ++ [some v]) H2 Q := by
    cases r2 with
    | nil => exact q2.elim
    | cons a r =>
      cases r with
      | nil => exact ⟨_, _, rfl, rfl, a, q2.1, q2.2⟩
      | cons _ _ => exact q2.elim
  refine ⟨⟨_, _, _, _, at_ I2⟩, ?_⟩
  have un : Un (frs X.stack) [] H H2 s.heap s2.heap := I2.base
  obtain ⟨⟨oc, vs, t, hoc, hdc, hvc⟩, _, _⟩ := I2.hok c' _ hc
  have rc : codeAny (model X.prog X.w) (X.A.deeper (envOfC qg sg s.heap.objs.size g cdg)) (.call (.ref f) ⟨[u], []⟩) (CR CX0 (envOfC qg sg s.heap.objs.size g cdg :: X.stack) X.prog X.w H2 s2 Q E0) s2 := by
    refine PySem.W.kla_callFunE hr.depth (at_ I2) rfl L.co L.gen rfl ⟨c', oc, vs, t, rfl, hoc, hdc, hvc⟩ ?_
    rw [hbind]
    refine wpAny_pure (wpAny_newFunctionEnv (fun y hy => (L.own y hy).1) (fun y hy => by rw [List.mem_singleton.mp hy]; exact L.par) (fun h₁ hns hsb => ⟨I2.nolimit.fresh _ hsb, ?_⟩) L.kind)
    show codeAny _ _ (.expr body (LamX.lamEnv X scope s2.heap.objs.size f c')) _ _
    have kp : ∀ b o, s2.heap.get? b = some o → h₁.get? b = some o := fun b o e => hsb.extBut b o (Nat.ne_of_lt (Heap.lt_size e)) (Heap.get?_push_of_some _ e)
    have J := lam_start1 (A := X.A.deeper (envOfC qg sg s.heap.objs.size g cdg)) (outer := envOfC qg sg s.heap.objs.size g cdg :: X.stack) (f := f) (c' := c') (tk := s2.toks + ([(a, u)] : List (Str × Value)).length) I L hna I2.env0 hr.hd un ru hns kp
    refine PySem.W.kla_codeExpr (wpAny_mono ((hbody (X.A.deeper (envOfC qg sg s.heap.objs.size g cdg)) _ s2 H2 hgd (hr.deeper _)).run [] _ _ H2 Q J hb) (fun v s' hq => ?_) fun e s' hq => (show False from hq).elim)
    obtain ⟨w', H', J', rv, q⟩ := hq
    exact ⟨w', H', J'.os, J'.bare, J'.base, J'.hok, rv, q⟩
  refine wpAny_call (codeAny_mono rc fun r s' hq => ?_)
  cases r with
  | error e => exact (show False from hq).elim
  | ok fl =>
    cases fl with
    | ret u => exact I2.after hq
    | next => exact False.elim hq
    | brk => exact False.elim hq
    | cont => exact False.elim hq
end
/-- what the def that got it makes of the lambda's reading -/
def Gives2 (P : Program) (w : World) (K : PySem.W.Frag) (mg : Str → Option Value) (base : Heap) (A : Around) (stk : List Env) (Ng : List Str) (x : Str) (sg : Scope) (g : Addr) (cdg : Value) (bg : List Stmt) (b : Str) (q : Str) (TT : (V → Hp → VK → Prop) → V → Hp → VK → Prop) : Prop :=
  ∀ (f : Addr) (C0 : Hp → Prop) (s : Shared) (H : Hp) (v0 : V) (Q : VK) (tl gl : V → Hp → VK → Prop),
    (∀ v H Q, C0 H → tl v H Q → gl v H Q) → (∀ H H', Same H H' → C0 H → C0 H') →
    (∀ (e : Expr) (te : TE) (p1 p2 : Pos), PE (cxOf CX0 P w K mg base Ng x sg g cdg A stk s H E0).nox e te → starEach [e] (envOfC x sg s.heap.objs.size g cdg) = [(false, eval e (envOfC x sg s.heap.objs.size g cdg))] →
      PE (cxOf CX0 P w K mg base Ng x sg g cdg A stk s H E0).nox (.Call (.Name b p1) [e] [] p2) (fun σZ HZ Q => σZ[1]? = some (some (.ref f)) ∧ te σZ HZ fun v H1 => gl v H1 Q)) →
    C0 H → TT tl v0 H Q →
    ∃ t, PSs (cxOf CX0 P w K mg base Ng x sg g cdg A stk s H E0).nox bg t ∧ t { nx := fun _ H' => Q .non H', rt := Q } (L2.start Ng [v0, .ref f]) H
def tLam2 (T : List (Addr × Str)) (TT : (V → Hp → VK → Prop) → V → Hp → VK → Prop) (te tb : TE) : TE := fun σ H Q =>
  te σ H fun v0 H1 => LamX.Tabs T H1 ∧ ∀ H2, LamX.ExtN H1 H2 → LamX.Tabs T H2 → TT (fun v H' Q' => tb (σ ++ [some v]) H' Q') v0 H2 Q
section
variable {X : Cx}
theorem pe_lamcall2 {T : List (Addr × Str)} {TT : (V → Hp → VK → Prop) → V → Hp → VK → Prop} {x a b : Str} {x0 : Str} {g c P : Addr} {k : Nat} {st : Stmt} {fd : FuncData} {Ng : List Str}
    {params : Arguments} {body e0 : Expr} {scope : Scope} {te tb : TE} {p lpos pos : Pos} (hg : Gl X x) (hm : X.mg x = some (.ref g)) (F : Fun X.K x x st g fd) (hb : L2.Binds X.K fd [x0, b] []) (Sg : FnScope Ng [x0, b] (defScope st)) (hNg : Ng[1]? = some b) (hva : Vis (defScope st) b)
    (hG : ∀ cdv, Gives2 X.prog X.w X.K X.mg X.base X.A X.stack Ng x (defScope st) g cdv (defBody st) b (X.env.qual ++ "<lambda>") TT)
    (TB : LamX.TabB X.base X.mg c P) (hcode : X.env.code = .ref c) (hmT : (P, X.env.qual ++ "<lambda>") ∈ T) (hu : ∀ p ∈ T, p.1 = P → p.2 = X.env.qual ++ "<lambda>") {gd : Prop} (hgd : gd → X.A.guards = some []) (hr : Room (k + 2) X.A) (L : Lam1 X.env.scope scope a) (hna : a ∉ X.N) (hdef : defaultsOf params X.env = ([], []))
    (hbind : ∀ (q : Str) (cl : List (Str × Addr)) (pm cv ctv u : Value), bindArgs (PySem.W.kla_fn "<lambda>" q params body scope cl pm cv ctv) ⟨[u], []⟩ = pure [(a, u)])
    (he : PE X e0 te)
    (hbody : ∀ (A : Around) (outer : List Env) (s : Shared) (H : Hp) (f c' : Addr), (gd → (A.deeper (LamX.lamEnv X scope s.heap.objs.size f c')).guards = some []) → Room k (A.deeper (LamX.lamEnv X scope s.heap.objs.size f c')) → PE (lamCx1 X a A outer s H scope f c') body tb)
    (hdb : (x == ("__debug__" : Str)) = false := by decide) (hd : (b == ("__debug__" : Str)) = false := by decide) (hcd : (b == ("__classdict__" : Str)) = false := by decide)
    (hs1 : starEach (e0 :: [.Lambda params body scope lpos]) X.env = (false, eval e0 X.env) :: starEach [.Lambda params body scope lpos] X.env := by rfl) :
    PE X (.Call (.Name x p) [e0, .Lambda params body scope lpos] [] pos) (tLam2 T TT te tb) := by
  obtain ⟨oc, od, kV, doc, pm, an, cdv, ct, osl, rfl, lk, hcg⟩ := F.ex
  refine ⟨fun pins s σ H Q I h => ?_⟩
  refine wpAny_Call_Name_kw (ld_glob I hg hm ?_ hdb)
  refine PySem.W.callWith_K (h₀ := X.base) I.ok.mod.kin F.kp ?_ hs1 (by rfl)
  rw [hs1]
  show wpAny _ _ (spliced ((false, _) :: backTo pos (starEach [.Lambda params body scope lpos] X.env))) _ _ s
  refine Calls.spliced_cons (thn (he.run pins s σ H _ I h) fun u0 s1 ⟨v0, H1, I1, r0, hT, h⟩ => ?_)
  refine Calls.spliced_cons (LamX.lam_make2 I1 TB hcode hmT hu hT hdef (L.has I.ok) fun f c' pm' ctv H2 s' I2 eN T1 hf hfn hfr hco => ?_)
  refine Calls.spliced_nil ⟨I2.kIn, ?_⟩
  have rc : codeAny (model X.prog X.w) X.A (.call (.ref g) ⟨[u0, .ref f], []⟩) (CR CX0 X.stack X.prog X.w H2 s' Q E0) s' := by
    refine LamX.run_ofS (N := Ng) (ps := [x0, b]) (us := [u0, .ref f]) (vs := [v0, .ref f]) lk hcg Sg hr I2.env0 (hb s' [u0, .ref f] I2.kIn rfl) (.cons r0 (.cons rfl .nil)) rfl fun hr' => ?_
    obtain ⟨t', ht', hq'⟩ := hG cdv f (fun H => H c' = some (LamX.CodeO c' (X.env.qual ++ "<lambda>"))) s' H2 v0 Q (fun v H' Q' => tb (σ ++ [some v]) H' Q') (fun v H' Q' => H' c' = some (LamX.CodeO c' (X.env.qual ++ "<lambda>")) ∧ tb (σ ++ [some v]) H' Q') (fun _ _ _ a b => ⟨a, b⟩) (fun _ _ z e => z _ _ e) (fun e te p1 p2 he hse => pe_act1 (i := 1) I2 L hna hf hfn hfr (hbind _ _ _ _ _) hgd hr' (fun A outer s H hg2 hr2 => hbody A outer s H f c' hg2 hr2) hNg hva he hd hcd hse) hco (h H2 eN T1)
    exact ⟨t', ht'.nox, hq'⟩
  refine wpAny_call (codeAny_mono rc fun r s2 hq => ?_)
  cases r with
  | error e => exact (show False from hq).elim
  | ok fl =>
    cases fl with
    | ret u => exact I2.after hq
    | next => exact False.elim hq
    | brk => exact False.elim hq
    | cont => exact False.elim hq
end

/-! ### first_wrong, by the truths that its test tells -/
def fwV : Nat → List Bool → V
  | _, [] => .non
  | i, true :: r => fwV (i + 1) r
  | i, false :: _ => .int (i : Nat)
theorem fwV_all {i n : Nat} : fwV i (List.replicate n true) = .non := by
  induction n generalizing i with
  | zero => rfl
  | succ n ih => rw [List.replicate_succ]; exact ih
def TTfw (K : PySem.W.Frag) (tl : V → Hp → VK → Prop) (v0 : V) (H : Hp) (Q : VK) : Prop := ∃ (p : Addr) (xs : List V) (bs : List Bool), v0 = .ref p ∧ SqT K H p xs ∧ bs.length = xs.length ∧
  (∀ (i : Nat) x b H', xs[i]? = some x → bs[i]? = some b → Same H H' → ∀ Q' : VK, (∀ H'', Same H' H'' → Q' (.bl b) H'') → tl x H' Q') ∧ ∀ H', Same H H' → Q (fwV 0 bs) H'
theorem fw_step {bs : List Bool} {i : Nat} {b : Bool} (h : bs[i]? = some b) : fwV i (bs.drop i) = if b then fwV (i + 1) (bs.drop (i + 1)) else .int (i : Nat) := by
  have hi : i < bs.length := (List.getElem?_eq_some_iff.mp h).1
  rw [List.drop_eq_getElem_cons hi, show bs[i] = b from (List.getElem?_eq_some_iff.mp h).2]
  cases b <;> rfl
theorem v_lam {T : List (Addr × Str)} {TT : (V → Hp → VK → Prop) → V → Hp → VK → Prop} {te tb : TE} {σ : L2.St} {H : Hp} {Q : VK} (h : te σ H fun v0 H1 => LamX.Tabs T H1 ∧ ∀ H2, LamX.ExtN H1 H2 → LamX.Tabs T H2 → TT (fun v H' Q' => tb (σ ++ [some v]) H' Q') v0 H2 Q) : tLam2 T TT te tb σ H Q := h
end Vc
namespace Vc
open PySem PySem.Spec PyProof.Rows L2
/-! ### defs that make code: their code objects and tables -/
abbrev Cds := List (Addr × Addr × Str)
def Tb (cs : Cds) (H : Hp) : Prop := ∀ p ∈ cs, LamX.TabS H p.2.1 p.2.2
/-- all but the tables stays, and they go on telling their own code -/
def Ex (cs : Cds) (H H' : Hp) : Prop := LamX.ExtN H H' ∧ (Tb cs H → Tb cs H')
theorem Ex.refl {cs : Cds} {H : Hp} : Ex cs H H := ⟨fun _ _ e _ => e, fun t => t⟩
theorem Ex.trans {cs : Cds} {H H1 H2 : Hp} (a : Ex cs H H1) (b : Ex cs H1 H2) : Ex cs H H2 := ⟨fun c o e n => b.1 c o (a.1 c o e n) n, fun t => b.2 (a.2 t)⟩
theorem Tb.same {cs : Cds} {H H' : Hp} (t : Tb cs H) (s : Same H H') : Tb cs H' := fun p hp => (t p hp).ext s
theorem Ex.of {cs : Cds} {H H' : Hp} (s : Same H H') : Ex cs H H' := ⟨fun c o e _ => s c o e, fun t => t.same s⟩
theorem Ex.tup {cs : Cds} {H H' : Hp} {p : Addr} {xs : List V} (x : Ex cs H H') (h : H p = some (.tup xs)) : H' p = some (.tup xs) := x.1 _ _ h fun _ z => nomatch z
theorem Ex.lst {cs : Cds} {H H' : Hp} {p : Addr} {xs : List V} (x : Ex cs H H') (h : H p = some (.lst xs)) : H' p = some (.lst xs) := x.1 _ _ h fun _ z => nomatch z
theorem Ex.seqT {cs : Cds} {K : PySem.W.Frag} {H H' : Hp} {p : Addr} {xs : List V} (x : Ex cs H H') (h : SqT K H p xs) : SqT K H' p xs := by
  rcases h with (h | ⟨o, h⟩) | h
  · exact .inl (.inl (x.tup h))
  · exact .inl (.inr ⟨o, x.1 _ _ h fun _ z => nomatch z⟩)
  · exact .inr h
theorem Ex.seqL {cs : Cds} {K : PySem.W.Frag} {H H' : Hp} {p : Addr} {xs : List V} (x : Ex cs H H') (h : SqL K H p xs) : SqL K H' p xs := by
  rcases h with (h | ⟨o, h⟩) | h
  · exact .inl (.inl (x.lst h))
  · exact .inl (.inr ⟨o, x.1 _ _ h fun _ z => nomatch z⟩)
  · exact .inr h
/-- all but W and the tables stays -/
def Sy (cs : Cds) (W : Addr) (H H' : Hp) : Prop := (∀ b o, b ≠ W → H b = some o → (∀ ps, o ≠ .tbl ps) → H' b = some o) ∧ (Tb cs H → Tb cs H')
theorem Sy.trans {cs : Cds} {W : Addr} {H H1 H2 : Hp} (a : Sy cs W H H1) (b : Sy cs W H1 H2) : Sy cs W H H2 := ⟨fun c o n e t => b.1 c o n (a.1 c o n e t) t, fun t => b.2 (a.2 t)⟩
theorem Sy.ex {cs : Cds} {W : Addr} {H H' : Hp} (x : Ex cs H H') : Sy cs W H H' := ⟨fun b o _ e t => x.1 b o e t, x.2⟩
/-- the drawn numbers' list is no table -/
theorem tb_sx {cs : Cds} {tl : List V} {W : Addr} {H H' : Hp} (w : Wl tl H W) (s : Sx W H H') (t : Tb cs H) : Tb cs H' := fun p hp => by
  obtain ⟨ps, h1, h2, h3⟩ := t p hp
  obtain ⟨a, b, c, eW⟩ := w
  have nW : ∀ {b : Addr} {o : HO}, H b = some o → (∀ xs, o ≠ .lst xs) → b ≠ W := fun e n z => by
    rw [z, eW] at e
    exact n _ (Option.some.inj e).symm
  refine ⟨ps, s _ _ (nW h1 fun _ z => nomatch z) h1, h2, fun pos cv hc => ?_⟩
  obtain ⟨c, e1, e2⟩ := h3 pos cv hc
  exact ⟨c, e1, s _ _ (nW e2 fun _ z => by unfold LamX.CodeO at z; cases z) e2⟩
theorem Sy.sx {cs : Cds} {tl : List V} {W : Addr} {H H' : Hp} (w : Wl tl H W) (s : Sx W H H') : Sy cs W H H' := ⟨fun b o n e _ => s b o n e, tb_sx w s⟩
theorem Wl.ex {cs : Cds} {tl : List V} {W : Addr} {H H' : Hp} (w : Wl tl H W) (x : Ex cs H H') : Wl tl H' W := by
  obtain ⟨a, b, c, e⟩ := w
  exact ⟨a, b, c, x.lst e⟩
structure FunC (K : PySem.W.Frag) (x qual : Str) (st : Stmt) (f : Addr) (fd : FuncData) (c : Addr) : Prop where
  ex : ∃ (oc : Value) (od : Option Addr) (kV doc pm : Value) (an : Option Addr) (ct : Value) (osl : Array (Option Value)),
    fd = PySem.W.fnOf x qual (defArgs st) (defBody st) (defScope st) .none kV doc pm an (.ref c) ct ∧ K.lookup f = some ⟨oc, od, .func fd, osl⟩ ∧ PySem.W.codeIn K (.ref c) qual = true
section
variable {P : Program} {w : World} {K : PySem.W.Frag} {mg : Str → Option Value} {base : Heap}
theorem func_mk {x qual : Str} {st : Stmt} {f c : Addr} {oc : Value} {od an : Option Addr} {osl : Array (Option Value)} {kV doc pm ct : Value} (l : K.lookup f = some ⟨oc, od, .func (PySem.W.fnOf x qual (defArgs st) (defBody st) (defScope st) .none kV doc pm an (.ref c) ct), osl⟩)
    (h : PySem.W.codeIn K (.ref c) qual = true) : FunC K x qual st f (PySem.W.fnOf x qual (defArgs st) (defBody st) (defScope st) .none kV doc pm an (.ref c) ct) c := ⟨oc, od, kV, doc, pm, an, ct, osl, rfl, l, h⟩
theorem okC {x qual : Str} {st : Stmt} {f c : Addr} {fd : FuncData} {N ps : List Str} {k : Nat} {sp : Sp} (F : FunC K x qual st f fd c) (S : FnScope N ps (defScope st)) (len : ∀ vs H Q E, sp vs H Q E → vs.length = ps.length)
    (hbody : ∀ (A : Around) (outer : List Env) (s : Shared) (H : Hp) (vs : List V) (Q : VK), (A.deeper (envOfC qual (defScope st) s.heap.objs.size f (.ref c))).guards = some [] → Room k (A.deeper (envOfC qual (defScope st) s.heap.objs.size f (.ref c))) → sp vs H Q E0 →
      ∃ t, PSs (cxOf CX0 P w K mg base N qual (defScope st) f (.ref c) A outer s H E0).nox (defBody st) t ∧ t { nx := fun _ H' => Q .non H', rt := Q } (start N vs) H) : FnG P w K mg base (k + 1) f fd ps sp := by
  obtain ⟨oc, od, kV, doc, pm, an, ct, osl, rfl, lk, hcd⟩ := F.ex
  refine ⟨len, fun A outer s H args us vs Q hgd hr e0 hb r hsp => ?_⟩
  have kin : K.In s.heap := e0.mod.kin.keeps fun b o e => (e0.bs b o e).1
  have lim := e0.mod.nolimit.keeps fun b o e => (e0.bs b o e).1
  refine codeAny_call_function hr.depth (kin _ _ lk) rfl S.co S.gen rfl (PySem.W.codeRec_of kin hcd) (hb _ _ _ _ ?_)
  refine wpAny_newFunctionEnv_cells S.kind (fun y hy => ?_) fun env he s1 xx => ?_
  · rcases S.par y.1 (List.of_mem_zip hy).1 with z | z
    · exact Or.inl z
    · exact Or.inr ⟨z, PySem.W.cellsFrom_some _ _ _ (Or.inl z)⟩
  · subst he
    refine ⟨lim.keeps xx.toInCall.keep, codeAny_func ?_⟩
    obtain ⟨t, ht0, hq⟩ := hbody A outer s H vs Q hgd (hr.deeper _) hsp
    have I := inv_start (CX := CX0) (E := E0) (w := w) (P := P) S hr.hd e0 (len _ _ _ _ hsp) r xx
    refine wpAny_mono (ht0.nox.run [] s1 (start N vs) H _ I hq) (fun fl s' hs => ?_) fun e s' hs => hs
    cases fl with
    | ret u => obtain ⟨v, σ', H', J, rv, q⟩ := hs; exact ⟨v, H', J.os, J.bare, J.base, J.hok, rv, q⟩
    | next => obtain ⟨σ', H', J, q⟩ := hs; exact ⟨V.non, H', J.os, J.bare, J.base, J.hok, rfl, q⟩
    | brk => obtain ⟨_, _, _, q⟩ := hs; exact q.elim
    | cont => obtain ⟨_, _, _, q⟩ := hs; exact q.elim
end
/-! ### the end of a law whose defs make code -/
section
variable {P : Program} {w : World} {K : PySem.W.Frag} {mg mb : Str → Option Value} {k : Nat} {fa a : Addr} {fd : FuncData} {x : Str} {sp : Sp} {s : Shared} {vs : List Value} {ns : List Int} {cs : Cds}
/-- the tables' places -/
abbrev tabs (cs : Cds) : List Addr := cs.map (·.2.1)
theorem fromTopT (H : Hp) (hTab : ∀ p ∈ cs, H p.2.1 = some (.tbl #[])) (hA : ∀ b o, H b = some o → b = a ∨ b ∈ tabs cs) (hK : ∀ o, H a = some o → K.lookup a = none) (hO : ∀ b o, H b = some o → (∃ ob xs, o = .frz ob (.lst xs)) ∨ b ∈ tabs cs) (hS : SqL K H a (ns.map V.int)) (hok : HOk P w H s.heap)
    (tT : ∀ p ∈ cs, s.heap.get? p.2.1 = some (PySem.W.tabObj #[])) (tK : ∀ p ∈ cs, K.lookup p.2.1 = none) (tC : ∀ p ∈ cs, PySem.W.CodeHd s.heap p.1 p.2.1)
    (tM : ∃ (bm : Addr) (ob : Obj), mg "__builtins__" = some (.ref bm) ∧ bm ≠ builtinsNs ∧ s.heap.get? bm = some ob ∧ ob.cls = .type "module" ∧ ob.dict = some builtinsNs ∧ ob.data = .plain)
    (kin : K.In s.heap) (hns : s.heap.Ns mainGlobals mg) (hb : s.heap.Ns builtinsNs mb) (hbb : ∀ y : Str, y ≠ "__name__" → mb y = bootBuiltins y) (lim : s.heap.NoLimit) (hg : s.gens = #[])
    (ha : s.heap.get? a = some { cls := .type "list", data := .seq vs.toArray }) (hi : IntsAre vs ns) (hr : Room k callerA)
    (F : ∀ base : Heap, K.In base → base.Ns mainGlobals mg → (∀ p ∈ cs, LamX.TabB base mg p.1 p.2.1) → FnG P w K mg base k fa fd [x] sp) (hbind : ∀ (s : Shared) (u : Value), BindsTo s fd ⟨[u], []⟩ [(x, u)]) (hsp : sp [.ref a] H (fun v _ => v = .bl true) E0) :
    codeAny (model P w) callerA (.call (.ref fa) ⟨[.ref a], []⟩) (fun r s' => r = .ok (.ret (.bool true)) ∧ OldK s.heap s'.heap ∧ s'.os = s.os ∧ AllBare s'.gens) s := by
  have isT : ∀ b ∈ tabs cs, s.heap.get? b = some (PySem.W.tabObj #[]) := fun b z => by
    obtain ⟨p, hp, rfl⟩ := List.mem_map.mp z
    exact tT p hp
  have isK : ∀ b ∈ tabs cs, K.lookup b = none := fun b z => by
    obtain ⟨p, hp, rfl⟩ := List.mem_map.mp z
    exact tK p hp
  -- what is neither the script nor a table is not tracked
  have free : ∀ {b : Addr} {o : Obj}, s.heap.get? b = some o → (b = a → H a = none) → b ∉ tabs cs → H b = none := fun {b o} e q n => by
    cases z : H b with
    | none => rfl
    | some u =>
      rcases hA b u z with eb | eb
      · subst eb
        rw [q rfl] at z
        cases z
      · exact absurd eb n
  have free2 : ∀ {b : Addr} {o : Obj}, s.heap.get? b = some o → (∀ us m, o.data ≠ .seq us m) → o.data ≠ .fields #[] → H b = none := fun {b o} e n1 n2 => by
    refine free e (fun eb => ?_) fun z => ?_
    · subst eb
      rw [ha] at e
      cases e
      exact absurd rfl (n1 _ _)
    · rw [isT b z] at e
      cases e
      exact absurd rfl n2
  have dict : ∀ {b : Addr} {m : Str → Option Value}, s.heap.Ns b m → (hidT s.heap H).Ns b m := fun {b m} z => by
    obtain ⟨o, es, ep, e, d, r⟩ := z
    exact ⟨o, es, ep, hidT_get e (free2 e (fun us m z => by rw [d] at z; cases z) fun z => by rw [d] at z; cases z), d, r⟩
  have kin' : K.In (hidT s.heap H) := fun b o e => hidT_get (kin b o e) (free (kin b o e) (fun eb => by
    subst eb
    cases z : H b with
    | none => rfl
    | some u =>
      rw [hK u z] at e
      cases e) fun z => by
    rw [isK b z] at e
    cases e)
  obtain ⟨mc, c1, c2⟩ := lim
  have md : Mod K mg (hidT s.heap H) := ⟨kin', dict hns, ⟨mb, dict hb, hbb⟩, mc, dict c1, c2⟩
  have TB : ∀ p ∈ cs, LamX.TabB (hidT s.heap H) mg p.1 p.2.1 := fun p hp => by
    refine ⟨?_, ?_, fun z => ?_⟩
    · obtain ⟨o, us, f1, f2, f3, f4, f5, f6, f7, e1, r1, r2, r3, r⟩ := tC p hp
      refine ⟨o, us, f1, f2, f3, f4, f5, f6, f7, hidT_get e1 (free2 e1 (fun us m z => by rw [r2] at z; cases z) fun z => ?_), r1, r2, r3, r⟩
      rw [r2] at z
      cases z
      simp at r3
    · obtain ⟨bm, ob, b1, b2, b3, b4, b5, b6⟩ := tM
      refine ⟨bm, ob, b1, b2, fun q => ?_, fun q => ?_, hidT_get b3 (free2 b3 (fun us m z => by rw [b6] at z; cases z) fun z => by rw [b6] at z; cases z), b4, b5, b6⟩
      · obtain ⟨o, es, ep, e, hd, _⟩ := hns
        rw [q, e] at b3
        cases b3
        rw [hd] at b6
        cases b6
      · rw [q, tT p hp] at b3
        cases b3
        cases b6
    · obtain ⟨o, es, ep, e, hd, _⟩ := hns
      rw [z, tT p hp] at e
      cases e
      cases hd
  have nil : ∀ b : Addr, b ∉ ([] : List Addr) := fun _ z => nomatch z
  have e0 : Env0 P w K mg (hidT s.heap H) callerA [] s H := ⟨rfl, md, fun _ _ e => of_hidT e, Nat.le_of_eq (hidT_size _ _), trivial, fun b z => (nil b z).elim, hok, .of_eq hg⟩
  have main := (F _ kin' (dict hns) TB).run callerA [] s H ⟨[.ref a], []⟩ [.ref a] [.ref a] (fun v _ => v = .bl true) rfl hr e0 (hbind s _) (.cons rfl .nil) hsp
  refine codeAny_mono main fun r s' h => ?_
  cases r with
  | error _ => exact (show False from h).elim
  | ok fl => cases fl with
    | next => exact (show False from h).elim
    | brk => exact (show False from h).elim
    | cont => exact (show False from h).elim
    | ret u =>
      obtain ⟨v, H', os, bare, un, hok', rv, q⟩ := (show CE [] P w H s (fun v _ => v = .bl true) u s' from h)
      subst q
      have eu : u = Value.bool true := rv
      subst eu
      have stays : ∀ b o, b ∉ tabs cs → s.heap.get? b = some o → s'.heap.get? b = some o := fun b o n e => by
        cases q : H b with
        | none => exact un.keep b o e q (nil b) (nil b)
        | some t =>
          rcases hO b t q with ⟨ob, xs, z⟩ | z
          · subst z
            have e1 := (hok b _ q).1
            rw [e] at e1
            cases e1
            exact (hok' b _ (un.frzs b _ _ q)).1
          · exact absurd z n
      have grows : ∀ p ∈ cs, ∃ more : Array Value, s'.heap.get? p.2.1 = some (PySem.W.tabObj more) := fun p hp => by
        obtain ⟨more, z⟩ := un.tbls p.2.1 #[] (hTab p hp)
        exact ⟨_, hok' p.2.1 _ z⟩
      refine ⟨rfl, ⟨fun b o e => ?_, fun b o e => ?_⟩, os, bare⟩
      · by_cases z : b ∈ tabs cs
        · obtain ⟨p, hp, rfl⟩ := List.mem_map.mp z
          obtain ⟨more, hm⟩ := grows p hp
          rw [tT p hp] at e
          cases e
          exact .inr (.inl ⟨((tC p hp).tab (tT p hp)).isCodeTable, rfl, #[], more, rfl, by rw [Array.empty_append]; exact hm⟩)
        · exact .inl (stays b o z e)
      · by_cases z : b ∈ tabs cs
        · obtain ⟨p, hp, rfl⟩ := List.mem_map.mp z
          obtain ⟨more, hm⟩ := grows p hp
          exact ⟨_, hm⟩
        · exact ⟨o, stays b o z e⟩
theorem walkGT {l : PySem.W.OpenLaw} {n : Nat} {q : Program} {loose : List Str} {XP : (Str → Option Value) → Heap → Prop} {YP : World → Heap → Prop} {d : DefRec} {KK : Params → PySem.W.Frag} {sp : PySem.W.Frag → Cds → Sp}
    (hn : l.most = some n) (hn2 : n ≤ sizeLine) (hdf : d.params.defaults = []) (hr : Room k callerA) (hY : ∀ (w : World) (h : Heap), YP w h → (KK w.params).In h)
    (F : ∀ (w : World) (mg : Str → Option Value) (fa : Addr) (h : Heap), YP w h → (KK w.params).In h → h.Ns mainGlobals mg → mg d.name = some (.ref fa) →
      ∃ (fd : FuncData) (cs : Cds), (∀ p ∈ cs, h.get? p.2.1 = some (PySem.W.tabObj #[])) ∧ (∀ p ∈ cs, (KK w.params).lookup p.2.1 = none) ∧ (∀ p ∈ cs, PySem.W.CodeHd h p.1 p.2.1) ∧ (∀ (s : Shared) (u : Value), BindsTo s fd ⟨[u], []⟩ [(x, u)]) ∧
        ∀ base : Heap, (KK w.params).In base → base.Ns mainGlobals mg → (∀ p ∈ cs, LamX.TabB base mg p.1 p.2.1) → FnG l.prog w (KK w.params) mg base k fa fd [x] (sp (KK w.params) cs))
    (hsp : ∀ (K : PySem.W.Frag) (cs : Cds) (H : Hp) (a : Addr) (ns : List Int), ns.length ≤ n → SqL K H a (ns.map V.int) → Tb cs H → sp K cs [.ref a] H (fun v _ => v = .bl true) E0) :
    PySem.W.WalkO q loose XP YP l.row.toRowW d [] (fun f vs => PySem.call f vs) :=
  Att.attach_call hn hdf fun w s0 s mg mb fa o pm cd doc a vs ns G Y ho hd hcd hmg hobj hints hlen hg => by
    have kin := hY w _ Y
    obtain ⟨fd, cs, tT, tK, tC, hb, hF⟩ := F w mg fa _ Y kin G.T.g hmg
    have hl : vs.length ≤ sizeLine := Nat.le_trans (Nat.le_of_eq hints.length) (Nat.le_trans hlen hn2)
    have isT : ∀ b ∈ tabs cs, s.heap.get? b = some (PySem.W.tabObj #[]) := fun b z => by
      obtain ⟨p, hp, rfl⟩ := List.mem_map.mp z
      exact tT p hp
    have aT : a ∉ tabs cs := fun z => by
      have e := isT a z
      rw [hobj] at e
      have e2 : Data.seq vs.toArray _ = Data.fields #[] := congrArg Obj.data (Option.some.inj e)
      cases e2
    have toTb : ∀ H : Hp, (∀ p ∈ cs, H p.2.1 = some (.tbl #[])) → Tb cs H := fun H z p hp => LamX.TabS.nil (z p hp)
    cases hk : (KK w.params).lookup a with
    | some ob =>
      have e := kin a ob hk
      rw [hobj] at e
      cases e
      let H0 : Hp := fun b => if b ∈ tabs cs then some (.tbl #[]) else none
      have inT : ∀ {b u}, H0 b = some u → b ∈ tabs cs ∧ u = .tbl #[] := fun {b u} z => by
        by_cases y : b ∈ tabs cs
        · exact ⟨y, (Option.some.inj ((if_pos y).symm.trans z)).symm⟩
        · have z2 := (if_neg y).symm.trans z
          cases z2
      have hTab : ∀ p ∈ cs, H0 p.2.1 = some (.tbl #[]) := fun p hp => if_pos (List.mem_map.mpr ⟨p, hp, rfl⟩)
      have S : SqL (KK w.params) H0 a (ns.map V.int) := Or.inr ⟨_, vs.toArray, _, hk, rfl, rfl, rfl, by rw [List.size_toArray]; exact hl, by simpa using vals_ints hints⟩
      refine fromTopT H0 hTab (fun _ _ z => .inr (inT z).1) (fun o z => absurd (inT z).1 aT) (fun _ _ z => .inr (inT z).1) S (fun b u z => ?_) tT tK tC G.T.bmain kin G.T.g G.T.b G.T.builtins G.T.nolimit hg hobj hints hr hF hb (hsp _ _ _ _ _ hlen S (toTb _ hTab))
      obtain ⟨z1, rfl⟩ := inT z
      exact isT b z1
    | none =>
      let H0 : Hp := fun b => if b = a then some (HO.frz { cls := .type "list", data := .seq vs.toArray } (.lst (ns.map V.int))) else if b ∈ tabs cs then some (.tbl #[]) else none
      have one : ∀ {b u}, H0 b = some u → (b = a ∧ u = HO.frz { cls := .type "list", data := .seq vs.toArray } (.lst (ns.map V.int))) ∨ (b ∈ tabs cs ∧ u = .tbl #[]) := fun {b u} z => by
        by_cases eb : b = a
        · exact .inl ⟨eb, (Option.some.inj ((if_pos eb).symm.trans z)).symm⟩
        · have z1 := (if_neg eb).symm.trans z
          by_cases y : b ∈ tabs cs
          · exact .inr ⟨y, (Option.some.inj ((if_pos y).symm.trans z1)).symm⟩
          · have z2 := (if_neg y).symm.trans z1
            cases z2
      have hTab : ∀ p ∈ cs, H0 p.2.1 = some (.tbl #[]) := fun p hp => (if_neg (show ¬ p.2.1 = a from fun z => aT (by rw [← z]; exact List.mem_map.mpr ⟨p, hp, rfl⟩))).trans (if_pos (List.mem_map.mpr ⟨p, hp, rfl⟩))
      have S : SqL (KK w.params) H0 a (ns.map V.int) := Or.inl (Or.inr ⟨{ cls := .type "list", data := .seq vs.toArray }, if_pos rfl⟩)
      refine fromTopT H0 hTab (fun _ _ z => (one z).elim (fun y => .inl y.1) fun y => .inr y.1) (fun _ _ => hk) (fun _ _ z => (one z).elim (fun y => .inl ⟨_, _, y.2⟩) fun y => .inr y.1) S (fun b u z => ?_) tT tK tC G.T.bmain kin G.T.g G.T.b G.T.builtins G.T.nolimit hg hobj hints hr hF hb (hsp _ _ _ _ _ hlen S (toTb _ hTab))
      rcases one z with ⟨rfl, rfl⟩ | ⟨z1, rfl⟩
      · exact ⟨hobj, by rw [List.length_map, ← hints.length]; exact hl, vs, _, vals_ints hints, hobj⟩
      · exact isT b z1
end
/-! ### the head's facts -/
def tabOf (K : PySem.W.Frag) (c : Addr) : Addr := match K.lookup c with
  | some ⟨_, _, .fields vs, _⟩ => (match (vs[11]? : Option Value) with | some (.ref p) => p | _ => 0)
  | _ => 0
def cdOk (K : PySem.W.Frag) (c : Addr) : Bool := PySem.W.codeHdIn K c (tabOf K c)
theorem codeHd_of {K : PySem.W.Frag} {h : Heap} {c : Addr} (X : K.In h) (e : cdOk K c = true) : PySem.W.CodeHd h c (tabOf K c) := PySem.W.codeHd_of_K X e
theorem mem_of {b : Addr} {l : List Addr} (h : decide (b ∈ l) = true) : b ∈ l := of_decide_eq_true h
theorem none_of {K : PySem.W.Frag} {b : Addr} (h : (K.lookup b).isNone = true) : K.lookup b = none := Option.isNone_iff_eq_none.mp h
theorem v_lamE {c P : Addr} {q : Str} {H1 : Hp} {G : Hp → Prop} (tb : Tb [(c, P, q)] H1) (h : ∀ H2, Ex [(c, P, q)] H1 H2 → G H2) : LamX.Tabs [(P, q)] H1 ∧ ∀ H2, LamX.ExtN H1 H2 → LamX.Tabs [(P, q)] H2 → G H2 := by
  have to : ∀ {H}, LamX.Tabs [(P, q)] H → Tb [(c, P, q)] H := fun t p hp => by
    rw [List.mem_singleton.mp hp]
    exact t (P, q) List.mem_cons_self
  refine ⟨fun p hp => ?_, fun H2 e t => h H2 ⟨e, fun _ => to t⟩⟩
  rw [List.mem_singleton.mp hp]
  exact tb (c, P, q) List.mem_cons_self
end Vc
namespace Vc
open PySem PySem.Spec PyProof.Rows L2
/-! ### len(set(xs)), xs a list of ints -/
def dist (ns : List Int) : Nat := (PyProof.Rows.firstMet (fun i => ns.getD i 0) ns.length).length
def tLenSetG (K : PySem.W.Frag) (ta : TE) : TE := fun σ H Q => ta σ H fun x H1 => ∃ (l : Addr) (ns : List Int), x = V.ref l ∧ SqL K H1 l (ns.map V.int) ∧ ns.length ≤ 1000 ∧ Q (.int (dist ns : Nat)) H1
theorem v_lenSet {K : PySem.W.Frag} {ta : TE} {σ : L2.St} {H : Hp} {Q : VK} (h : ta σ H fun x H1 => ∃ (l : Addr) (ns : List Int), x = V.ref l ∧ SqL K H1 l (ns.map V.int) ∧ ns.length ≤ 1000 ∧ Q (.int (dist ns : Nat)) H1) : tLenSetG K ta σ H Q := h
theorem pe_lenSetG {X : Cx} {a : Expr} {ta : TE} {p p2 q pos : Pos} (hg : Gl X "len") (hm : X.mg "len" = none) (hg2 : Gl X "set") (hm2 : X.mg "set" = none) (ha : PE X a ta) (hc : X.calm = true)
    (na : starEach [a] X.env = (false, eval a X.env) :: starEach [] X.env := by rfl) : PE X (.Call (.Name "len" p) [.Call (.Name "set" p2) [a] [] q] [] pos) (tLenSetG X.K ta) := by
  refine ⟨fun pins s σ H Q I h => Call_ (ld_blt I hg hm PySem.boot_len (PyProof.Rows.callWith_builtin1 (PyProof.Rows.args_cons ?_ rfl) rfl rfl))⟩
  refine Call_ (ld_blt I hg2 hm2 PyProof.Rows.boot_set (PyProof.Rows.callWith_type1 (PyProof.Rows.args_cons (thn (ha.run pins s σ H _ I h) fun v s1 ⟨x, H1, I1, r1, q1⟩ => PyProof.Rows.args_nil ?_) na) na rfl))
  obtain ⟨l, ns, rfl, hq, hl, q1⟩ := q1
  cases r1
  obtain ⟨its, r, pl, hz⟩ := I1.list hq
  have hs : its.toArray.size = ns.length := by rw [List.size_toArray, ← r.length, List.length_map]
  refine call_set_list (I1.ok.hd hc) pl.isList (ns := ns) (by simpa using r.ints) (by unfold scanBound; omega) fun h' tk hS hk => PyProof.Rows.args_nil ?_
  rw [hs] at hS
  obtain ⟨o, es, ep, t, ho, hex, hd, _, _, _, hf, hn⟩ := hS
  have I2 : Inv X pins σ H1 { s1 with heap := h', toks := tk } := I1.kept fun b o e => hk b o (Heap.lt_size e) e
  have hle := PyProof.Rows.firstMet_length_le (fun i => ns.getD i 0) ns.length
  exact call_len_set ho hex hd hf (by rw [hn]; omega) ⟨.int (dist ns : Nat), H1, I2.tok _, ⟨_, by rw [hn]; rfl⟩, q1⟩
/-- an if behind which both ways are so -/
theorem v_ifC {t : TT} {ts us : TS} {D : Ends} {σ : L2.St} {H : Hp} (P : L2.St → Hp → Prop) (g : ∀ N : L2.St → Hp → Prop, (∀ σ' H', P σ' H' → N σ' H') → tIfS t ts us { D with nx := N } σ H) (h : ∀ σ' H', P σ' H' → D.nx σ' H') : tIfS t ts us D σ H := g D.nx h
/-- what was made since H1, and by the way W: all else stays -/
theorem ex_sy {cs : Cds} {W : Addr} {H H1 H2 : Hp} (hW : H W = none) (s : Same H H1) (y : Sy cs W H1 H2) : Ex cs H H2 :=
  ⟨fun b o e t => y.1 b o (ne_of_none e hW) (s b o e) t, fun t => y.2 (t.same s)⟩
theorem ex_own {cs : Cds} {p : Addr} {H H' : Hp} {o : HO} (x : Ex cs H H') (h : H p = none) (tb : Tb cs H') (hl : ∃ xs, H' p = some (.lst xs)) : Ex cs H (upd H' p o) := by
  refine ⟨fun b u e t => by rw [upd_ne (ne_of_none e h)]; exact x.1 b u e t, fun _ q hq => ?_⟩
  obtain ⟨xs, hx⟩ := hl
  obtain ⟨ps, h1, h2, h3⟩ := tb q hq
  have nP : ∀ {b : Addr} {u : HO}, H' b = some u → (∀ xs, u ≠ .lst xs) → b ≠ p := fun e n z => by
    rw [z, hx] at e
    exact n _ (Option.some.inj e).symm
  refine ⟨ps, by rw [upd_ne (nP h1 fun _ z => nomatch z)]; exact h1, h2, fun pos cv hc => ?_⟩
  obtain ⟨c, e1, e2⟩ := h3 pos cv hc
  exact ⟨c, e1, by rw [upd_ne (nP e2 fun _ z => by unfold LamX.CodeO at z; cases z)]; exact e2⟩
end Vc
namespace Vc
open PySem PySem.Spec PyProof.Rows L2
/-! ### what a call may let out -/
abbrev EF : XK := fun _ _ _ => False
theorem passF {X : Cx} : Passes (L2.CX X.prog X.w) X EF := fun _ _ _ _ _ _ _ c => by
  obtain ⟨_, _, _, _, _, _, _, _, _, _, _, _, z⟩ := c
  exact z.elim
def WE' (W : WX) : XK := fun cls d H => ∀ σ, W cls d σ H
theorem passW {X : Cx} {W : WX} (tk : Takes X W) : Passes (L2.CX X.prog X.w) X (WE' W) := passes_call tk fun _ _ σ _ h => h σ
/-! ### promises that tell what is raised -/
def spx1 (f : V → Hp → VK → XK → Prop) : Sp := fun vs H Q E => ∃ a, vs = [a] ∧ f a H Q E
def spx2 (f : V → V → Hp → VK → XK → Prop) : Sp := fun vs H Q E => ∃ a b, vs = [a, b] ∧ f a b H Q E
def spx3 (f : V → V → V → Hp → VK → XK → Prop) : Sp := fun vs H Q E => ∃ a b c, vs = [a, b, c] ∧ f a b c H Q E
def spx4 (f : V → V → V → V → Hp → VK → XK → Prop) : Sp := fun vs H Q E => ∃ a b c d, vs = [a, b, c, d] ∧ f a b c d H Q E
def spx5 (f : V → V → V → V → V → Hp → VK → XK → Prop) : Sp := fun vs H Q E => ∃ a b c d e, vs = [a, b, c, d, e] ∧ f a b c d e H Q E
theorem lenx1 {f : V → Hp → VK → XK → Prop} {p : Str} : ∀ vs H Q E, spx1 f vs H Q E → vs.length = [p].length := fun _ _ _ _ h => by obtain ⟨a, rfl, _⟩ := h; rfl
theorem lenx2 {f : V → V → Hp → VK → XK → Prop} {p q : Str} : ∀ vs H Q E, spx2 f vs H Q E → vs.length = [p, q].length := fun _ _ _ _ h => by obtain ⟨a, b, rfl, _⟩ := h; rfl
theorem lenx3 {f : V → V → V → Hp → VK → XK → Prop} {p q r : Str} : ∀ vs H Q E, spx3 f vs H Q E → vs.length = [p, q, r].length := fun _ _ _ _ h => by obtain ⟨a, b, c, rfl, _⟩ := h; rfl
theorem lenx4 {f : V → V → V → V → Hp → VK → XK → Prop} {p q r s : Str} : ∀ vs H Q E, spx4 f vs H Q E → vs.length = [p, q, r, s].length := fun _ _ _ _ h => by obtain ⟨a, b, c, d, rfl, _⟩ := h; rfl
theorem lenx5 {f : V → V → V → V → V → Hp → VK → XK → Prop} {p q r s t : Str} : ∀ vs H Q E, spx5 f vs H Q E → vs.length = [p, q, r, s, t].length := fun _ _ _ _ h => by obtain ⟨a, b, c, d, e, rfl, _⟩ := h; rfl
section
variable {σ : L2.St} {H : Hp} {Q : VK} {E : XK} {a b c d e : V}
theorem x1 {f : V → Hp → VK → XK → Prop} (h : f a H Q E) : spx1 f ([a] ++ []) H Q E := ⟨a, rfl, h⟩
theorem x2 {f : V → V → Hp → VK → XK → Prop} (h : f a b H Q E) : spx2 f ([a, b] ++ []) H Q E := ⟨a, b, rfl, h⟩
theorem x3 {f : V → V → V → Hp → VK → XK → Prop} (h : f a b c H Q E) : spx3 f ([a, b, c] ++ []) H Q E := ⟨a, b, c, rfl, h⟩
end
/-! ### a def that makes code and may raise -/
theorem okXC {P : Program} {w : World} {K : PySem.W.Frag} {mg : Str → Option Value} {base : Heap} {x qual : Str} {st : Stmt} {f c : Addr} {fd : FuncData} {N ps : List Str} {k : Nat} {sp : Sp} (F : FunC K x qual st f fd c) (S : FnScope N ps (defScope st)) (len : ∀ vs H Q E, sp vs H Q E → vs.length = ps.length)
    (hbody : ∀ (A : Around) (outer : List Env) (s : Shared) (H : Hp) (vs : List V) (Q : VK) (E : XK), Room k (A.deeper (envOfC qual (defScope st) s.heap.objs.size f (.ref c))) → sp vs H Q E →
      ∃ t, PSs (cxOf (L2.CX P w) P w K mg base N qual (defScope st) f (.ref c) A outer s H E) (defBody st) t ∧ t { nx := fun _ H' => Q .non H', rt := Q } (start N vs) H) : FnOk P w K mg base (L2.CX P w) (k + 1) f fd ps sp := by
  obtain ⟨oc, od, kV, doc, pm, an, ct, osl, rfl, lk, hcd⟩ := F.ex
  exact fn_of lk hcd S len fun A outer s H vs Q E hr hsp => hbody A outer s H vs Q E hr hsp
/-! ### a call of a local name that holds a def -/
theorem pe_callVO {X : Cx} {CX : CXT} {E : XK} {k i : Nat} {f : Addr} {fd : FuncData} {ps : List Str} {ds : List Value} {dvs : List V} {sp : Sp} {x : Str} {e : Expr} {es : List Expr} {t : TA} {p pos : Pos}
    (F : FnOk X.prog X.w X.K X.mg X.base CX k f fd ps sp) (hr : Room k X.A) (hk : PySem.W.keepIn X.K (.ref f) = true) (hb : Binds X.K fd ps ds) (hd : Vals dvs ds) (hx : Passes CX X E) (hN : X.N[i]? = some x) (hv : Vis X.env.scope x) (ha : PA X (e :: es) t)
    (he : starEach (e :: es) X.env = (false, eval e X.env) :: starEach es X.env) (hpl : (backTo pos (starEach es X.env)).any (·.1) = false)
    (h1 : (x == ("__debug__" : Str)) = false := by decide) (h2 : (x == ("__classdict__" : Str)) = false := by decide) :
    PE X (.Call (.Name x p) (e :: es) [] pos) (fun σ H Q => σ[i]? = some (some (.ref f)) ∧ tCall sp dvs E t σ H Q) := by
  refine ⟨fun pins s σ H Q I h => ?_⟩
  obtain ⟨hs, h⟩ := h
  refine wpAny_Call_Name_kw (thn ((pe_var (pos := p) (i := i) hN hv h1 h2).run pins s σ H (fun v H1 => v = .ref f ∧ H1 = H) I ⟨.ref f, hs, rfl, rfl⟩) fun u s1 ⟨v, H1, I1, r1, ev, eH⟩ => ?_)
  subst ev eH
  cases r1
  exact PySem.W.callWith_K (h₀ := X.base) I.ok.mod.kin hk (thn (ha.run pos pins s1 σ _ _ I1 h) fun us s2 hh => by obtain ⟨vs, H2, I2, r, q⟩ := hh; exact ⟨I2.kIn, run_fn F hr hb hd hx I2 r q⟩) he hpl
/-- x(e0, y), y a def of the module that x calls -/
def tHeld2 (TT : (V → Hp → VK → Prop) → V → Hp → VK → Prop) (sp : Sp) (fh : Addr) (te th : TE) : TE := fun σ H Q => te σ H fun v0 H1 => th σ H1 fun vf H2 => vf = .ref fh ∧ TT (fun v H' Q' => sp [v] H' Q' EF) v0 H2 Q
theorem pe_held2 {X : Cx} {TT : (V → Hp → VK → Prop) → V → Hp → VK → Prop} {x b y x0 : Str} {g fh : Addr} {k : Nat} {st : Stmt} {fd fdh : FuncData} {Ng : List Str} {sp : Sp} {e0 eh : Expr} {te th : TE} {p pos : Pos} (hg : Gl X x) (hm : X.mg x = some (.ref g)) (F : Fun X.K x x st g fd) (hb : L2.Binds X.K fd [x0, b] [])
    (Sg : FnScope Ng [x0, b] (defScope st)) (hNg : Ng[1]? = some b) (hva : Vis (defScope st) b) (hG : ∀ cdv q, Gives2 X.prog X.w X.K X.mg X.base X.A X.stack Ng x (defScope st) g cdv (defBody st) b q TT)
    (Fh : FnOk X.prog X.w X.K X.mg X.base (L2.CX X.prog X.w) k fh fdh [y] sp) (kh : PySem.W.keepIn X.K (.ref fh) = true) (bh : L2.Binds X.K fdh [y] []) (hr : Room (k + 1) X.A) (he : PE X e0 te) (hh : PE X eh th)
    (hdb : (x == ("__debug__" : Str)) = false := by decide) (hd : (b == ("__debug__" : Str)) = false := by decide) (hcd : (b == ("__classdict__" : Str)) = false := by decide)
    (hs3 : starEach (e0 :: [eh]) X.env = (false, eval e0 X.env) :: starEach [eh] X.env := by rfl) (hs2 : starEach [eh] X.env = [(false, eval eh X.env)] := by rfl) :
    PE X (.Call (.Name x p) [e0, eh] [] pos) (tHeld2 TT sp fh te th) := by
  obtain ⟨oc, od, kV, doc, pm, an, cdv, ct, osl, rfl, lk, hcg⟩ := F.ex
  refine ⟨fun pins s σ H Q I h => ?_⟩
  refine wpAny_Call_Name_kw (ld_glob I hg hm ?_ hdb)
  refine PySem.W.callWith_K (h₀ := X.base) I.ok.mod.kin F.kp ?_ hs3 (by rw [hs2]; rfl)
  rw [hs3, hs2]
  show wpAny _ _ (spliced ((false, _) :: backTo pos [(false, eval eh X.env)])) _ _ s
  refine Calls.spliced_cons (thn (he.run pins s σ H _ I h) fun u0 s1 ⟨v0, H1, I1, r0, h1⟩ => ?_)
  refine Calls.spliced_cons (thn (hh.run pins s1 σ H1 _ I1 h1) fun uh s2 ⟨vh, H2, I2, rh, ev, h2⟩ => ?_)
  subst ev
  obtain rfl : uh = Value.ref fh := rh
  refine Calls.spliced_nil ⟨I2.kIn, ?_⟩
  have rc : codeAny (model X.prog X.w) X.A (.call (.ref g) ⟨[u0, .ref fh], []⟩) (CR CX0 X.stack X.prog X.w H2 s2 Q E0) s2 := by
    refine LamX.run_ofS (N := Ng) (ps := [x0, b]) (us := [u0, .ref fh]) (vs := [v0, .ref fh]) lk hcg Sg hr I2.env0 (hb s2 [u0, .ref fh] I2.kIn rfl) (.cons r0 (.cons rfl .nil)) rfl fun hr' => ?_
    obtain ⟨t', ht', hq'⟩ := hG cdv "" fh (fun _ => True) s2 H2 v0 Q (fun v H' Q' => sp [v] H' Q' EF) (fun v H' Q' => sp [v] H' Q' EF) (fun _ _ _ _ z => z) (fun _ _ _ _ => True.intro)
      (fun e te p1 p2 he hse => pe_callVO (X := (cxOf CX0 X.prog X.w X.K X.mg X.base Ng x (defScope st) g cdv X.A X.stack s2 H2 E0).nox) (i := 1) Fh hr' kh bh .nil passF hNg hva (pa_cons he pa_nil hse) hse rfl hd hcd) True.intro h2
    exact ⟨t', ht'.nox, hq'⟩
  refine wpAny_call (codeAny_mono rc fun r s2 hq => ?_)
  cases r with
  | error e => exact (show False from hq).elim
  | ok fl =>
    cases fl with
    | ret u => exact I2.after hq
    | next => exact False.elim hq
    | brk => exact False.elim hq
    | cont => exact False.elim hq
theorem v_held {TT : (V → Hp → VK → Prop) → V → Hp → VK → Prop} {sp : Sp} {fh : Addr} {te th : TE} {σ : L2.St} {H : Hp} {Q : VK} (h : te σ H fun v0 H1 => th σ H1 fun vf H2 => vf = .ref fh ∧ TT (fun v H' Q' => sp [v] H' Q' EF) v0 H2 Q) : tHeld2 TT sp fh te th σ H Q := h
/-! ### a method called with keywords -/
def tMethK (C : Addr) (m : Str) (sp : Sp) (gV : List V → List V → List V) (E : XK) (ta : TE) (t tk : TA) : TE := fun σ H Q => ta σ H fun x H1 => ∃ a dx fs, x = .ref a ∧ H1 a = some (.ins C dx fs) ∧ fs.lookup m = none ∧ t σ H1 fun vs H2 => tk σ H2 fun zs H3 => sp (gV (x :: vs) zs) H3 Q E
theorem pe_methK0 {X : Cx} {CX : CXT} {k : Nat} {f C : Addr} {fd : FuncData} {ps ks : List Str} {sp : Sp} {E : XK} {m : Str} {pos apos : Pos} {o : Expr} {kws : List Keyword} {ta : TE} {tk : TA} {g : List Value → List Value → List Value} {gV : List V → List V → List V} {pl : Sem Bool}
    (he : PE X o ta) (c : Cls X.K C) (hm : Meth X.K C m f) (F : FnOk X.prog X.w X.K X.mg X.base CX k f fd ps sp) (hr : Room k X.A) (hb : KBinds X.K fd ps ks g gV) (hx : Passes CX X E) (hkw : PK X kws tk)
    (hall : (backToKw pos (keywordEach kws X.env)).all (·.1.isSome) = true := by rfl) (hks : (backToKw pos (keywordEach kws X.env)).filterMap (·.1) = ks := by rfl)
    (hpl : ((backTo pos (starEach [] X.env)).any (·.1) || (backToKw pos (keywordEach kws X.env)).any (·.1.isNone)) = false := by rfl)
    (ht : eval (.Call (.Attribute o m apos) [] kws pos) X.env = (do
      let ov ← eval o X.env
      standAt apos.atName
      let (f, first) ← holding [ov] (getMethod ov m pl)
      callWith pos f first (backTo pos (starEach [] X.env)) (backToKw pos (keywordEach kws X.env))) := by rfl) :
    PE X (.Call (.Attribute o m apos) [] kws pos) (tMethK C m sp gV E ta tNil tk) := by
  refine ⟨fun pins s σ H Q I h => PySem.W.methodCall_KW (pl := pl) (thn (he.run pins s σ H _ I h) fun u s1 ⟨x, H1, I1, rx, a, dx, fs, ex, ea, l, q⟩ => ?_) ht⟩
  subst ex
  obtain rfl : u = Value.ref a := rx
  refine getmeth_ok I1 ea c hm l (PySem.W.callWith_KW0 (first := [.ref a]) (h₀ := X.base) I.ok.mod.kin hm.kp hall (thn (hkw.run pos pins s1 σ H1 _ I1 q) fun ws s2 ⟨zs, H2, I2, rz, q2⟩ => ⟨I2.kIn, ?_⟩) hpl)
  rw [hks]
  exact run_fnk (us := [.ref a]) (vs := [.ref a]) F hr hb hx I2 (.cons rfl .nil) rz q2
/-! ### raise C(), C an own class without __init__ -/
structure ExC (K : PySem.W.Frag) (C : Addr) : Prop where
  ex : ∃ (bmB : List Value), ExcBaseFacts "ValueError" "ValueError.__new__" "ValueError.__init__" bmB ∧ PySem.W.excIn K C bmB "ValueError.__new__" = true
  kp : PySem.W.keepIn K (.ref C) = true
  sub : PySem.W.subIn K (.ref C) (.type "BaseException") = some true
  ty : PySem.W.typeIn K (.ref C) = some (.type "type")
  one : PySem.W.exmOne K (.ref C) (.ref C) = some true
def tRaise (C : Addr) (W : WX) : TS := fun _ σ H => W (.ref C) none σ H
theorem ps_raise0 {X : Cx} {C : Addr} {W : WX} {x : Str} {p pos pos2 : Pos} (hc : X.calm = true) (T : ExC X.K C) (gC : X.mg x = some (.ref C)) (hg : Gl X x) (tk : Takes X W) (hdb : (x == ("__debug__" : Str)) = false := by decide) :
    PS X (.Raise (some (.Call (.Name x p) [] [] pos)) none pos2) (tRaise C W) := by
  obtain ⟨bmB, F, q⟩ := T.ex
  refine ps_raise (t := fun _ H Q => Q (.ref C) none H) hc tk fun pins s σ H Q I h => wpAny_Call_Name_kw (ld_glob I hg gC (PySem.W.callWith_K0 I.kIn T.kp ?_) hdb)
  show wpAny _ _ (call (.ref C) []) _ _ _
  obtain ⟨bm, N, nm, qn, bs, hdct, sn, sub, ab, col, dd, k0, k1, k2, k3, k5, mN, hC, hN, hni, Tl⟩ := exc_obj I.kIn q
  exact wpAny_call_exc_subT F Tl hC hN hni (fun h' e hm => mk_of I hm (raises_own T.sub T.ty) h (I.hok.gone hm.new)) (Nat.zero_le _)
theorem v_raise {C : Addr} {W : WX} {D : Ends} {σ : L2.St} {H : Hp} (h : W (.ref C) none σ H) : tRaise C W D σ H := h
/-! ### try: body, except C: return a constant -/
def tTry1 (K : PySem.W.Frag) (C : Addr) (ts : TS) (tb : XK → TS) : TS := fun D σ H => tb (WE' (wOnly K (.ref C) (fun _ _ _ => ts) (fun _ _ _ _ => False) D)) D σ H
theorem ps_try1 {X : Cx} {C : Addr} {x : Str} {body : List Stmt} {b₀ : Stmt} {ts : TS} {tb : XK → TS} {np pos pos' : Pos} (hs : X.stack = X.env :: X.outer) (hf : X.env.frame = some X.env.locals) (hg : Gl X x) (gC : X.mg x = some (.ref C)) (hd : (x == ("__debug__" : Str)) = false)
    (hb : ∀ (EX : XK) (pn : List (Addr × Obj)) (xe : Value → Shared → Prop), Passes (L2.CX X.prog X.w) (X.tr pn xe) EX → PSs (X.tr pn xe) body (tb EX))
    (hsu : ∀ (a : Addr) (pn : List (Addr × Obj)), PSs (X.suite a pn) [b₀] ts) :
    PS X (.Try body [.ExceptHandler (some (.Name x np)) none [b₀] pos'] [] [] pos) (tTry1 X.K C ts tb) :=
  ps_try_only (c := .ref C) (tb := fun W => tb (WE' W)) (ts := fun _ _ _ => ts) (Wout := fun _ _ _ _ => False) hs hf ⟨hg, hd, .inl gC⟩ LamX.takes0 (fun W pn xe tk _ => hb (WE' W) pn xe (passW tk)) (fun a oe cls d pn _ _ => hsu a _)
theorem v_try1 {K : PySem.W.Frag} {C : Addr} {ts : TS} {tb : XK → TS} {D : Ends} {σ : L2.St} {H : Hp} (T : ExC K C) (h : ∀ E : XK, (∀ d H', (∀ σ', ts D σ' H') → E (.ref C) d H') → tb E D σ H) : tTry1 K C ts tb D σ H :=
  h _ fun d H' q σ' => ⟨true, T.one, fun _ a _ => q σ', fun z => nomatch z⟩
/-! ### fields, methods -/
section
variable {K : PySem.W.Frag} {σ : L2.St} {H : Hp} {Q : VK} {E : XK} {D : Ends} {a C dx : Addr} {fs : List (Str × V)} {f m : Str} {v : V} {te ta tv : TE} {tA : TA} {sp : Sp} {dvs : List V}
theorem v_fld (h : te σ H fun x H1 => ∃ a C dx fs v, x = .ref a ∧ H1 a = some (.ins C dx fs) ∧ Cls K C ∧ NoAttr K C f ∧ fs.lookup f = some v ∧ Q v H1) : tFld K te f σ H Q := h
theorem v_fldI (e : H a = some (.ins C dx fs)) (c : Cls K C) (n : NoAttr K C f) (l : fs.lookup f = some v) (q : Q v H) : ∃ a' C' dx' fs' v', V.ref a = .ref a' ∧ H a' = some (.ins C' dx' fs') ∧ Cls K C' ∧ NoAttr K C' f ∧ fs'.lookup f = some v' ∧ Q v' H := ⟨a, C, dx, fs, v, rfl, e, c, n, l, q⟩
theorem v_sfld (h : tv σ H fun y H1 => ta σ H1 fun x H2 => ∃ a C dx fs, x = .ref a ∧ H2 a = some (.ins C dx fs) ∧ Cls K C ∧ NoAttr K C f ∧ fs.length < 1000 ∧ D.nx σ (upd H2 a (.ins C dx (putF f y fs)))) : sFld K ta tv f D σ H := h
theorem v_meth (h : ta σ H fun x H1 => ∃ a dx fs, x = .ref a ∧ H1 a = some (.ins C dx fs) ∧ fs.lookup m = none ∧ tA σ H1 fun vs H2 => sp (x :: (vs ++ dvs)) H2 Q E) : tMeth C m sp dvs E ta tA σ H Q := h
theorem v_methK {gV : List V → List V → List V} {tk : TA} (h : ta σ H fun x H1 => ∃ a dx fs, x = .ref a ∧ H1 a = some (.ins C dx fs) ∧ fs.lookup m = none ∧ tA σ H1 fun vs H2 => tk σ H2 fun zs H3 => sp (gV (x :: vs) zs) H3 Q E) : tMethK C m sp gV E ta tA tk σ H Q := h
theorem v_make (h : tA σ H fun vs H1 => ∀ x dx, H1 x = none → H1 dx = none → dx ≠ x → sp (.ref x :: (vs ++ dvs)) (upd (upd H1 dx (.own x)) x (.ins C dx [])) (fun v H2 => v = .non ∧ Q (.ref x) H2) E) : tMake C sp dvs E tA σ H Q := h
end
end Vc
namespace Vc
open PySem PySem.Spec PyProof.Rows L2
/-! ### tuples stay, whatever is changed -/
def TK (H H' : Hp) : Prop := ∀ b xs, (H b = some (.tup xs) → H' b = some (.tup xs)) ∧ ∀ o, H b = some (.frz o (.tup xs)) → H' b = some (.frz o (.tup xs))
theorem TK.refl {H : Hp} : TK H H := fun _ _ => ⟨id, fun _ => id⟩
theorem TK.trans {H H1 H2 : Hp} (a : TK H H1) (b : TK H1 H2) : TK H H2 := fun c xs => ⟨fun e => (b c xs).1 ((a c xs).1 e), fun o e => (b c xs).2 o ((a c xs).2 o e)⟩
theorem TK.same {H H' : Hp} (s : Same H H') : TK H H' := fun c xs => ⟨fun e => s _ _ e, fun o e => s _ _ e⟩
theorem TK.sx {tl : List V} {W : Addr} {H H' : Hp} (w : Wl tl H W) (s : Sx W H H') : TK H H' := fun c xs => by
  obtain ⟨a, b, d, eW⟩ := w
  exact ⟨fun e => s _ _ (fun z => by rw [z, eW] at e; cases e) e, fun o e => s _ _ (fun z => by rw [z, eW] at e; cases e) e⟩
theorem TK.ex {cs : Cds} {H H' : Hp} (x : Ex cs H H') : TK H H' := fun c xs => ⟨fun e => x.1 _ _ e (fun _ z => nomatch z), fun o e => x.1 _ _ e (fun _ z => nomatch z)⟩
theorem TK.mutL {p : Addr} {ys : List V} {H : Hp} {o : HO} (h : H p = some (.lst ys)) : TK H (upd H p o) := fun c xs =>
  ⟨fun e => by rw [upd_ne fun z => by rw [z, h] at e; cases e]; exact e, fun o e => by rw [upd_ne fun z => by rw [z, h] at e; cases e]; exact e⟩
theorem TK.mutI {p C dx : Addr} {fs : List (Str × V)} {H : Hp} {o : HO} (h : H p = some (.ins C dx fs)) : TK H (upd H p o) := fun c xs =>
  ⟨fun e => by rw [upd_ne fun z => by rw [z, h] at e; cases e]; exact e, fun o e => by rw [upd_ne fun z => by rw [z, h] at e; cases e]; exact e⟩
theorem TK.seq {K : PySem.W.Frag} {H H' : Hp} {p : Addr} {xs : List V} (k : TK H H') (h : SqT K H p xs) : SqT K H' p xs := by
  rcases h with (h | ⟨o, h⟩) | h
  · exact .inl (.inl ((k p xs).1 h))
  · exact .inl (.inr ⟨o, (k p xs).2 o h⟩)
  · exact .inr h
/-! ### data in tuples alone -/
mutual
inductive TD (K : PySem.W.Frag) (H : Hp) : V → D → Prop
  | bl (b : Bool) : TD K H (.bl b) (.bl b)
  | int (i : Int) : TD K H (.int i) (.int i)
  | str (s : PySem.Str) : TD K H (.str s) (.str s)
  | tup {a : Addr} {xs : List V} {ds : List D} (e : SqT K H a xs) (h : TDs K H xs ds) : TD K H (.ref a) (.tup ds)
inductive TDs (K : PySem.W.Frag) (H : Hp) : List V → List D → Prop
  | nil : TDs K H [] []
  | cons {v : V} {vs : List V} {d : D} {ds : List D} (h : TD K H v d) (t : TDs K H vs ds) : TDs K H (v :: vs) (d :: ds)
end
section
variable {K : PySem.W.Frag} {H H' : Hp}
mutual
theorem TD.to (k : TK H H') : ∀ (d : D) (v : V), TD K H v d → TD K H' v d
  | .non, _, h => by cases h
  | .bl _, _, h => by cases h; exact .bl _
  | .int _, _, h => by cases h; exact .int _
  | .str _, _, h => by cases h; exact .str _
  | .lst _, _, h => by cases h
  | .tup ds, _, h => by cases h with | tup e h => exact .tup (k.seq e) (TDs.to k ds _ h)
  | .dic, _, h => by cases h
theorem TDs.to (k : TK H H') : ∀ (ds : List D) (vs : List V), TDs K H vs ds → TDs K H' vs ds
  | [], _, h => by cases h; exact .nil
  | d :: ds, _, h => by cases h with | cons h t => exact .cons (TD.to k d _ h) (TDs.to k ds _ t)
end
theorem TD.tk {v : V} {d : D} (h : TD K H v d) (k : TK H H') : TD K H' v d := TD.to k d v h
theorem TDs.tk {vs : List V} {ds : List D} (h : TDs K H vs ds) (k : TK H H') : TDs K H' vs ds := TDs.to k ds vs h
mutual
theorem TD.dp : ∀ (d : D) (v : V), TD K H v d → Dp K H v d.toP
  | .non, _, h => by cases h
  | .bl _, _, h => by cases h; exact .bl _
  | .int _, _, h => by cases h; exact .int _
  | .str _, _, h => by cases h; exact .str _
  | .lst _, _, h => by cases h
  | .tup ds, _, h => by cases h with | tup e h => exact .tup e (TDs.dp ds _ h)
  | .dic, _, h => by cases h
theorem TDs.dp : ∀ (ds : List D) (vs : List V), TDs K H vs ds → DpAll K H vs (D.toPs ds)
  | [], _, h => by cases h; exact .nil
  | d :: ds, _, h => by cases h with | cons h t => exact .cons (TD.dp d _ h) (TDs.dp ds _ t)
end
theorem TDs.len {vs : List V} : ∀ {ds : List D}, TDs K H vs ds → vs.length = ds.length
  | [], h => by cases h; rfl
  | _ :: ds, h => by cases h with | cons _ t => rw [List.length_cons, List.length_cons, t.len]
theorem TDs.get {x : V} : ∀ {vs : List V} {ds : List D} {i : Nat}, TDs K H vs ds → vs[i]? = some x → ∃ d, ds[i]? = some d ∧ TD K H x d
  | [], _, i, _, e => by simp at e
  | v :: vs, d :: ds, 0, h, e => by
    cases h with
    | cons h t =>
      rw [List.getElem?_cons_zero] at e
      cases e
      exact ⟨d, rfl, h⟩
  | v :: vs, d :: ds, i + 1, h, e => by
    cases h with
    | cons h t =>
      rw [List.getElem?_cons_succ] at e
      rw [List.getElem?_cons_succ]
      exact t.get e
theorem TDs.at {d : D} : ∀ {vs : List V} {ds : List D} {i : Nat}, TDs K H vs ds → ds[i]? = some d → ∃ x, vs[i]? = some x ∧ TD K H x d
  | _, [], i, _, e => by simp at e
  | v :: vs, d :: ds, 0, h, e => by
    cases h with
    | cons h t =>
      rw [List.getElem?_cons_zero] at e
      cases e
      exact ⟨v, rfl, h⟩
  | v :: vs, d :: ds, i + 1, h, e => by
    cases h with
    | cons h t =>
      rw [List.getElem?_cons_succ] at e
      rw [List.getElem?_cons_succ]
      exact t.at e
theorem TDs.app {vs ws : List V} {ds es : List D} (a : TDs K H vs ds) (b : TDs K H ws es) : TDs K H (vs ++ ws) (ds ++ es) := by
  induction vs generalizing ds with
  | nil => cases a; exact b
  | cons v vs ih => cases a with | cons h t => exact .cons h (ih t)
theorem TDs.set {v : V} {d : D} : ∀ {vs : List V} {ds : List D} {i : Nat}, TDs K H vs ds → TD K H v d → TDs K H (vs.set i v) (ds.set i d)
  | [], [], _, _, _ => .nil
  | [], _ :: _, _, h, _ => by cases h
  | _ :: _, [], _, h, _ => by cases h
  | _ :: vs, _ :: ds, 0, h, x => by cases h with | cons h t => exact .cons x t
  | _ :: vs, _ :: ds, i + 1, h, x => by cases h with | cons h t => exact .cons h (t.set x)
theorem tds_ints : ∀ ns : List Nat, TDs K H (ns.map vN) (ns.map fun n : Nat => D.int (n : Int))
  | [] => .nil
  | n :: ns => .cons (.int _) (tds_ints ns)
theorem tds_ints_of : ∀ {vs : List V} {ns : List Nat}, TDs K H vs (ns.map fun n : Nat => D.int (n : Int)) → vs = ns.map vN
  | [], [], _ => rfl
  | [], _ :: _, h => by cases h
  | _ :: _, [], h => by cases h
  | v :: vs, n :: ns, h => by
    cases h with
    | cons h t =>
      cases h
      rw [tds_ints_of t]
      rfl
end
/-! ### all but x and l stays -/
def Fr2 (x l : Addr) (H H' : Hp) : Prop := ∀ b o, b ≠ x → b ≠ l → H b = some o → H' b = some o
theorem Fr2.refl {x l : Addr} {H : Hp} : Fr2 x l H H := fun _ _ _ _ e => e
theorem Fr2.trans {x l : Addr} {H H1 H2 : Hp} (a : Fr2 x l H H1) (b : Fr2 x l H1 H2) : Fr2 x l H H2 := fun c o n1 n2 e => b c o n1 n2 (a c o n1 n2 e)
theorem Fr2.same {x l : Addr} {H H' : Hp} (s : Same H H') : Fr2 x l H H' := fun b o _ _ e => s b o e
theorem Fr2.x {x l : Addr} {H : Hp} {o : HO} : Fr2 x l H (upd H x o) := fun b u n _ e => by rw [upd_ne n]; exact e
theorem Fr2.l {x l : Addr} {H : Hp} {o : HO} : Fr2 x l H (upd H l o) := fun b u _ n e => by rw [upd_ne n]; exact e
/-! ### a comprehension over enumerate of a tuple -/
theorem lc_enq {K : PySem.W.Frag} {a : Addr} {xs : List V} {g : TG} {tt : TT} {te : TE} {vs : List Nat} {σ : L2.St} {H1 : Hp} {D : Addr} {Qd : Hp → Prop} (Pv : Nat → Hp → Prop) (h0 : Pv 0 (upd H1 D (.lst []))) (hl : ∀ i H, i ≤ xs.length → Pv i H → SqT K H a xs)
    (hs : ∀ i x H T H', xs[i]? = some x → Pv i H → H T = none → Same H H' → H' T = some (.tup [.int (i : Nat), x]) → g (.ref T) (wipe σ vs) H' fun σ2 H2 => wipe σ2 vs = wipe σ vs ∧ tt σ2 H2 fun b H3 =>
      if b = true then te σ2 H3 fun y H4 => ∃ acc, H4 D = some (.lst acc) ∧ acc.length < sizeLine ∧ Pv (i + 1) (upd H4 D (.lst (acc ++ [y]))) else Pv (i + 1) H3) (hd : ∀ H, Pv xs.length H → Qd H) :
    ∃ W : Nat → Nat → Hp → Prop, (∃ m, W 0 m (upd H1 D (.lst []))) ∧ ∀ i m H, W i m H →
      ((Itq K a).stop i H ∧ Qd H) ∨ ((Itq K a).go i H ∧ ∃ Nx : Hp → Prop, (∀ H', Nx H' → ∃ m', m' < m ∧ W (i + 1) m' H') ∧ ∀ x H', (Itq K a).yld i H x H' → g x (wipe σ vs) H' fun σ2 H2 => wipe σ2 vs = wipe σ vs ∧ tt σ2 H2 fun b H3 =>
        if b = true then te σ2 H3 fun y H4 => ∃ acc, H4 D = some (.lst acc) ∧ acc.length < sizeLine ∧ Nx (upd H4 D (.lst (acc ++ [y]))) else Nx H3) := by
  refine ⟨fun i m H => m + i = xs.length ∧ Pv i H, ⟨xs.length, Nat.add_zero _, h0⟩, ?_⟩
  rintro i m H ⟨hm, p⟩
  have t := hl i H (by omega) p
  cases m with
  | zero =>
    have e : i = xs.length := by omega
    subst e
    exact .inl ⟨⟨xs, t, Nat.le_refl _⟩, hd H p⟩
  | succ m =>
    have hi : xs[i]? = some (xs[i]'(by omega)) := List.getElem?_eq_getElem (by omega)
    refine .inr ⟨⟨xs, _, t, hi⟩, Pv (i + 1), fun H' p' => ⟨m, Nat.lt_succ_self _, by omega, p'⟩, ?_⟩
    rintro x H' ⟨T, y, rfl, hT, rfl, hy⟩
    exact hs i y H T _ (hy xs t) p hT (same_new hT) upd_same
/-! ### fields by their names -/
theorem lk_hit {f : Str} {v : V} {fs : List (Str × V)} : ((f, v) :: fs).lookup f = some v := by simp [List.lookup]
theorem lk_miss {f g : Str} {v : V} {fs : List (Str × V)} (h : (f == g) = false) : ((g, v) :: fs).lookup f = fs.lookup f := by simp [List.lookup, h]
theorem pf_hit {f : Str} {v w : V} {fs : List (Str × V)} : putF f v ((f, w) :: fs) = (f, v) :: fs := by
  show (if f = f then (f, v) :: fs else _) = _
  rw [if_pos rfl]
theorem pf_miss {f g : Str} {v w : V} {fs : List (Str × V)} (h : ¬ g = f) : putF f v ((g, w) :: fs) = (g, w) :: putF f v fs := by
  show (if g = f then _ else (g, w) :: putF f v fs) = _
  rw [if_neg h]
theorem v_sfa {K : PySem.W.Frag} {σ : L2.St} {H : Hp} {D : Ends} {f : Str} {ta tv : TE} {rd : V → V → Hp → VK → Prop} (h : ta σ H fun x H1 => ∃ a C dx fs v, x = .ref a ∧ H1 a = some (.ins C dx fs) ∧ Cls K C ∧ NoAttr K C f ∧ fs.lookup f = some v ∧
  tv σ H1 fun y H2 => rd v y H2 fun z H3 => ∃ dx' fs', H3 a = some (.ins C dx' fs') ∧ fs'.length < 1000 ∧ D.nx σ (upd H3 a (.ins C dx' (putF f z fs')))) : sFldAug K ta tv rd f D σ H := h
theorem Tb.mutI {cs : Cds} {p C dx : Addr} {fs : List (Str × V)} {H : Hp} {o : HO} (tb : Tb cs H) (h : H p = some (.ins C dx fs)) : Tb cs (upd H p o) := fun q hq => by
  obtain ⟨ps, h1, h2, h3⟩ := tb q hq
  have nP : ∀ {b : Addr} {u : HO}, H b = some u → (∀ C dx fs, u ≠ .ins C dx fs) → b ≠ p := fun e n z => by
    rw [z, h] at e
    exact n _ _ _ (Option.some.inj e).symm
  refine ⟨ps, by rw [upd_ne (nP h1 fun _ _ _ z => nomatch z)]; exact h1, h2, fun pos cv hc => ?_⟩
  obtain ⟨c, e1, e2⟩ := h3 pos cv hc
  exact ⟨c, e1, by rw [upd_ne (nP e2 fun _ _ _ z => by unfold LamX.CodeO at z; cases z)]; exact e2⟩
theorem Tb.mutL {cs : Cds} {p : Addr} {ys : List V} {H : Hp} {o : HO} (tb : Tb cs H) (h : H p = some (.lst ys)) : Tb cs (upd H p o) := fun q hq => by
  obtain ⟨ps, h1, h2, h3⟩ := tb q hq
  have nP : ∀ {b : Addr} {u : HO}, H b = some u → (∀ xs, u ≠ .lst xs) → b ≠ p := fun e n z => by
    rw [z, h] at e
    exact n _ (Option.some.inj e).symm
  refine ⟨ps, by rw [upd_ne (nP h1 fun _ z => nomatch z)]; exact h1, h2, fun pos cv hc => ?_⟩
  obtain ⟨c, e1, e2⟩ := h3 pos cv hc
  exact ⟨c, e1, by rw [upd_ne (nP e2 fun _ z => by unfold LamX.CodeO at z; cases z)]; exact e2⟩
/-! ### what was told: None, True or False -/
def rV : Option Bool → V
  | none => .non
  | some t => .bl t
def rIsR : R2 := fun x y H Q => ∃ (r : Option Bool) (b : Bool), x = rV r ∧ y = .bl b ∧ Q (.bl (decide (r = some b))) H
theorem op_isR {X : Cx} : OpR X (compareOp .Is) rIsR := by
  intro pins s σ H x y v u Q I rx ry h
  obtain ⟨r, b, rfl, rfl, q⟩ := h
  cases (show u = Value.bool b from ry)
  cases r with
  | none =>
    cases (show v = Value.none from rx)
    exact wpAny_is_other rfl (fun z => nomatch z) ⟨.bl false, H, I, rfl, by simpa using q⟩
  | some a =>
    cases (show v = Value.bool a from rx)
    by_cases e : a = b
    · subst e
      exact wpAny_is_self rfl ⟨.bl true, H, I, rfl, by simpa using q⟩
    · exact wpAny_is_other rfl (fun z => e (Value.bool.inj z)) ⟨.bl false, H, I, rfl, by simpa [e] using q⟩
theorem v_isR {r : Option Bool} {b : Bool} {H : Hp} {Q : VK} (q : Q (.bl (decide (r = some b))) H) : rIsR (rV r) (.bl b) H Q := ⟨r, b, rfl, rfl, q⟩
theorem rV_non {r : Option Bool} : (rV r = .non) ↔ r = none := by cases r <;> simp [rV]
theorem Tb.fr2 {cs : Cds} {x l C dx : Addr} {fs : List (Str × V)} {ys : List V} {H H' : Hp} (tb : Tb cs H) (h1 : H x = some (.ins C dx fs)) (h2 : H l = some (.lst ys)) (f : Fr2 x l H H') : Tb cs H' := fun q hq => by
  obtain ⟨ps, e1, e2, e3⟩ := tb q hq
  have nx : ∀ {b : Addr} {u : HO}, H b = some u → (∀ C dx fs, u ≠ .ins C dx fs) → b ≠ x := fun e n z => by
    rw [z, h1] at e
    exact n _ _ _ (Option.some.inj e).symm
  have nl : ∀ {b : Addr} {u : HO}, H b = some u → (∀ xs, u ≠ .lst xs) → b ≠ l := fun e n z => by
    rw [z, h2] at e
    exact n _ (Option.some.inj e).symm
  refine ⟨ps, f _ _ (nx e1 fun _ _ _ z => nomatch z) (nl e1 fun _ z => nomatch z) e1, e2, fun pos cv hc => ?_⟩
  obtain ⟨c, g1, g2⟩ := e3 pos cv hc
  exact ⟨c, g1, f _ _ (nx g2 fun _ _ _ z => by unfold LamX.CodeO at z; cases z) (nl g2 fun _ z => by unfold LamX.CodeO at z; cases z) g2⟩
def sp5 (f : V → V → V → V → V → Hp → VK → Prop) : Sp := fun vs H Q _ => ∃ a b c d e, vs = [a, b, c, d, e] ∧ f a b c d e H Q
theorem len5 {f : V → V → V → V → V → Hp → VK → Prop} {p q r s t : Str} : ∀ vs H Q E, sp5 f vs H Q E → vs.length = [p, q, r, s, t].length := fun _ _ _ _ h => by obtain ⟨a, b, c, d, e, rfl, _⟩ := h; rfl
theorem c5 {f : V → V → V → V → V → Hp → VK → Prop} {H : Hp} {Q : VK} {E : XK} {a b c d e : V} (h : f a b c d e H Q) : sp5 f ([a, b, c, d, e] ++ []) H Q E := ⟨a, b, c, d, e, rfl, h⟩
end Vc
namespace Vc
open PySem PySem.Spec PyProof.Rows L2
/-! ### a class made by names -/
theorem kbn3 {K : PySem.W.Frag} {fd : FuncData} {ps ks : List Str} {is : List Nat} (h : KBinds K fd ps ks (gpick 1 2 is) (gpick 1 2 is)) (hk : ks.length = 2) (hp : ps.length = 3) (hl : ∀ a b c : Value, (picks is [a, b, c]).length = 3) : KBn K fd ps 1 ks (gpick 1 2 is) (gpick 1 2 is) :=
  ⟨fun s us ws kin l1 l2 => h.to s us ws kin (by
    rw [hk] at l2
    match us, ws, l1, l2 with
    | [a], [b, c], _, _ => rw [hp]; exact hl a b c), h.rel⟩
theorem v_makeK {C : Addr} {n m : Nat} {sp : Sp} {gV : List V → List V → List V} {E : XK} {t tk : TA} {σ : L2.St} {H : Hp} {Q : VK} (h : t σ H fun vs H1 => tk σ H1 fun zs H2 => vs.length = n ∧ zs.length = m ∧ ∀ x dx, H2 x = none → H2 dx = none → dx ≠ x →
  sp (gV (.ref x :: vs) zs) (upd (upd H2 dx (.own x)) x (.ins C dx [])) (fun v H3 => v = .non ∧ Q (.ref x) H3) E) : tMakeK C n m sp gV E t tk σ H Q := h
end Vc
namespace Vc
open PySem PySem.Spec PyProof.Rows L2
/-! ### errors that keep a value: their class, as written -/
def exB (K : PySem.W.Frag) (C : Addr) : Bool := match K.lookup C with
  | some ⟨.type "type", _, .cls cd, sl⟩ => (match cd.mro, sl.toList with
    | .ref C2 :: bm, [_, _, _, _, some (.builtin n), _] => C2 == C && (n == "ValueError.__new__" && (cd.hasDict && (!cd.hasDel && PySem.HandSPX.refsVE bm)))
    | _, _ => false)
  | _ => false
theorem exB_cls {K : PySem.W.Frag} {C : Addr} (h : exB K C = true) : ∃ nm q N bs bm sn sub ab col dd k0 k1 k2 k3 k5, K.lookup C = some (excClassObj nm q C N bs bm true sn sub ab col dd k0 k1 k2 k3 k5 "ValueError.__new__") ∧ PySem.HandSPX.refsVE bm = true := by
  unfold exB at h
  split at h
  · rename_i dd cd sl e
    split at h
    · rename_i C2 bm a0 a1 a2 a3 n a5 em es
      simp only [Bool.and_eq_true, beq_iff_eq, Bool.not_eq_true'] at h
      obtain ⟨rfl, rfl, h3, h4, h5⟩ := h
      obtain ⟨nm, bs, mro, ns, qn, hd, sn, sb, ab, col, del⟩ := cd
      dsimp only at em h3 h4
      subst em h3 h4
      obtain ⟨sl⟩ := sl
      dsimp only at es
      subst es
      exact ⟨_, _, _, _, _, _, _, _, _, _, _, _, _, _, _, e, h5⟩
    · cases h
  · cases h
/-- an error class of the program with one value, its own __init__ -/
structure Er (K : PySem.W.Frag) (C fI : Addr) (f : Str) : Prop where
  ox : OexC K C
  ini : PySem.W.findIn K (.ref C) "__init__" = some (some (.ref fI))
  tyI : PySem.W.typeIn K (.ref fI) = some (.type "function")
  no : PySem.W.findIn K (.ref C) f = some none
  xf : XfC K C
  one : PySem.W.exmOne K (.ref C) (.ref C) = some true
/-- the promise of such an __init__ -/
def ini2 (C : Addr) (f : Str) : V → V → Hp → VK → Prop := fun s v H Q => ∃ a, s = .ref a ∧ H a = some (exo a C none) ∧ ∀ d, H d = none → d ≠ a → Q .non (upd (upd H d (exd d [(f, v)])) a (exo a C (some d)))
theorem v_ost {K : PySem.W.Frag} {f : Str} {to te : TE} {D : Ends} {σ : L2.St} {H : Hp} (h : te σ H fun y H1 => to σ H1 fun x H2 => ∃ a C : Addr, x = .ref a ∧ OexC K C ∧ PySem.W.findIn K (.ref C) f = some none ∧ H2 a = some (exo a C none) ∧ ∀ d, H2 d = none → d ≠ a → D.nx σ (upd (upd H2 d (exd d [(f, y)])) a (exo a C (some d))))
    (m1 : ∀ {P Q : VK}, (∀ v H, P v H → Q v H) → te σ H P → te σ H Q) (m2 : ∀ {H : Hp} {P Q : VK}, (∀ v H, P v H → Q v H) → to σ H P → to σ H Q) : tOst K f to te D σ H :=
  m1 (fun y H1 h1 => m2 (fun x H2 ⟨a, C, e, T, n, q⟩ => ⟨a, C, e, T, n, .inl q⟩) h1) h
theorem mono_var {i : Nat} : ∀ (σ : L2.St) (H : Hp) (A B : VK), (∀ v H1, A v H1 → B v H1) → tVar i σ H A → tVar i σ H B := fun _ _ _ _ m ⟨v, e, q⟩ => ⟨v, e, m _ _ q⟩
theorem mono_c {c : V} : ∀ (σ : L2.St) (H : Hp) (A B : VK), (∀ v H1, A v H1 → B v H1) → tC c σ H A → tC c σ H B := fun _ _ _ _ m q => m _ _ q
/-! ### raise C(e) -/
def tRaise1 (C : Addr) (f : Str) (te : TE) (W : WX) : TS := fun _ σ H => te σ H fun v H1 => ∀ d H2, H1 d = none → Same H1 H2 → H2 d = some (.xd [(f, v)]) → W (.ref C) (some d) σ H2
theorem PMk.imp {X : Cx} {e : Expr} {t u : L2.St → Hp → XK → Prop} (h : PMk X e t) (m : ∀ σ H Q, u σ H Q → t σ H Q) : PMk X e u := fun pins s σ H Q I hu => h pins s σ H Q I (m σ H Q hu)
theorem ps_raise1 {X : Cx} {C fI : Addr} {k : Nat} {fd : FuncData} {f p1 p2 : Str} {W : WX} {x : Str} {e : Expr} {te : TE} {p pos pos2 : Pos} (hc : X.calm = true) (T : Er X.K C fI f) (gC : X.mg x = some (.ref C)) (hg : Gl X x)
    (F : FnOk X.prog X.w X.K X.mg X.base (L2.CX X.prog X.w) k fI fd [p1, p2] (sp2 (ini2 C f))) (hr : Room (k + 1) X.A) (hb : L2.Binds X.K fd [p1, p2] []) (tk : Takes X W) (he : PE X e te)
    (mono : ∀ σ H (A B : VK), (∀ v H1, A v H1 → B v H1) → te σ H A → te σ H B)
    (hdb : (x == ("__debug__" : Str)) = false := by decide) (h1 : starEach [e] X.env = [(false, eval e X.env)] := by rfl) :
    PS X (.Raise (some (.Call (.Name x p) [e] [] pos)) none pos2) (tRaise1 C f te W) := by
  have mk := PMk.imp (u := fun σ H Q => te σ H fun v H1 => ∀ d H2, H1 d = none → Same H1 H2 → H2 d = some (.xd [(f, v)]) → Q (.ref C) (some d) H2)
    (pmk_oex (pos := pos) (p := p) T.ox T.ini T.tyI F hr hb .nil passF hg gC (pa_cons he pa_nil h1) hdb h1 (by rw [show starEach [] X.env = [] from rfl]; rfl)) (fun σ H Q hq => by
      refine mono _ _ _ _ (fun v H1 q => ?_) hq
      refine ⟨by simp, fun a ha => ⟨.ref a, v, rfl, a, rfl, upd_same, fun d hd hda => ⟨rfl, d, [(f, v)], upd_same, by rw [upd_ne hda]; exact upd_same, ?_, ?_⟩⟩⟩
      · rw [upd_ne hda] at hd
        exact hd
      · have hd' : H1 d = none := by
          rw [upd_ne hda] at hd
          exact hd
        refine q d _ hd' (fun b o eb => ?_) upd_same
        have nb : b ≠ a := fun z => by rw [z, ha] at eb; cases eb
        have nd : b ≠ d := fun z => by rw [z, hd'] at eb; cases eb
        rw [upd_ne nd, del_ne nb, upd_ne nb, upd_ne nd, upd_ne nb]
        exact eb)
  exact ps_raise hc tk mk
/-! ### try with several named clauses -/
abbrev Cl3 := Value × Nat × (Addr → Value → Option Addr → TS)
def goneE (D : Ends) (i : Nat) : Ends := ⟨fun σ H => D.nx (σ.set i none) H, D.rt, fun σ H => D.bk (σ.set i none) H, fun σ H => D.ct (σ.set i none) H⟩
def wNm (K : PySem.W.Frag) (Wo : WX) (D : Ends) : List Cl3 → WX
  | [] => Wo
  | z :: r => fun cl d σ H => ∃ b, PySem.W.exmOne K cl z.1 = some b ∧ (b = true → ∀ a, H a = none → z.2.2 a cl d (goneE D z.2.1) (σ.set z.2.1 (some (.ref a))) H) ∧ (b = false → wNm K Wo D r cl d σ H)
inductive NmOk (X : Cx) : List ExceptHandler → List Cl3 → Prop
  | nil : NmOk X [] []
  | cons {x n : Str} {i : Nat} {c : Value} {ts : Addr → Value → Option Addr → TS} {b0 : Stmt} {bs : List Stmt} {p1 p2 : Pos} {hs : List ExceptHandler} {l : List Cl3} (hc : Names X x c) (hi : X.N[i]? = some n) (hl : X.env.kindOf n = some .local)
      (su : ∀ (a : Addr) (o : Obj) (cl : Value) (d : Option Addr) (pn : List (Addr × Obj)), Zc cl d o → (∃ us, o.data = .fields us) → PSs (X.suite a ((a, o) :: pn)) (b0 :: bs) (ts a cl d)) (r : NmOk X hs l) :
      NmOk X (.ExceptHandler (some (.Name x p1)) (some n) (b0 :: bs) p2 :: hs) ((c, i, ts) :: l)
section
variable {X : Cx}
/-- how a run behind the clauses ends: the name goes -/
theorem nm_end {pins : List (Addr × Obj)} {D : Ends} {a : Addr} {o : Obj} {n : Str} {i : Nat} {p2 : Pos} (ok : X.Ok) (hN : X.N.Nodup) (hi : X.N[i]? = some n) (hl : X.env.kindOf n = some .local) {f : Flow} {s6 : Shared}
    (h : SP (X.suite a ((a, o) :: (X.pn ++ pins))) [] (goneE D i) f s6) : wpAny (model X.prog X.w) X.A (do bindName X.env n .none; unbindBehindTheSuite X.env n p2) (fun _ s7 => SP X pins D f s7) X.xe s6 := by
  have go : ∀ {σ6 : L2.St} {H6 : Hp} {R : Shared → Prop}, Inv (X.suite a ((a, o) :: (X.pn ++ pins))) [] σ6 H6 s6 → (∀ s7, Inv X pins (σ6.set i none) H6 s7 → R s7) → wpAny (model X.prog X.w) X.A (do bindName X.env n .none; unbindBehindTheSuite X.env n p2) (fun _ s7 => R s7) X.xe s6 :=
    fun J k => gone_ok (J.unsuite ok) hN hi hl k
  cases f with
  | ret u =>
    obtain ⟨v, σ6, H6, J, r, q⟩ := h
    exact go J fun s7 J7 => ⟨v, _, _, J7, r, q⟩
  | next => obtain ⟨σ6, H6, J, q⟩ := h; exact go J fun s7 J7 => ⟨_, _, J7, q⟩
  | brk => obtain ⟨σ6, H6, J, q⟩ := h; exact go J fun s7 J7 => ⟨_, _, J7, q⟩
  | cont => obtain ⟨σ6, H6, J, q⟩ := h; exact go J fun s7 J7 => ⟨_, _, J7, q⟩
/-- what the clauses do with an exception that has been noted -/
theorem nm_go {B : Heap} {pins : List (Addr × Obj)} {D : Ends} {Wo : WX} {s1 : Shared} {h3 : Heap} {sI : Shared} {σ : L2.St} {H : Hp} {a : Addr} {cl : Value} {d : Option Addr} (hs : X.stack = X.env :: X.outer) (hf : X.env.frame = some X.env.locals) (hN : X.N.Nodup) (tk : Takes X Wo) (ok : X.Ok) (J : Inv X pins σ H sI) (na : H a = none)
    (fl : PySem.HandSPX.FlyingZ B (X.env :: X.outer) a (Zc cl d) h3) (at_ : ∀ h4, B.StaysIn h4 → h3.UpToSlots h4 → Inv X pins σ H { s1 with heap := h4 })
    (out : ∀ h4, PySem.HandSPX.HeldZ B (X.env :: X.outer) a (Zc cl d) X.env.locals h4 → h3.UpToSlots h4 → Wo cl d σ H → XE X Wo (.ref a) { s1 with heap := h4 }) :
    ∀ {l : List Cl3} {hds : List ExceptHandler}, NmOk X hds l → wNm X.K Wo D l cl d σ H → wpAny (model X.prog X.w) X.A (handleBy (.ref a) X.env hds) (SP X pins D) X.xe { s1 with heap := h3 } := by
  obtain ⟨o3, us3, e3, z3, d3⟩ := fl.there
  have nfr : a ∉ frs (X.env :: X.outer) := fun hm => by
    obtain ⟨_, o', e', q'⟩ := fl.2.2.1.mem hm
    have e2 : o3 = o' := Option.some.inj (e3.symm.trans e')
    subst e2
    exact q' _ d3
  have nL : a ≠ X.env.locals := fun z => nfr (List.mem_filterMap.mpr ⟨_, .head _, by rw [hf, z]⟩)
  have nF : a ∉ X.fs := fun hm => by
    obtain ⟨ev, he, q⟩ := List.mem_filterMap.mp hm
    exact nfr (List.mem_filterMap.mpr ⟨ev, .tail _ he, q⟩)
  have J3 := at_ h3 fl.1 (Heap.UpToSlots.refl _)
  have S3 := J3.suite e3 d3 na nL nF
  intro l hds hk
  induction hk with
  | nil =>
    intro w
    refine wpAny_handleBy_nil ?_
    obtain ⟨_, _, _, o, us, T, oT, t', he, hz, hd, h1, hr⟩ := id fl
    unfold PySem.passOn
    refine wpAny_bind (wpAny_field he hd h1 ?_)
    rw [if_neg (by simp : ¬ ((Value.ref T == Value.none) = true))]
    have last : wpAny (model X.prog X.w) X.A (setFlight (.ref a) X.env.frame) (fun _ s4 => wpAny (model X.prog X.w) X.A (throw (.ref a) : Sem Flow) (SP X pins D) X.xe s4) X.xe { s1 with heap := h3 } := by
      rw [hf]
      exact PySem.HandSPX.setFlight_upZ fl fun h4 hh up => wpAny_throw (tk _ _ (out h4 hh up w))
    first
      | exact wpAny_bind (wpAny_pure (wpAny_bind last))
      | exact wpAny_bind last
  | @cons x n i c ts b0 bs p1 p2 hs2 l2 hc hi hl su r ih =>
    intro w
    obtain ⟨b, hb, yes, no⟩ := w
    refine wpAny_handleBy_cons (codeAny_handlers_test ?_) (fun q => nomatch q)
    have tyL : PySem.W.Looks (model X.prog X.w) h3 (typeOf (.ref a)) cl := fun _ _ _ _ k q => wpAny_typeOf_ref (k _ _ e3) (by rw [z3.1]; exact q)
    have look := PySem.W.exm_one (M := model X.prog X.w) J3.kIn tyL hb
    have ask : ∀ {Q E : Value → Shared → Prop}, Q c { s1 with heap := h3 } → wpAny (model X.prog X.w) (X.A.mark (some (.ref a))) (eval (.Name x p1) X.env) Q E { s1 with heap := h3 } := fun {Q E} q => by
      rcases hc with ⟨g1, g2, m | ⟨m, v, nn⟩⟩
      · exact ld_glob (X := X.suite a ((a, o3) :: (X.pn ++ pins))) S3 g1 m q g2
      · exact ld_blt (X := X.suite a ((a, o3) :: (X.pn ++ pins))) S3 g1 m v q nn g2
    refine ask (look.here ?_)
    cases b with
    | false => exact ih (no rfl)
    | true =>
      refine codeAny_handlers_suite_as (PySem.HandSPX.lands_againZ fl fun h4 fl4 up4 => ?_)
      obtain ⟨o4, us4, e4, z4, d4⟩ := fl4.there
      have S4 := (at_ h4 fl4.1 up4).suite e4 d4 na nL nF
      exact store_ok (X := X.suite a ((a, o4) :: (X.pn ++ pins))) (v := .ref a) S4 hN hi (.inl hl) rfl (fun s5 S5 => wpAny_mono ((su a o4 cl d (X.pn ++ pins) z4 ⟨_, d4⟩).run [] s5 _ H _ S5 (yes rfl a na)) (fun f s6 h6 => nm_end ok hN hi hl h6) fun _ _ z => z.elim) (.inr hl)
theorem ps_try_nm {body : List Stmt} {h0 : ExceptHandler} {hds : List ExceptHandler} {l : List Cl3} {pos : Pos} {tb : WX → TS} {Wo : WX} (hs : X.stack = X.env :: X.outer) (hf : X.env.frame = some X.env.locals) (hN : X.N.Nodup) (tk : Takes X Wo)
    (hb : ∀ (W : WX) (pn : List (Addr × Obj)) (xe : Value → Shared → Prop), Takes (X.tr pn xe) W → PassesOwn (model X.prog X.w) X.A X.env xe → PSs (X.tr pn xe) body (tb W)) (hh : NmOk X (h0 :: hds) l) :
    PS X (.Try body (h0 :: hds) [] [] pos) (fun D σ H => tb (wNm X.K Wo D l) D σ H) := by
  refine ⟨fun pins s σ H D I h => wpAny_Try_except ?_⟩
  have ok := I.ok
  have hfr : X.A.frames = some (X.env :: X.outer) := ok.frames.trans (by rw [hs])
  let xe : Value → Shared → Prop := fun e s1 => wpAny (model X.prog X.w) X.A (noteFrame e X.env) (fun _ s2 => wpAny (model X.prog X.w) X.A (setFlight e none) (fun _ s3 => wpAny (model X.prog X.w) X.A (handleBy e X.env (h0 :: hds)) (SP X pins D) X.xe s3) X.xe s2) X.xe s1
  have run := (hb (wNm X.K Wo D l) (X.pn ++ pins) xe (fun u s1 x => ?_) PassesOwn.looking).run [] s σ H D (I.toTry _) h
  · refine wpAny_mono run (fun f s1 h1 => ?_) fun _ _ z => z
    cases f with
    | ret u => obtain ⟨v, σ', H', J, r, q⟩ := h1; exact ⟨v, σ', H', J.ofTry ok, r, q⟩
    | next => obtain ⟨σ', H', J, q⟩ := h1; exact wpAny_execs_nil ⟨σ', H', J.ofTry ok, q⟩
    | brk => obtain ⟨σ', H', J, q⟩ := h1; exact ⟨σ', H', J.ofTry ok, q⟩
    | cont => obtain ⟨σ', H', J, q⟩ := h1; exact ⟨σ', H', J.ofTry ok, q⟩
  · obtain ⟨a, B, sI, pins1, σ1, H1, cl, d, rfl, J1, nb, up, sky, na, os, ag, w⟩ := x
    have J : Inv X pins σ1 H1 sI := J1.ofTry ok
    have sky1 : Sky B (X.env :: X.outer) a (Zc cl d) X.env.locals s1.heap := by rw [← hs]; exact sky
    show wpAny (model X.prog X.w) X.A (noteFrame (.ref a) X.env) _ _ _
    refine Sky.land Zc.steady hfr hf sky1 fun h3 fl up3 => nm_go (B := B) (s1 := s1) (sI := sI) hs hf hN tk ok J na fl (fun h4 st u4 => J.landed nb st ((up.trans up3).trans u4) os ag) (fun h4 hh4 u4 q => ?_) hh w
    exact ⟨a, B, sI, pins, σ1, H1, cl, d, rfl, J, nb, (up.trans up3).trans u4, .inr (.inr (by rw [hs]; exact hh4)), na, os, ag, q⟩
end
/-! ### one clause without a name, what it does not take goes on -/
def tTry1X (K : PySem.W.Frag) (C : Addr) (Eo : XK) (ts : TS) (tb : XK → TS) : TS := fun D σ H => tb (WE' (wOnly K (.ref C) (fun _ _ _ => ts) (fun cl d _ H => Eo cl d H) D)) D σ H
theorem ps_try1X {X : Cx} {C : Addr} {Eo : XK} {x : Str} {body : List Stmt} {b₀ : Stmt} {ts : TS} {tb : XK → TS} {np pos pos' : Pos} (hs : X.stack = X.env :: X.outer) (hf : X.env.frame = some X.env.locals) (hg : Gl X x) (gC : X.mg x = some (.ref C)) (hd : (x == ("__debug__" : Str)) = false)
    (tk : Takes X (fun cl d _ H => Eo cl d H)) (hb : ∀ (EX : XK) (pn : List (Addr × Obj)) (xe : Value → Shared → Prop), Passes (L2.CX X.prog X.w) (X.tr pn xe) EX → PSs (X.tr pn xe) body (tb EX))
    (hsu : ∀ (a : Addr) (pn : List (Addr × Obj)), PSs (X.suite a pn) [b₀] ts) :
    PS X (.Try body [.ExceptHandler (some (.Name x np)) none [b₀] pos'] [] [] pos) (tTry1X X.K C Eo ts tb) :=
  ps_try_only (c := .ref C) (tb := fun W => tb (WE' W)) (ts := fun _ _ _ => ts) (Wout := fun cl d _ H => Eo cl d H) hs hf ⟨hg, hd, .inl gC⟩ tk (fun W pn xe tk _ => hb (WE' W) pn xe (passW tk)) (fun a oe cls d pn _ _ => hsu a _)
theorem v_try1X {K : PySem.W.Frag} {C : Addr} {Eo : XK} {ts : TS} {tb : XK → TS} {D : Ends} {σ : L2.St} {H : Hp} (T : ExC K C)
    (h : ∀ E : XK, (∀ d H', (∀ σ', ts D σ' H') → E (.ref C) d H') → (∀ C2 d H', PySem.W.exmOne K (.ref C2) (.ref C) = some false → Eo (.ref C2) d H' → E (.ref C2) d H') → tb E D σ H) : tTry1X K C Eo ts tb D σ H :=
  h _ (fun d H' q σ' => ⟨true, T.one, fun _ a _ => q σ', fun z => nomatch z⟩) fun C2 d H' n q σ' => ⟨false, n, fun z => (nomatch z), fun _ => q⟩
/-! ### several clauses with names -/
def tTryN (K : PySem.W.Frag) (Eo : XK) (l : List Cl3) (tb : WX → TS) : TS := fun D σ H => tb (wNm K (fun cl d _ H => Eo cl d H) D l) D σ H
theorem v_tryN {K : PySem.W.Frag} {Eo : XK} {l : List Cl3} {tb : WX → TS} {D : Ends} {σ : L2.St} {H : Hp} (h : ∀ W : WX, (∀ cl d σ' H', wNm K (fun cl d _ H => Eo cl d H) D l cl d σ' H' → W cl d σ' H') → tb W D σ H) : tTryN K Eo l tb D σ H := h _ fun _ _ _ _ q => q
theorem wNm_hit {K : PySem.W.Frag} {Wo : WX} {D : Ends} {i : Nat} {ts : Addr → Value → Option Addr → TS} {r : List Cl3} {C : Addr} {d : Option Addr} {σ : L2.St} {H : Hp} (one : PySem.W.exmOne K (.ref C) (.ref C) = some true) (q : ∀ a, H a = none → ts a (.ref C) d (goneE D i) (σ.set i (some (.ref a))) H) : wNm K Wo D ((.ref C, i, ts) :: r) (.ref C) d σ H :=
  ⟨true, one, fun _ => q, fun z => nomatch z⟩
theorem wNm_miss {K : PySem.W.Frag} {Wo : WX} {D : Ends} {i : Nat} {ts : Addr → Value → Option Addr → TS} {r : List Cl3} {C C2 : Addr} {d : Option Addr} {σ : L2.St} {H : Hp} (n : PySem.W.exmOne K (.ref C) (.ref C2) = some false) (q : wNm K Wo D r (.ref C) d σ H) : wNm K Wo D ((.ref C2, i, ts) :: r) (.ref C) d σ H :=
  ⟨false, n, fun z => (nomatch z), fun _ => q⟩
theorem passAtV {X : Cx} {W : WX} (tk : Takes X W) (σ : L2.St) : PassesAt (L2.CX X.prog X.w) X σ (fun cl d H => W cl d σ H) := fun pins H s e s' I c =>
  tk _ _ (XE.of_call (W := W) I (fun _ _ _ q => q) c)
/-- err.f behind 'as err' -/
theorem v_xf {a : Addr} {C : Addr} {d : Addr} {f : Str} {te : TE} {σ : L2.St} {H : Hp} {Q : VK} {v : V} (h : te σ H fun x H1 => x = .ref a ∧ H1 d = some (.xd [(f, v)]) ∧ Q v H1) (m : ∀ {P R : VK}, (∀ v H, P v H → R v H) → te σ H P → te σ H R) : tXf a (.ref C) (some d) C f te σ H Q :=
  m (fun x H1 ⟨e, e2, q⟩ => ⟨e, rfl, d, _, v, rfl, e2, by simp [List.lookup], q⟩) h
theorem ps_tryN {X : Cx} {body : List Stmt} {h0 : ExceptHandler} {hds : List ExceptHandler} {l : List Cl3} {pos : Pos} {tb : WX → TS} {Eo : XK} (hs : X.stack = X.env :: X.outer) (hf : X.env.frame = some X.env.locals) (hN : X.N.Nodup) (tk : Takes X (fun cl d _ H => Eo cl d H))
    (hb : ∀ (W : WX) (pn : List (Addr × Obj)) (xe : Value → Shared → Prop), Takes (X.tr pn xe) W → PSs (X.tr pn xe) body (tb W)) (hh : NmOk X (h0 :: hds) l) : PS X (.Try body (h0 :: hds) [] [] pos) (tTryN X.K Eo l tb) :=
  ps_try_nm hs hf hN tk (fun W pn xe t _ => hb W pn xe t) hh
theorem v_callS {sp : Sp} {dvs : List V} {E : L2.St → XK} {t : TA} {σ : L2.St} {H : Hp} {Q : VK} (h : t σ H fun vs H1 => sp (vs ++ dvs) H1 Q (E σ)) : tCallSD sp dvs E t σ H Q := h
theorem v_raise1 {C : Addr} {f : Str} {te : TE} {W : WX} {D : Ends} {σ : L2.St} {H : Hp} (h : te σ H fun v H1 => ∀ d H2, H1 d = none → Same H1 H2 → H2 d = some (.xd [(f, v)]) → W (.ref C) (some d) σ H2) : tRaise1 C f te W D σ H := h
section
variable {K : PySem.W.Frag} {H : Hp} {Q : VK}
theorem v_isIntB {b : Bool} (h : Q (.bl true) H) : rIsi K [.bl b, .ty "int"] H Q := ⟨_, _, _, _, true, rfl, .ty _, .base (.bl b), kit_ty (by decide +kernel), h⟩
theorem v_isBoolB {b : Bool} (h : Q (.bl true) H) : rIsi K [.bl b, .ty "bool"] H Q := ⟨_, _, _, _, true, rfl, .ty _, .base (.bl b), kit_ty (by decide +kernel), h⟩
theorem v_isIntN (h : Q (.bl false) H) : rIsi K [.non, .ty "int"] H Q := ⟨_, _, _, _, false, rfl, .ty _, .base .non, kit_ty (by decide +kernel), h⟩
theorem v_isIntS {s : Str} (h : Q (.bl false) H) : rIsi K [.str s, .ty "int"] H Q := ⟨_, _, _, _, false, rfl, .ty _, .base (.str s), kit_ty (by decide +kernel), h⟩
end
theorem x4 {f : V → V → V → V → Hp → VK → XK → Prop} {H : Hp} {Q : VK} {E : XK} {a b c d : V} (h : f a b c d H Q E) : spx4 f ([a, b, c, d] ++ []) H Q E := ⟨a, b, c, d, rfl, h⟩
end Vc

namespace K10
open PySem PySem.Spec PyProof.Rows L2 Vc
local macro_rules | `(tactic| walk_at "v") => `(tactic| first
  | (with_reducible refine v_seq ?_)
  | (with_reducible refine v_fld ?_)
  | (with_reducible refine v_sfld ?_)
  | (with_reducible refine v_sfa ?_)
  | (with_reducible refine v_meth ?_)
  | (with_reducible refine v_methK ?_)
  | (with_reducible refine v_make ?_)
  | (with_reducible refine v_held ?_)
  | (with_reducible refine v_asg ?_)
  | ((with_reducible refine v_var (v := ?vv) ?hv ?_); (case hv => exact rfl))
  | ((with_reducible refine v_name ?_); try dsimp only [List.set_cons_zero, List.set_cons_succ])
  | (with_reducible refine v_c ?_)
  | (with_reducible refine v_op ?_)
  | (with_reducible refine v_cons ?_)
  | (with_reducible refine v_nil ?_)
  | (with_reducible refine v_call ?_)
  | (with_reducible refine v_callK ?_)
  | (with_reducible refine v_cb ?_)
  | (with_reducible refine v_I0 ?_)
  | (with_reducible refine v_ret ?_)
  | (with_reducible refine v_retN ?_)
  | (with_reducible refine v_drop ?_)
  | (with_reducible refine v_if ?_)
  | (with_reducible refine v_ifE ?_)
  | (with_reducible refine v_test ?_)
  | (with_reducible refine v_B ?_)
  | (with_reducible refine v_bl ?_)
  | (with_reducible refine v_and ?_)
  | (with_reducible refine v_or ?_)
  | (with_reducible refine v_not ?_)
  | (with_reducible refine v_andV ?_)
  | (with_reducible refine v_orV ?_)
  | (with_reducible refine v_notV ?_)
  | (with_reducible refine v_chain ?_)
  | (with_reducible refine v_eqI ?_)
  | (with_reducible refine v_neI ?_)
  | (with_reducible refine v_eqS0 ?_)
  | (with_reducible refine v_neS0 ?_)
  | (with_reducible refine v_par ?_)
  | (with_reducible refine v_par3 ?_)
  | ((with_reducible refine v_two ?_); try dsimp only [List.set_cons_zero, List.set_cons_succ])
  | ((with_reducible refine v_three ?_); try dsimp only [List.set_cons_zero, List.set_cons_succ])
  | (with_reducible refine v_un ?_)
  | (with_reducible refine v_U ?_)
  | (with_reducible refine v_isInt ?_)
  | (with_reducible refine v_isBool ?_)
  | (with_reducible refine v_int1 ?_)
  | (with_reducible refine v_abs ?_)
  | (with_reducible refine v_max ?_)
  | (with_reducible refine v_min ?_)
  | (with_reducible refine v_for ?_)
  | (with_reducible refine v_rng1 ?_)
  | (with_reducible refine v_iList ?_)
  | (with_reducible refine v_iTup ?_)
  | (with_reducible refine v_ref ?_)
  | (with_reducible refine v_sl ?_)
  | (with_reducible refine v_noPart ?_)
  | (with_reducible refine v_part ?_)
  | (with_reducible refine v_pInt ?_)
  | (with_reducible refine v_lc ?_)
  | (with_reducible refine v_yes ?_)
  | (with_reducible refine v_if0 ?_)
  | (with_reducible refine v_if1 ?_)
  | (with_reducible refine v_ifn ?_)
  | (with_reducible refine v_gsub ?_)
  | (with_reducible refine v_gcons ?_)
  | (with_reducible refine v_gnil ?_)
  | (with_reducible refine v_tup ?_)
  | (with_reducible refine v_lst ?_)
  | (with_reducible refine v_bmL ?_)
  | ((with_reducible refine v_next ?_); try dsimp only)
  | ((with_reducible refine v_I ?hc ?_); (case hc => first | exact Or.inl (by decide) | exact Or.inr (by decide) | exact cm_r (by decide) (by decide) (by decide) | (show (_ : Int) ≠ _; decide) | (show (0 : Int) < _; decide) | (show _ ∧ _; decide))))
local macro_rules | `(tactic| walk_at "vv") => `(tactic| repeat walk_at "v")
abbrev BLv : Int := 13729595320261219429963801598162786434538870600286610818788926918371086366795312104245119281322909109954592622782961716074243975999433287625148056582230114303
def MX : Nat := 2 ^ 522
def FL : Nat := MX - 1
theorem BLv_eq : BLv = ((FL : Nat) : Int) := by decide +kernel
theorem MX_pos : FL + 1 = MX := by decide +kernel
theorem MX_pow : MX = 2 ^ 522 := rfl
theorem full_eq : (1 : Int) * 2 ^ (522 : Int).toNat - 1 = ((FL : Nat) : Int) := by decide +kernel
theorem sh_eq : (1 : Int) * 2 ^ (522 : Int).toNat = ((MX : Nat) : Int) := by decide +kernel
theorem sh9_eq (k : Nat) : (k : Int) * 2 ^ (522 : Int).toNat = ((k * MX : Nat) : Int) := by
  rw [show (2 : Int) ^ (522 : Int).toNat = ((MX : Nat) : Int) by decide +kernel, Int.natCast_mul]
theorem MX_small : MX * 16 < 2 ^ 1920 := by decide +kernel
theorem MX_big : 600 < MX := by decide +kernel
theorem fl_bit {i : Nat} (h : i < 522) : FL.testBit i = true := by
  show (2 ^ 522 - 1).testBit i = true
  rw [Nat.testBit_two_pow_sub_one]
  exact decide_eq_true h
theorem and_fl {a : Nat} (h : a < MX) : a &&& FL = a := by
  apply bits_ext (n := 522) (lt_and h) h
  intro i hi
  rw [Nat.testBit_and, fl_bit hi, Bool.and_true]
theorem or_iff (a b : Nat) : (a ||| b = a) ↔ (b &&& a = b) := by
  constructor
  · intro h
    apply Nat.eq_of_testBit_eq
    intro i
    have e := congrArg (fun z => z.testBit i) h
    simp only [Nat.testBit_or] at e
    rw [Nat.testBit_and]
    revert e
    cases a.testBit i <;> cases b.testBit i <;> decide
  · intro h
    apply Nat.eq_of_testBit_eq
    intro i
    have e := congrArg (fun z => z.testBit i) h
    simp only [Nat.testBit_and] at e
    rw [Nat.testBit_or]
    revert e
    cases a.testBit i <;> cases b.testBit i <;> decide
theorem pow522 {k : Nat} (h : k < 522) : 2 ^ k < MX := lt_bit h
theorem cut_and {f s b : Nat} (hf : f < MX) : f &&& (s ||| (b &&& FL)) = f &&& (s ||| b) := by
  apply bits_ext (n := 522) (lt_and hf) (lt_and hf)
  intro i hi
  simp only [Nat.testBit_and, Nat.testBit_or, fl_bit hi, Bool.and_true]
/-- what a program leaves lies so -/
theorem left_word {f s b l : Nat} (h : f &&& (s ||| b) = l) : (f ||| l = f) ∧ (l ||| (f &&& s) = l) := by
  subst h
  constructor
  · apply Nat.eq_of_testBit_eq
    intro i
    simp only [Nat.testBit_and, Nat.testBit_or]
    cases f.testBit i <;> cases s.testBit i <;> cases b.testBit i <;> rfl
  · apply Nat.eq_of_testBit_eq
    intro i
    simp only [Nat.testBit_and, Nat.testBit_or]
    cases f.testBit i <;> cases s.testBit i <;> cases b.testBit i <;> rfl
theorem word_left {f s l : Nat} (h1 : f ||| l = f) (h2 : l ||| (f &&& s) = l) : f &&& (s ||| l) = l := by
  apply Nat.eq_of_testBit_eq
  intro i
  have e1 := congrArg (fun z => z.testBit i) h1
  have e2 := congrArg (fun z => z.testBit i) h2
  simp only [Nat.testBit_and, Nat.testBit_or] at e1 e2 ⊢
  revert e1 e2
  cases f.testBit i <;> cases s.testBit i <;> cases l.testBit i <;> decide
theorem left_erase {f b l : Nat} (h : f ||| b = l) : f ||| l = l := by
  subst h
  rw [← Nat.or_assoc, Nat.or_self]
theorem leafN {a : Nat} (h : a < MX * 16) : Leaf (.int (a : Int)) := leaf_int (by
  have := MX_small
  rw [Int.natAbs_natCast]
  omega)
theorem full512 : (1 : Int) * 2 ^ (512 : Int).toNat - 1 = ((2 ^ 512 - 1 : Nat) : Int) := by decide +kernel
theorem cut_lo (xs : List V) (k : Nat) (h : k ≤ xs.length) : cutV xs (some (k : Int)) none = xs.drop k := by
  unfold cutV
  rw [HT.sIx_nat, HT.sIx_none, Nat.min_eq_left h]
  exact List.take_of_length_le (by rw [List.length_drop]; omega)
theorem cut_hi (xs : List V) (k : Nat) : cutV xs none (some (k : Int)) = xs.take k := by
  unfold cutV
  rw [HT.sIx_nat, HT.sIx_none, List.drop_zero, Nat.sub_zero]
  rcases Nat.le_total k xs.length with h | h
  · rw [Nat.min_eq_left h]
  · rw [Nat.min_eq_right h, List.take_of_length_le (Nat.le_refl _), List.take_of_length_le h]
section
variable {K : PySem.W.Frag} {H : Hp} {Q : VK} {a b : Addr} {xs ys : List V}
theorem a_slA {lo hi : Option Int} (h : SqT K H a xs) (q : ∀ (l : Addr) (H' : Hp), Same H H' → SqT K H' l (cutV xs lo hi) → Q (.ref l) H') : rSlA K (.ref a) lo hi H Q := by
  refine ⟨a, xs, rfl, h, fun e => q a H (fun _ _ z => z) ?_, fun _ p hp => q p _ (same_new hp) (sqT_of upd_same)⟩
  have e2 : cutV xs lo hi = xs := by
    unfold cutV
    rw [e.1, e.2, List.drop_zero, Nat.sub_zero, List.take_length]
  rw [e2]
  exact h
theorem a_catA (h : SqT K H a xs) (h2 : SqT K H b ys) (hl : xs.length + ys.length ≤ 100000) (q : ∀ (l : Addr) (H' : Hp), Same H H' → SqT K H' l (xs ++ ys) → Q (.ref l) H') : rCatA K (.ref a) (.ref b) H Q := by
  refine ⟨a, b, xs, ys, rfl, rfl, h, h2, Nat.le_trans hl (by decide), fun e => q b H (fun _ _ z => z) (by rw [e]; exact h2), fun _ e => q a H (fun _ _ z => z) (by rw [e, List.append_nil]; exact h), fun _ _ p hp => q p _ (same_new hp) (sqT_of upd_same)⟩
end
theorem fmodN (a k : Nat) : (a : Int).fmod (k : Int) = ((a % k : Nat) : Int) := by
  rw [Int.fmod_eq_emod_of_nonneg _ (Int.natCast_nonneg _), Int.natCast_emod]
theorem full_of (k : Nat) : (1 : Int) * 2 ^ ((k : Int).toNat) - 1 = ((2 ^ k - 1 : Nat) : Int) := by
  rw [shl1]
  have := Nat.pow_pos (n := k) (show 0 < 2 by decide)
  omega
theorem small_shl {k n : Nat} (hk : k ≤ 100000) : CShl (1 : Int) (k : Int) := shl_ok (n := 1) (by decide) (by omega)
/-! ### blocks, outcomes, images -/
structure Bk where
  bad : Bool
  er : Nat
  pg : List Nat
inductive Oc where
  | done
  | cut (m : Nat)
  | fails (m : Nat)
def inD (ns : List Nat) : List D := ns.map fun n : Nat => D.int (n : Int)
def Bk.d (b : Bk) : D := .tup [.bl b.bad, .int (b.er : Int), .tup (inD b.pg)]
def Oc.d : Oc → D
  | .done => .tup [.str "done"]
  | .cut m => .tup [.str "cut", .int (m : Int)]
  | .fails m => .tup [.str "fails", .int (m : Int)]
/-- a page, a block of P pages, an image -/
def GP (P : Nat) (pg : List Nat) : Prop := pg.length = P ∧ ∀ n ∈ pg, n < MX
def GI (P : Nat) (im : List Bk) (n : Nat) : Prop := 5 ≤ im.length ∧ im.length ≤ 12 ∧ 5 ≤ P ∧ P ≤ 12 ∧ n ≤ 100 ∧ ∀ b ∈ im, GP P b.pg ∧ b.er ≤ 500 + n
/-- what the next outcome is: its word, its mask -/
def outc (os : List Oc) (n dm : Nat) : PySem.Str × Nat := match os[n]? with
  | some (.cut m) => ("cut", m)
  | some (.fails m) => ("fails", m)
  | _ => ("done", dm)
theorem str_df : ¬ (("done" : PySem.Str) = "fails") := by decide +kernel
theorem str_dc : ¬ (("done" : PySem.Str) = "cut") := by decide +kernel
theorem str_cf : ¬ (("cut" : PySem.Str) = "fails") := by decide +kernel
theorem str_cd : ¬ (("cut" : PySem.Str) = "done") := by decide +kernel
theorem str_fd : ¬ (("fails" : PySem.Str) = "done") := by decide +kernel
theorem str_fc : ¬ (("fails" : PySem.Str) = "cut") := by decide +kernel
theorem outc_kinds (os : List Oc) (n dm : Nat) : (outc os n dm).1 = "done" ∧ (outc os n dm).2 = dm ∨ (outc os n dm).1 = "cut" ∨ (outc os n dm).1 = "fails" := by
  unfold outc
  split
  · exact .inr (.inl rfl)
  · exact .inr (.inr rfl)
  · exact .inl ⟨rfl, rfl⟩
/-- the fields of a chip -/
def chF (l lk : Addr) (n : Nat) (g : Bool) : List (PySem.Str × V) := [("_blocks", .ref l), ("_luck", .ref lk), ("_begun", .int (n : Int)), ("_is_gone", .bl g)]
theorem ch_bl {l lk : Addr} {n : Nat} {g : Bool} : (chF l lk n g).lookup ("_blocks" : PySem.Str) = some (V.ref l) := lk_hit
theorem ch_lk {l lk : Addr} {n : Nat} {g : Bool} : (chF l lk n g).lookup ("_luck" : PySem.Str) = some (V.ref lk) := (lk_miss (by decide +kernel)).trans lk_hit
theorem ch_n {l lk : Addr} {n : Nat} {g : Bool} : (chF l lk n g).lookup ("_begun" : PySem.Str) = some (V.int (n : Int)) := (lk_miss (by decide +kernel)).trans ((lk_miss (by decide +kernel)).trans lk_hit)
theorem ch_g {l lk : Addr} {n : Nat} {g : Bool} : (chF l lk n g).lookup ("_is_gone" : PySem.Str) = some (V.bl g) := (lk_miss (by decide +kernel)).trans ((lk_miss (by decide +kernel)).trans ((lk_miss (by decide +kernel)).trans lk_hit))
theorem ch_no {l lk : Addr} {n : Nat} {g : Bool} {m : PySem.Str} (h1 : (m == "_blocks") = false) (h2 : (m == "_luck") = false) (h3 : (m == "_begun") = false) (h4 : (m == "_is_gone") = false) : (chF l lk n g).lookup m = none :=
  (lk_miss h1).trans ((lk_miss h2).trans ((lk_miss h3).trans ((lk_miss h4).trans rfl)))
theorem ch_len {l lk : Addr} {n : Nat} {g : Bool} : (chF l lk n g).length < 1000 := by show 4 < 1000; decide
theorem put_n {l lk : Addr} {n k : Nat} {g : Bool} : putF "_begun" (.int (k : Int)) (chF l lk n g) = chF l lk k g := by
  unfold chF
  rw [pf_miss (by decide +kernel), pf_miss (by decide +kernel), pf_hit]
theorem put_g {l lk : Addr} {n : Nat} {g h : Bool} : putF "_is_gone" (.bl h) (chF l lk n g) = chF l lk n h := by
  unfold chF
  rw [pf_miss (by decide +kernel), pf_miss (by decide +kernel), pf_miss (by decide +kernel), pf_hit]
theorem put_0 (l : Addr) : putF "_blocks" (.ref l) [] = [(("_blocks" : PySem.Str), V.ref l)] := rfl
theorem put_1 (l lk : Addr) : putF "_luck" (.ref lk) [(("_blocks" : PySem.Str), V.ref l)] = [(("_blocks" : PySem.Str), V.ref l), ("_luck", .ref lk)] := by
  rw [pf_miss (by decide +kernel)]
  rfl
theorem put_2 (l lk : Addr) : putF "_begun" (.int 0) [(("_blocks" : PySem.Str), V.ref l), ("_luck", .ref lk)] = [(("_blocks" : PySem.Str), V.ref l), ("_luck", .ref lk), ("_begun", .int 0)] := by
  rw [pf_miss (by decide +kernel), pf_miss (by decide +kernel)]
  rfl
theorem put_3 (l lk : Addr) : putF "_is_gone" (.bl false) [(("_blocks" : PySem.Str), V.ref l), ("_luck", .ref lk), ("_begun", .int 0)] = chF l lk 0 false := by
  rw [pf_miss (by decide +kernel), pf_miss (by decide +kernel), pf_miss (by decide +kernel)]
  rfl
/-- a chip at x, its blocks in the list at l, its luck at lk -/
structure ChAt (K : PySem.W.Frag) (C x l lk : Addr) (H : Hp) (P : Nat) (im : List Bk) (os : List Oc) (n : Nat) (g : Bool) : Prop where
  ob : ∃ dx, H x = some (.ins C dx (chF l lk n g))
  bl : ∃ bs, H l = some (.lst bs) ∧ TDs K H bs (im.map Bk.d)
  lu : TD K H (.ref lk) (.tup (os.map Oc.d))
  ok : GI P im n
theorem ChAt.ne {K : PySem.W.Frag} {C x l lk : Addr} {H : Hp} {P : Nat} {im : List Bk} {os : List Oc} {n : Nat} {g : Bool} (h : ChAt K C x l lk H P im os n g) : x ≠ l := fun z => by
  obtain ⟨dx, e⟩ := h.ob
  obtain ⟨bs, e2, _⟩ := h.bl
  rw [z, e2] at e
  cases e
theorem ChAt.same {K : PySem.W.Frag} {C x l lk : Addr} {H H' : Hp} {P : Nat} {im : List Bk} {os : List Oc} {n : Nat} {g : Bool} (h : ChAt K C x l lk H P im os n g) (s : Same H H') : ChAt K C x l lk H' P im os n g := by
  obtain ⟨⟨dx, e⟩, ⟨bs, e2, t⟩, u, ok⟩ := h
  exact ⟨⟨dx, s _ _ e⟩, ⟨bs, s _ _ e2, t.tk (TK.same s)⟩, u.tk (TK.same s), ok⟩
/-- a block's own places -/
theorem td_blk {K : PySem.W.Frag} {H : Hp} {v : V} {b : Bk} (h : TD K H v b.d) : ∃ p q, v = .ref p ∧ SqT K H p [.bl b.bad, .int (b.er : Int), .ref q] ∧ SqT K H q (b.pg.map vN) := by
  unfold Bk.d at h
  cases h with
  | tup e h =>
  cases h with
  | cons h1 h =>
  cases h with
  | cons h2 h =>
  cases h with
  | cons h3 h =>
  cases h
  cases h1
  cases h2
  cases h3 with
  | tup e3 h3 =>
    rw [tds_ints_of h3] at e3
    exact ⟨_, _, rfl, e, e3⟩
theorem td_mk {K : PySem.W.Frag} {H : Hp} {p q : Addr} {b : Bk} (h : SqT K H p [.bl b.bad, .int (b.er : Int), .ref q]) (h2 : SqT K H q (b.pg.map vN)) : TD K H (.ref p) b.d :=
  .tup h (.cons (.bl _) (.cons (.int _) (.cons (.tup h2 (tds_ints _)) .nil)))
theorem ChAt.blk {K : PySem.W.Frag} {C x l lk : Addr} {H : Hp} {P : Nat} {im : List Bk} {os : List Oc} {n : Nat} {g : Bool} (h : ChAt K C x l lk H P im os n g) {i : Nat} (hi : i < im.length) :
    ∃ bs p q, H l = some (.lst bs) ∧ TDs K H bs (im.map Bk.d) ∧ bs.length = im.length ∧ bs[i]? = some (.ref p) ∧ SqT K H p [.bl im[i].bad, .int (im[i].er : Int), .ref q] ∧ SqT K H q (im[i].pg.map vN) ∧ GP P im[i].pg ∧ im[i].er ≤ 500 + n := by
  obtain ⟨bs, e, t⟩ := h.bl
  have hd : (im.map Bk.d)[i]? = some (im[i]).d := by rw [List.getElem?_map, List.getElem?_eq_getElem hi]; rfl
  obtain ⟨v, hv, tv⟩ := t.at hd
  obtain ⟨p, q, rfl, h1, h2⟩ := td_blk tv
  exact ⟨bs, p, q, e, t, by rw [t.len, List.length_map], hv, h1, h2, h.ok.2.2.2.2.2 _ (List.getElem_mem hi)⟩
/-! ### what a deed on the chip does -/
def stepR (kd : PySem.Str) : Option Bool := if kd = "cut" then none else some (decide (kd = "done"))
inductive Stp (im : List Bk) (os : List Oc) (n : Nat) (g : Bool) (b dm : Nat) (erf : Bk → Nat) (pgf : Bk → Nat → List Nat) : Option Bool → List Bk → Nat → Bool → Prop
  | gone : g = true → Stp im os n g b dm erf pgf none im n g
  | bad {k : Bk} : g = false → im[b]? = some k → k.bad = true → Stp im os n g b dm erf pgf (some false) im n g
  | run {k : Bk} : g = false → im[b]? = some k → k.bad = false → Stp im os n g b dm erf pgf (stepR (outc os n dm).1) (im.set b ⟨decide ((outc os n dm).1 = "fails"), erf k, pgf k (outc os n dm).2⟩) (n + 1) (decide ((outc os n dm).1 = "cut"))
def pgP (p w : Nat) (k : Bk) (mk : Nat) : List Nat := k.pg.set p (k.pg.getD p 0 &&& (w ||| mk))
def pgE (k : Bk) (mk : Nat) : List Nat := (List.range k.pg.length).map fun i => k.pg.getD i 0 ||| ((mk / 2 ^ (522 * i)) &&& FL)
inductive Dd where
  | prog (b p w : Nat)
  | erase (b : Nat)
def Dd.d : Dd → D
  | .prog b p w => .tup [.str "program", .int (b : Int), .int (p : Int), .int (w : Int)]
  | .erase b => .tup [.str "erase", .int (b : Int)]
def Dd.ok (N P : Nat) : Dd → Prop
  | .prog b p w => b < N ∧ p < P ∧ w < MX
  | .erase b => b < N
def Dd.stp (P : Nat) (im : List Bk) (os : List Oc) (n : Nat) (g : Bool) : Dd → Option Bool → List Bk → Nat → Bool → Prop
  | .prog b p w => Stp im os n g b 0 Bk.er (pgP p w)
  | .erase b => Stp im os n g b (2 ^ (522 * P) - 1) (fun k => k.er + 1) pgE
theorem gp_prog {P p w mk : Nat} {k : Bk} (h : GP P k.pg) (hp : p < P) : GP P (pgP p w k mk) := by
  refine ⟨by unfold pgP; rw [List.length_set, h.1], fun x hx => ?_⟩
  unfold pgP at hx
  rcases List.mem_or_eq_of_mem_set hx with z | z
  · exact h.2 x z
  · rw [z]
    refine lt_and (n := 522) ?_
    rw [List.getD_eq_getElem?_getD, List.getElem?_eq_getElem (by rw [h.1]; exact hp)]
    exact h.2 _ (List.getElem_mem _)
theorem fl_lt : FL < 2 ^ 522 := by have := MX_pos; have := MX_pow; omega
theorem gp_erase {P mk : Nat} {k : Bk} (h : GP P k.pg) : GP P (pgE k mk) := by
  refine ⟨by unfold pgE; rw [List.length_map, List.length_range, h.1], fun x hx => ?_⟩
  unfold pgE at hx
  obtain ⟨i, hi, rfl⟩ := List.mem_map.mp hx
  have hi2 := List.mem_range.mp hi
  refine lt_or (n := 522) ?_ (Nat.lt_of_le_of_lt Nat.and_le_right fl_lt)
  rw [List.getD_eq_getElem?_getD, List.getElem?_eq_getElem hi2]
  exact h.2 _ (List.getElem_mem _)
theorem set_cut (xs : List V) (p : Nat) (v : V) (h : p < xs.length) : xs.take p ++ [v] ++ xs.drop (p + 1) = xs.set p v := by
  rw [List.set_eq_take_append_cons_drop, if_pos h, List.append_assoc]
  rfl
theorem tk_fr2 {K : PySem.W.Frag} {C x l lk : Addr} {H H' : Hp} {P : Nat} {im : List Bk} {os : List Oc} {n : Nat} {g : Bool} (h : ChAt K C x l lk H P im os n g) (f : Fr2 x l H H') : TK H H' := fun b xs => by
  obtain ⟨dx, ex⟩ := h.ob
  obtain ⟨bs, eb, _⟩ := h.bl
  exact ⟨fun e => f b _ (fun z => by rw [z, ex] at e; cases e) (fun z => by rw [z, eb] at e; cases e) e, fun o e => f b _ (fun z => by rw [z, ex] at e; cases e) (fun z => by rw [z, eb] at e; cases e) e⟩
/-! ### what the law asks of a deed -/
def PH (dd : Dd) (spot x y : Nat) (r : Option Bool) : Prop := match dd with
  | .erase _ => (r = some true → y = FL) ∧ x ||| y = y ∧ y ≤ FL
  | .prog _ p w => (spot ≠ p → y = x) ∧ (spot = p → (r = some true → y = x &&& w) ∧ y ||| x = x ∧ y ||| (x &&& w) = y)
def Dd.b : Dd → Nat
  | .prog b _ _ => b
  | .erase b => b
def Dd.inc : Dd → Nat
  | .prog _ _ _ => 0
  | .erase _ => 1
/-- a deed on a chip whose power is on -/
theorem stp_holds {P : Nat} {im im' : List Bk} {os : List Oc} {n n' : Nat} {g' : Bool} {r : Option Bool} {dd : Dd} (h : dd.stp P im os n false r im' n' g') (hok : dd.ok im.length P) (hg : ∀ b ∈ im, GP P b.pg) :
    im'.length = im.length ∧ (∀ i, i ≠ dd.b → im'[i]? = im[i]?) ∧ ∃ k k' : Bk, im[dd.b]? = some k ∧ im'[dd.b]? = some k' ∧
      ((k.bad = true ∧ r = some false ∧ k' = k) ∨ (k.bad = false ∧ k'.bad = decide (r = some false) ∧ k'.er = k.er + dd.inc ∧ k'.pg.length = P ∧ k.pg.length = P ∧ ∀ spot x y, k.pg[spot]? = some x → k'.pg[spot]? = some y → PH dd spot x y r)) := by
  have kinds : ∀ dm, decide ((outc os n dm).1 = "fails") = decide (stepR (outc os n dm).1 = some false) ∧ (stepR (outc os n dm).1 = some true → (outc os n dm).2 = dm) := fun dm => by
    rcases outc_kinds os n dm with ⟨e, e2⟩ | e | e <;> rw [e] <;> unfold stepR
    · rw [if_neg str_dc, decide_eq_false str_df]
      exact ⟨by simp, fun _ => e2⟩
    · rw [if_pos rfl, decide_eq_false str_cf]
      exact ⟨by simp, fun z => nomatch z⟩
    · rw [if_neg str_fc, decide_eq_true rfl, decide_eq_false str_fd]
      exact ⟨by simp, fun z => by simp at z⟩
  cases dd with
  | prog b p w =>
    cases h with
    | gone h => cases h
    | @bad k hg0 hk hb => exact ⟨rfl, fun _ _ => rfl, k, k, hk, hk, .inl ⟨hb, rfl, rfl⟩⟩
    | @run k hg0 hk hb =>
      have hi : b < im.length := (List.getElem?_eq_some_iff.mp hk).1
      have gp := hg k (List.mem_of_getElem? hk)
      refine ⟨by rw [List.length_set], fun i hn => List.getElem?_set_ne (show b ≠ i from Ne.symm hn), k, ⟨decide ((outc os n 0).1 = "fails"), k.er, pgP p w k (outc os n 0).2⟩, hk, List.getElem?_set_self hi, .inr ⟨hb, (kinds 0).1, rfl, (gp_prog gp hok.2.1).1, gp.1, fun spot x y hx hy => ?_⟩⟩
      have hy' : (k.pg.set p (k.pg.getD p 0 &&& (w ||| (outc os n 0).2)))[spot]? = some y := hy
      refine ⟨fun hn => ?_, fun he => ?_⟩
      · rw [List.getElem?_set_ne (Ne.symm hn), hx] at hy'
        exact (Option.some.inj hy').symm
      · subst he
        rw [List.getElem?_set_self (by rw [gp.1]; exact hok.2.1), List.getD_eq_getElem?_getD, hx] at hy'
        have ey : x &&& (w ||| (outc os n 0).2) = y := Option.some.inj hy'
        have lw := left_word ey
        refine ⟨fun hr => ?_, by rw [Nat.or_comm]; exact lw.1, lw.2⟩
        rw [(kinds 0).2 hr, Nat.or_zero] at ey
        exact ey.symm
  | erase b =>
    cases h with
    | gone h => cases h
    | @bad k hg0 hk hb => exact ⟨rfl, fun _ _ => rfl, k, k, hk, hk, .inl ⟨hb, rfl, rfl⟩⟩
    | @run k hg0 hk hb =>
      have hi : b < im.length := (List.getElem?_eq_some_iff.mp hk).1
      have gp := hg k (List.mem_of_getElem? hk)
      refine ⟨by rw [List.length_set], fun i hn => List.getElem?_set_ne (show b ≠ i from Ne.symm hn), k, ⟨decide ((outc os n (2 ^ (522 * P) - 1)).1 = "fails"), k.er + 1, pgE k (outc os n (2 ^ (522 * P) - 1)).2⟩, hk, List.getElem?_set_self hi, .inr ⟨hb, (kinds _).1, rfl, (gp_erase gp).1, gp.1, fun spot x y hx hy => ?_⟩⟩
      have hs : spot < k.pg.length := (List.getElem?_eq_some_iff.mp hx).1
      have hy' : (pgE k (outc os n (2 ^ (522 * P) - 1)).2)[spot]? = some y := hy
      unfold pgE at hy'
      rw [List.getElem?_map, List.getElem?_range hs] at hy'
      have ey : x ||| ((outc os n (2 ^ (522 * P) - 1)).2 / 2 ^ (522 * spot) &&& FL) = y := by
        have e : k.pg.getD spot 0 ||| ((outc os n (2 ^ (522 * P) - 1)).2 / 2 ^ (522 * spot) &&& FL) = y := Option.some.inj hy'
        rw [List.getD_eq_getElem?_getD, hx] at e
        exact e
      have hx2 := gp.2 x (List.mem_of_getElem? hx)
      refine ⟨fun hr => ?_, left_erase ey, ?_⟩
      · rw [(kinds _).2 hr] at ey
        rw [← ey]
        apply bits_ext (n := 522) (lt_or (n := 522) hx2 (Nat.lt_of_le_of_lt Nat.and_le_right fl_lt)) fl_lt
        intro i hi
        rw [Nat.testBit_or, Nat.testBit_and, fl_bit hi, Bool.and_true, Nat.testBit_div_two_pow, Nat.testBit_two_pow_sub_one, decide_eq_true (by have := gp.1; omega), Bool.or_true]
      · have := lt_or (n := 522) hx2 (Nat.lt_of_le_of_lt (Nat.and_le_right (n := (outc os n (2 ^ (522 * P) - 1)).2 / 2 ^ (522 * spot)) (m := FL)) fl_lt)
        rw [ey] at this
        have := MX_pos
        have := MX_pow
        omega
/-- what is told, and whether the power is gone -/
theorem stp_gone {P : Nat} {im im' : List Bk} {os : List Oc} {n n' : Nat} {g g' : Bool} {r : Option Bool} {dd : Dd} (h : dd.stp P im os n g r im' n' g') : g' = (g || decide (r = none)) ∧ (g = true → r = none ∧ im' = im) ∧ n' ≤ n + 1 := by
  have key : ∀ {b dm erf pgf}, Stp im os n g b dm erf pgf r im' n' g' → g' = (g || decide (r = none)) ∧ (g = true → r = none ∧ im' = im) ∧ n' ≤ n + 1 := fun {b dm erf pgf} h => by
    cases h with
    | gone hz => exact ⟨by rw [hz]; rfl, fun _ => ⟨rfl, rfl⟩, by omega⟩
    | bad hg _ _ => rw [hg]; exact ⟨rfl, (by intro z; cases z), by omega⟩
    | run hg _ _ =>
      rw [hg]
      refine ⟨?_, (by intro z; cases z), by omega⟩
      unfold stepR
      by_cases z : (outc os n dm).1 = "cut"
      · rw [if_pos z, decide_eq_true z]; rfl
      · rw [if_neg z, decide_eq_false z]; rfl
  cases dd with
  | prog b p w => exact key h
  | erase b => exact key h
theorem blk_shw {P : Nat} {b : Bk} {m : Nat} (h : GP P b.pg) (hP : P ≤ 12) (he : b.er ≤ 1000) : shb b.d.toP = true ∧ nsz b.d.toP ≤ 400 ∧ b.d.toP.depth ≤ 2 := by
  have lf : ∀ x ∈ D.toPs (inD b.pg), Leaf x := fun x hx => by
    obtain ⟨d, hd, rfl⟩ := toPs_mem hx
    obtain ⟨n, hn, rfl⟩ := List.mem_map.mp hd
    exact leafN (Nat.lt_of_lt_of_le (h.2 n hn) (Nat.le_mul_of_pos_right _ (by decide)))
  have a := nszs_all (n := 20) fun x hx => (lf x hx).2.1
  have c := depth_all (n := 0) fun x hx => Nat.le_of_eq (lf x hx).2.2
  have s := shbs_all fun x hx => (lf x hx).1
  have hl : (inD b.pg).length = P := by unfold inD; rw [List.length_map, h.1]
  rw [toPs_len, hl] at a
  have le : Leaf (.int (b.er : Int)) := leaf_int (by rw [Int.natAbs_natCast]; exact Nat.lt_of_le_of_lt he (by decide +kernel))
  have le2 := le.2.1
  simp only [Bk.d, D.toP, D.toPs]
  refine ⟨?_, ?_, ?_⟩
  · simp only [shb, shbs, Bool.and_true]
    have := le.1
    simp only [shb] at this
    simp only [this, s, Bool.and_self, Bool.true_and]
  · simp only [nsz, nszs] at le2 ⊢
    omega
  · simp only [PyData.depth, PyData.depthAll]
    omega
theorem blk_Shw {P : Nat} {b : Bk} (h : GP P b.pg) (hP : P ≤ 12) (he : b.er ≤ 1000) : Shw b.d.toP := by
  obtain ⟨a, c, d⟩ := blk_shw (m := 0) h hP he
  exact ⟨a, by omega, by omega⟩
theorem img_Shw {P : Nat} {im : List Bk} {n : Nat} (h : GI P im n) : Shw (D.tup (im.map Bk.d)).toP := by
  have lf : ∀ x ∈ D.toPs (im.map Bk.d), shb x = true ∧ nsz x ≤ 400 ∧ x.depth ≤ 2 := fun x hx => by
    obtain ⟨d, hd, rfl⟩ := toPs_mem hx
    obtain ⟨b, hb, rfl⟩ := List.mem_map.mp hd
    have := h.2.2.2.2.2 b hb
    exact blk_shw (m := 0) this.1 h.2.2.2.1 (by have := this.2; have := h.2.2.2.2.1; omega)
  have a := nszs_all (n := 400) fun x hx => (lf x hx).2.1
  have c := depth_all (n := 2) fun x hx => (lf x hx).2.2
  rw [toPs_len, List.length_map] at a
  have := h.2.1
  refine ⟨by simp only [D.toP, shb]; exact shbs_all fun x hx => (lf x hx).1, ?_, ?_⟩
  · simp only [D.toP, nsz]; omega
  · simp only [D.toP, PyData.depth]; omega
theorem ChAt.sx {K : PySem.W.Frag} {C x l lk W : Addr} {H H' : Hp} {P : Nat} {im : List Bk} {os : List Oc} {n : Nat} {g : Bool} {tl : List V} (h : ChAt K C x l lk H P im os n g) (nl : l ≠ W) (w : Wl tl H W) (s : Sx W H H') : ChAt K C x l lk H' P im os n g := by
  obtain ⟨⟨dx, e⟩, ⟨bs, e2, t⟩, u, ok⟩ := h
  have nx : x ≠ W := fun z => by
    obtain ⟨a, b, c, eW⟩ := w
    rw [z, eW] at e
    cases e
  have k := TK.sx w s
  exact ⟨⟨dx, s _ _ nx e⟩, ⟨bs, s _ _ nl e2, t.tk k⟩, u.tk k, ok⟩
/-! ### deeds of k09 and k10 -/
inductive De where
  | prog (b p w : Nat)
  | erase (b : Nat)
  | read (b p : Nat)
  | many
  | seen
def De.d : De → D
  | .prog b p w => .tup [.str "program", .int (b : Int), .int (p : Int), .int (w : Int)]
  | .erase b => .tup [.str "erase", .int (b : Int)]
  | .read b p => .tup [.str "read", .int (b : Int), .int (p : Int)]
  | .many => .tup [.str "many"]
  | .seen => .tup [.str "seen"]
def De.ok (N P : Nat) : De → Prop
  | .prog b p w => b < N ∧ p < P ∧ w < MX
  | .erase b => b < N
  | .read b p => b < N ∧ p < P
  | .many => True
  | .seen => True
/-- what a deed tells, and the chip behind it -/
inductive De.run (P : Nat) (im : List Bk) (os : List Oc) (n : Nat) (g : Bool) : De → List D → List Bk → Nat → Bool → Prop
  | seen : De.run P im os n g .seen [.str "told", .tup (im.map Bk.d)] im n g
  | many : De.run P im os n g .many [.str "told", .int (n : Int), .bl g, .tup [.int (im.length : Int), .int (P : Int)]] im n g
  | rgone {b p : Nat} : g = true → De.run P im os n g (.read b p) [.str "cut"] im n g
  | read {b p w : Nat} {k : Bk} : g = false → im[b]? = some k → k.pg[p]? = some w → De.run P im os n g (.read b p) [.str "told", .int (w : Int)] im n g
  | prog {b p w : Nat} {r : Option Bool} {im' : List Bk} {n' : Nat} {g' : Bool} : Stp im os n g b 0 Bk.er (pgP p w) r im' n' g' → De.run P im os n g (.prog b p w) (match r with | none => [.str "cut"] | some t => [.str "told", .bl t]) im' n' g'
  | erase {b : Nat} {r : Option Bool} {im' : List Bk} {n' : Nat} {g' : Bool} : Stp im os n g b (2 ^ (522 * P) - 1) (fun k => k.er + 1) pgE r im' n' g' → De.run P im os n g (.erase b) (match r with | none => [.str "cut"] | some t => [.str "told", .bl t]) im' n' g'
/-- the law's own plain chip: its list at B, its rows' list at R, each row's list and its pages' list -/
structure PlAt (K : PySem.W.Frag) (B R lk : Addr) (rows : List (Addr × Addr)) (H : Hp) (im : List Bk) (os : List Oc) (n : Nat) (g : Bool) : Prop where
  b : H B = some (.lst [.ref R, .ref lk, vN (min n os.length), vN n, .bl g])
  r : H R = some (.lst (rows.map fun z => V.ref z.1))
  len : rows.length = im.length
  each : ∀ (i : Nat) (z : Addr × Addr) (k : Bk), rows[i]? = some z → im[i]? = some k → H z.1 = some (.lst [.bl k.bad, .int (k.er : Int), .ref z.2]) ∧ H z.2 = some (.lst (k.pg.map vN))
  lu : TD K H (.ref lk) (.tup (os.map Oc.d))
  nb : R ≠ B ∧ ∀ z ∈ rows, z.1 ≠ B ∧ z.2 ≠ B ∧ z.1 ≠ R ∧ z.2 ≠ R
  nd : ∀ (i j : Nat) (z w : Addr × Addr), i ≠ j → rows[i]? = some z → rows[j]? = some w → z.1 ≠ w.1 ∧ z.2 ≠ w.2
  nx : ∀ z ∈ rows, ∀ w ∈ rows, z.1 ≠ w.2
theorem PlAt.same {K : PySem.W.Frag} {B R lk : Addr} {rows : List (Addr × Addr)} {H H' : Hp} {im : List Bk} {os : List Oc} {n : Nat} {g : Bool} (h : PlAt K B R lk rows H im os n g) (s : Same H H') : PlAt K B R lk rows H' im os n g :=
  ⟨s _ _ h.b, s _ _ h.r, h.len, fun i z k hz hk => ⟨s _ _ (h.each i z k hz hk).1, s _ _ (h.each i z k hz hk).2⟩, h.lu.tk (TK.same s), h.nb, h.nd, h.nx⟩
structure RwAt (R : Addr) (rows : List (Addr × Addr)) (H0 H : Hp) (im : List Bk) : Prop where
  r : H R = some (.lst (rows.map fun z => V.ref z.1))
  len : rows.length = im.length
  each : ∀ (i : Nat) (z : Addr × Addr) (k : Bk), rows[i]? = some z → im[i]? = some k → H z.1 = some (.lst [.bl k.bad, .int (k.er : Int), .ref z.2]) ∧ H z.2 = some (.lst (k.pg.map vN))
  nb : ∀ z ∈ rows, z.1 ≠ R ∧ z.2 ≠ R
  nd : ∀ (i j : Nat) (z w : Addr × Addr), i ≠ j → rows[i]? = some z → rows[j]? = some w → z.1 ≠ w.1 ∧ z.2 ≠ w.2
  nx : ∀ z ∈ rows, ∀ w ∈ rows, z.1 ≠ w.2
  fr : ∀ z ∈ rows, H0 z.1 = none ∧ H0 z.2 = none
theorem RwAt.has {R : Addr} {rows : List (Addr × Addr)} {H0 H : Hp} {im : List Bk} (h : RwAt R rows H0 H im) {z : Addr × Addr} (hz : z ∈ rows) : H z.1 ≠ none ∧ H z.2 ≠ none := by
  obtain ⟨i, hi, rfl⟩ := List.mem_iff_getElem.mp hz
  have hk : im[i]? = some (im[i]'(by rw [← h.len]; exact hi)) := List.getElem?_eq_getElem _
  obtain ⟨a, b⟩ := h.each i _ _ (List.getElem?_eq_getElem hi) hk
  rw [a, b]
  exact And.intro (by intro z; cases z) (by intro z; cases z)
theorem RwAt.push {R t p : Addr} {rows : List (Addr × Addr)} {H0 H H3 : Hp} {im : List Bk} {k : Bk} (h : RwAt R rows H0 H im) (s0 : Same H0 H) (ht : H t = none) (hp : upd H t (.lst (k.pg.map vN)) p = none) (s : Same (upd H t (.lst (k.pg.map vN))) H3) (e : H3 p = some (.lst [.bl k.bad, .int (k.er : Int), .ref t])) :
    RwAt R (rows ++ [(p, t)]) H0 (upd H3 R (.lst ((rows.map fun z => V.ref z.1) ++ [.ref p]))) (im ++ [k]) := by
  have pt : p ≠ t := fun z => by rw [z, upd_same] at hp; cases hp
  have hp1 : H p = none := by rw [upd_ne pt] at hp; exact hp
  have Rt : t ≠ R := fun z => by rw [z, h.r] at ht; cases ht
  have Rp : p ≠ R := fun z => by rw [z, h.r] at hp1; cases hp1
  have f0 : ∀ {a : Addr}, H a = none → H0 a = none := fun {a} ha => by
    cases hz : H0 a with
    | none => rfl
    | some o => rw [s0 _ _ hz] at ha; cases ha
  have old : ∀ z ∈ rows, z.1 ≠ t ∧ z.2 ≠ t ∧ z.1 ≠ p ∧ z.2 ≠ p := fun z hz => by
    obtain ⟨a, b⟩ := h.has hz
    exact ⟨fun q => a (by rw [q]; exact ht), fun q => b (by rw [q]; exact ht), fun q => a (by rw [q]; exact hp1), fun q => b (by rw [q]; exact hp1)⟩
  have sN : Same H H3 := fun b o q => s _ _ (same_new ht b o q)
  have get : ∀ {i : Nat} {z : Addr × Addr}, (rows ++ [(p, t)])[i]? = some z → (rows[i]? = some z ∧ i < rows.length) ∨ (i = rows.length ∧ z = (p, t)) := fun {i z} q => by
    by_cases hi : i < rows.length
    · rw [List.getElem?_append_left hi] at q
      exact .inl ⟨q, hi⟩
    · rw [List.getElem?_append_right (by omega)] at q
      have : i - rows.length = 0 := by
        cases hq : i - rows.length with
        | zero => rfl
        | succ m => rw [hq] at q; simp at q
      rw [this] at q
      exact .inr ⟨by omega, (Option.some.inj q).symm⟩
  refine ⟨?_, ?_, ?_, ?_, ?_, ?_, ?_⟩
  · rw [upd_same, List.map_append]; rfl
  · rw [List.length_append, List.length_append, h.len]; rfl
  · intro i z c hz hc
    rcases get hz with ⟨hz, hi⟩ | ⟨hi, rfl⟩
    · have hn := h.nb z (List.mem_of_getElem? hz)
      rw [List.getElem?_append_left (by rw [← h.len]; exact hi)] at hc
      obtain ⟨a, b⟩ := h.each i z c hz hc
      rw [upd_ne hn.1, upd_ne hn.2]
      exact ⟨sN _ _ a, sN _ _ b⟩
    · rw [hi, h.len, List.getElem?_append_right (Nat.le_refl _), Nat.sub_self] at hc
      obtain rfl : k = c := Option.some.inj hc
      rw [upd_ne Rp, upd_ne Rt]
      exact ⟨e, s _ _ upd_same⟩
  · intro z hz
    rcases List.mem_append.mp hz with hz | hz
    · exact h.nb z hz
    · obtain rfl := List.mem_singleton.mp hz
      exact ⟨Rp, Rt⟩
  · intro i j z w hij hz hw
    rcases get hz with ⟨hz, hi⟩ | ⟨hi, rfl⟩
    · rcases get hw with ⟨hw, hj⟩ | ⟨hj, rfl⟩
      · exact h.nd i j z w hij hz hw
      · have := old z (List.mem_of_getElem? hz)
        exact ⟨this.2.2.1, this.2.1⟩
    · rcases get hw with ⟨hw, hj⟩ | ⟨hj, rfl⟩
      · have := old w (List.mem_of_getElem? hw)
        exact ⟨this.2.2.1.symm, this.2.1.symm⟩
      · omega
  · intro z hz w hw
    rcases List.mem_append.mp hz with hz | hz
    · rcases List.mem_append.mp hw with hw | hw
      · exact h.nx z hz w hw
      · obtain rfl := List.mem_singleton.mp hw
        exact (old z hz).1
    · obtain rfl := List.mem_singleton.mp hz
      rcases List.mem_append.mp hw with hw | hw
      · exact (old w hw).2.2.2.symm
      · obtain rfl := List.mem_singleton.mp hw
        exact pt
  · intro z hz
    rcases List.mem_append.mp hz with hz | hz
    · exact h.fr z hz
    · obtain rfl := List.mem_singleton.mp hz
      exact ⟨f0 hp1, f0 ht⟩
theorem Stp.det {im : List Bk} {os : List Oc} {n : Nat} {g : Bool} {b dm : Nat} {erf : Bk → Nat} {pgf : Bk → Nat → List Nat} {r r2 : Option Bool} {i1 i2 : List Bk} {n1 n2 : Nat} {g1 g2 : Bool} (h : Stp im os n g b dm erf pgf r i1 n1 g1) (h2 : Stp im os n g b dm erf pgf r2 i2 n2 g2) : r = r2 ∧ i1 = i2 ∧ n1 = n2 ∧ g1 = g2 := by
  cases h with
  | gone e =>
    cases h2 with
    | gone e2 => exact ⟨rfl, rfl, rfl, rfl⟩
    | bad e2 => rw [e] at e2; cases e2
    | run e2 => rw [e] at e2; cases e2
  | bad e hk hb =>
    cases h2 with
    | gone e2 => rw [e] at e2; cases e2
    | bad e2 => exact ⟨rfl, rfl, rfl, rfl⟩
    | run e2 hk2 hb2 => rw [hk] at hk2; obtain rfl := Option.some.inj hk2; rw [hb] at hb2; cases hb2
  | run e hk hb =>
    cases h2 with
    | gone e2 => rw [e] at e2; cases e2
    | bad e2 hk2 hb2 => rw [hk] at hk2; obtain rfl := Option.some.inj hk2; rw [hb] at hb2; cases hb2
    | run e2 hk2 hb2 => rw [hk] at hk2; obtain rfl := Option.some.inj hk2; exact ⟨rfl, rfl, rfl, rfl⟩
theorem De.run.det {P : Nat} {im : List Bk} {os : List Oc} {n : Nat} {g : Bool} {de : De} {d1 d2 : List D} {i1 i2 : List Bk} {n1 n2 : Nat} {g1 g2 : Bool} (h : De.run P im os n g de d1 i1 n1 g1) (h2 : De.run P im os n g de d2 i2 n2 g2) : d1 = d2 ∧ i1 = i2 ∧ n1 = n2 ∧ g1 = g2 := by
  cases h with
  | seen => cases h2; exact ⟨rfl, rfl, rfl, rfl⟩
  | many => cases h2; exact ⟨rfl, rfl, rfl, rfl⟩
  | rgone e =>
    cases h2 with
    | rgone e2 => exact ⟨rfl, rfl, rfl, rfl⟩
    | read e2 => rw [e] at e2; cases e2
  | read e hk hw =>
    cases h2 with
    | rgone e2 => rw [e] at e2; cases e2
    | read e2 hk2 hw2 =>
      rw [hk] at hk2
      obtain rfl := Option.some.inj hk2
      rw [hw] at hw2
      obtain rfl := Option.some.inj hw2
      exact ⟨rfl, rfl, rfl, rfl⟩
  | prog st =>
    cases h2 with
    | prog st2 =>
      obtain ⟨rfl, rfl, rfl, rfl⟩ := st.det st2
      exact ⟨rfl, rfl, rfl, rfl⟩
  | erase st =>
    cases h2 with
    | erase st2 =>
      obtain ⟨rfl, rfl, rfl, rfl⟩ := st.det st2
      exact ⟨rfl, rfl, rfl, rfl⟩
/-- the frame of the plain chip -/
def FrP (B : Addr) (rows : List (Addr × Addr)) (H H' : Hp) : Prop := ∀ b o, b ≠ B → (∀ z ∈ rows, b ≠ z.1 ∧ b ≠ z.2) → H b = some o → H' b = some o
theorem FrP.trans {B : Addr} {rows : List (Addr × Addr)} {H H1 H2 : Hp} (a : FrP B rows H H1) (b : FrP B rows H1 H2) : FrP B rows H H2 := fun c o n1 n2 e => b c o n1 n2 (a c o n1 n2 e)
theorem FrP.sx {B : Addr} {rows : List (Addr × Addr)} {H H' : Hp} (s : Sx B H H') : FrP B rows H H' := fun c o n1 _ e => s c o n1 e
theorem FrP.same {B : Addr} {rows : List (Addr × Addr)} {H H' : Hp} (s : Same H H') : FrP B rows H H' := fun c o _ _ e => s c o e
theorem FrP.at {B : Addr} {rows : List (Addr × Addr)} {H : Hp} {z : Addr × Addr} {o : HO} (hz : z ∈ rows) : FrP B rows H (upd H z.1 o) ∧ FrP B rows H (upd H z.2 o) :=
  ⟨fun c u _ n e => by rw [upd_ne (n z hz).1]; exact e, fun c u _ n e => by rw [upd_ne (n z hz).2]; exact e⟩
/-- a row set anew: its list, its pages' list -/
theorem PlAt.row {K : PySem.W.Frag} {B R lk : Addr} {rows : List (Addr × Addr)} {H : Hp} {im : List Bk} {os : List Oc} {n : Nat} {g : Bool} (h : PlAt K B R lk rows H im os n g) {i : Nat} {z : Addr × Addr} (hz : rows[i]? = some z) (bad : Bool) (er : Nat) {k : Bk} (hk : im[i]? = some k) :
    PlAt K B R lk rows (upd H z.1 (.lst [.bl bad, .int (er : Int), .ref z.2])) (im.set i ⟨bad, er, k.pg⟩) os n g := by
  have hm := List.mem_of_getElem? hz
  obtain ⟨e1, e2⟩ := h.each i z k hz hk
  obtain ⟨n1, n2, n3, n4⟩ := h.nb.2 z hm
  have hi : i < im.length := (List.getElem?_eq_some_iff.mp hk).1
  refine ⟨by rw [upd_ne n1.symm]; exact h.b, by rw [upd_ne n3.symm]; exact h.r, by rw [List.length_set]; exact h.len, fun j w c hw hc => ?_, h.lu.tk (TK.mutL e1), h.nb, h.nd, h.nx⟩
  by_cases hj : i = j
  · subst hj
    rw [hz] at hw
    obtain rfl := Option.some.inj hw
    rw [List.getElem?_set_self hi] at hc
    obtain rfl := Option.some.inj hc
    exact ⟨upd_same, by rw [upd_ne (h.nx z hm z hm).symm]; exact e2⟩
  · rw [List.getElem?_set_ne hj] at hc
    obtain ⟨a, b⟩ := h.each j w c hw hc
    rw [upd_ne (h.nd j i w z (Ne.symm hj) hw hz).1, upd_ne (h.nx z hm w (List.mem_of_getElem? hw)).symm]
    exact ⟨a, b⟩
theorem PlAt.pgs {K : PySem.W.Frag} {B R lk : Addr} {rows : List (Addr × Addr)} {H : Hp} {im : List Bk} {os : List Oc} {n : Nat} {g : Bool} (h : PlAt K B R lk rows H im os n g) {i : Nat} {z : Addr × Addr} (hz : rows[i]? = some z) (pg : List Nat) {k : Bk} (hk : im[i]? = some k) :
    PlAt K B R lk rows (upd H z.2 (.lst (pg.map vN))) (im.set i ⟨k.bad, k.er, pg⟩) os n g := by
  have hm := List.mem_of_getElem? hz
  obtain ⟨e1, e2⟩ := h.each i z k hz hk
  obtain ⟨n1, n2, n3, n4⟩ := h.nb.2 z hm
  have hi : i < im.length := (List.getElem?_eq_some_iff.mp hk).1
  refine ⟨by rw [upd_ne n2.symm]; exact h.b, by rw [upd_ne n4.symm]; exact h.r, by rw [List.length_set]; exact h.len, fun j w c hw hc => ?_, h.lu.tk (TK.mutL e2), h.nb, h.nd, h.nx⟩
  by_cases hj : i = j
  · subst hj
    rw [hz] at hw
    obtain rfl := Option.some.inj hw
    rw [List.getElem?_set_self hi] at hc
    obtain rfl := Option.some.inj hc
    exact ⟨by rw [upd_ne (h.nx z hm z hm)]; exact e1, upd_same⟩
  · rw [List.getElem?_set_ne hj] at hc
    obtain ⟨a, b⟩ := h.each j w c hw hc
    rw [upd_ne (h.nx w (List.mem_of_getElem? hw) z hm), upd_ne (h.nd j i w z (Ne.symm hj) hw hz).2]
    exact ⟨a, b⟩
/-- its own list set anew -/
theorem PlAt.own {K : PySem.W.Frag} {B R lk : Addr} {rows : List (Addr × Addr)} {H H' : Hp} {im : List Bk} {os : List Oc} {n n' : Nat} {g g' : Bool} (h : PlAt K B R lk rows H im os n g) (s : Sx B H H') (e : H' B = some (.lst [.ref R, .ref lk, vN (min n' os.length), vN n', .bl g'])) : PlAt K B R lk rows H' im os n' g' := by
  have k : TK H H' := fun c xs => ⟨fun e => s _ _ (fun z => by rw [z, h.b] at e; cases e) e, fun o e => s _ _ (fun z => by rw [z, h.b] at e; cases e) e⟩
  refine ⟨e, s _ _ h.nb.1 h.r, h.len, fun i z k hz hk => ?_, h.lu.tk k, h.nb, h.nd, h.nx⟩
  obtain ⟨a, b⟩ := h.each i z k hz hk
  obtain ⟨n1, n2, _⟩ := h.nb.2 z (List.mem_of_getElem? hz)
  exact ⟨s _ _ n1 a, s _ _ n2 b⟩
theorem ixN_n9 {n j : Nat} (hj : j < n) : ixN n (j : Int) = some j := by
  unfold ixN
  rw [if_pos (Int.natCast_nonneg _), if_pos (by omega), Int.toNat_natCast]
theorem outc_two (os : List Oc) (n d : Nat) : (outc os n d).1 = (outc os n 0).1 ∧ (outc os n d).2 = if (outc os n 0).1 = "done" then d else (outc os n 0).2 := by
  unfold outc
  split
  · exact ⟨rfl, by rw [if_neg str_cd]⟩
  · exact ⟨rfl, by rw [if_neg str_fd]⟩
  · exact ⟨rfl, by rw [if_pos rfl]⟩
/-- the pages' list amid an erase -/
def eL (k : Bk) (mk i : Nat) : List Nat := ((List.range i).map fun j => k.pg.getD j 0 ||| ((mk / 2 ^ (522 * j)) &&& FL)) ++ k.pg.drop i
theorem eL_zero (k : Bk) (mk : Nat) : eL k mk 0 = k.pg := rfl
theorem eL_len {k : Bk} {mk i : Nat} (h : i ≤ k.pg.length) : (eL k mk i).length = k.pg.length := by
  unfold eL
  rw [List.length_append, List.length_map, List.length_range, List.length_drop]
  omega
theorem eL_end (k : Bk) (mk : Nat) : eL k mk k.pg.length = pgE k mk := by
  unfold eL pgE
  rw [List.drop_length, List.append_nil]
theorem eL_at {k : Bk} {mk i : Nat} (h : i < k.pg.length) : (eL k mk i)[i]? = some (k.pg.getD i 0) := by
  unfold eL
  rw [List.getElem?_append_right (by rw [List.length_map, List.length_range]; omega), List.length_map, List.length_range, Nat.sub_self, List.getElem?_drop, Nat.add_zero, List.getD_eq_getElem?_getD, List.getElem?_eq_getElem h]
  rfl
theorem eL_set {k : Bk} {mk i : Nat} (h : i < k.pg.length) : (eL k mk i).set i (k.pg.getD i 0 ||| ((mk / 2 ^ (522 * i)) &&& FL)) = eL k mk (i + 1) := by
  unfold eL
  rw [List.set_append_right _ _ (by rw [List.length_map, List.length_range]; exact Nat.le_refl _), List.length_map, List.length_range, Nat.sub_self, List.drop_eq_getElem_cons h, List.set_cons_zero, List.range_succ, List.map_append, List.append_assoc]
  rfl
theorem er_full {o P i : Nat} (ho : o < MX) (hi : i < P) : o ||| (((2 ^ (522 * P) - 1) / 2 ^ (522 * i)) &&& FL) = FL := by
  apply bits_ext (n := 522) (lt_or (n := 522) ho (Nat.lt_of_le_of_lt Nat.and_le_right fl_lt)) fl_lt
  intro j hj
  rw [Nat.testBit_or, Nat.testBit_and, fl_bit hj, Bool.and_true, Nat.testBit_div_two_pow, Nat.testBit_two_pow_sub_one, decide_eq_true (by have : 522 * (i + 1) ≤ 522 * P := Nat.mul_le_mul_left _ hi; omega), Bool.or_true]
theorem er_some {o m : Nat} (ho : o < MX) : (o ||| m) &&& FL = o ||| (m &&& FL) := by
  rw [Nat.and_or_distrib_right, and_fl ho]
theorem shw_l {ds : List PyData} (s : ∀ x ∈ ds, shb x = true ∧ x.depth ≤ 3) (n : nszs ds ≤ 7000) : Shw (.list ds) :=
  ⟨by simpa only [shb] using shbs_all fun x hx => (s x hx).1, by simp only [nsz]; omega, by have := depth_all (n := 3) fun x hx => (s x hx).2; simp only [PyData.depth]; omega⟩
theorem img_wd {P : Nat} {im : List Bk} {n : Nat} (h : GI P im n) : shb (D.tup (im.map Bk.d)).toP = true ∧ nsz (D.tup (im.map Bk.d)).toP ≤ 4900 ∧ (D.tup (im.map Bk.d)).toP.depth ≤ 3 := by
  have lf : ∀ x ∈ D.toPs (im.map Bk.d), shb x = true ∧ nsz x ≤ 400 ∧ x.depth ≤ 2 := fun x hx => by
    obtain ⟨d, hd, rfl⟩ := toPs_mem hx
    obtain ⟨b, hb, rfl⟩ := List.mem_map.mp hd
    have := h.2.2.2.2.2 b hb
    exact blk_shw (m := 0) this.1 h.2.2.2.1 (by have := this.2; have := h.2.2.2.2.1; omega)
  have a := nszs_all (n := 400) fun x hx => (lf x hx).2.1
  have c := depth_all (n := 2) fun x hx => (lf x hx).2.2
  rw [toPs_len, List.length_map] at a
  have := h.2.1
  refine ⟨by simp only [D.toP, shb]; exact shbs_all fun x hx => (lf x hx).1, ?_, ?_⟩
  · simp only [D.toP, nsz]; omega
  · simp only [D.toP, PyData.depth]; omega
theorem str_wd (s : PySem.Str) (h : shb (.str s) = true) (l : s.length ≤ 20) : shb (D.str s).toP = true ∧ nsz (D.str s).toP ≤ 21 ∧ (D.str s).toP.depth ≤ 3 :=
  ⟨h, by simp only [D.toP, nsz]; omega, by simp only [D.toP, PyData.depth]; omega⟩
theorem lf_wd {d : D} (h : Leaf d.toP) : shb d.toP = true ∧ nsz d.toP ≤ 21 ∧ d.toP.depth ≤ 3 := ⟨h.1, by have := h.2.1; omega, by rw [h.2.2]; omega⟩
theorem toldS : shb (D.str "told").toP = true ∧ nsz (D.str "told").toP ≤ 21 ∧ (D.str "told").toP.depth ≤ 3 := str_wd _ (by decide +kernel) (by decide +kernel)
theorem cutS : shb (D.str "cut").toP = true ∧ nsz (D.str "cut").toP ≤ 21 ∧ (D.str "cut").toP.depth ≤ 3 := str_wd _ (by decide +kernel) (by decide +kernel)
theorem nat_wd {n : Nat} (h : n < MX) : shb (D.int (n : Int)).toP = true ∧ nsz (D.int (n : Int)).toP ≤ 21 ∧ (D.int (n : Int)).toP.depth ≤ 3 := lf_wd (leafN (Nat.lt_of_lt_of_le h (Nat.le_mul_of_pos_right _ (by decide))))
theorem bl_wd (b : Bool) : shb (D.bl b).toP = true ∧ nsz (D.bl b).toP ≤ 21 ∧ (D.bl b).toP.depth ≤ 3 := lf_wd (leaf_bool b)
theorem sml_MX {n : Nat} (h : n ≤ 1000) : n < MX := Nat.lt_of_le_of_lt h (by decide +kernel)
theorem told_shw {P : Nat} {im : List Bk} {os : List Oc} {n : Nat} {g : Bool} {de : De} {ds : List D} {im' : List Bk} {n' : Nat} {g' : Bool} (gi : GI P im n) (st : de.run P im os n g ds im' n' g') : Shw (.list (D.toPs ds)) := by
  have iw := img_wd gi
  have one : ∀ {a : D}, (shb a.toP = true ∧ nsz a.toP ≤ 21 ∧ a.toP.depth ≤ 3) → Shw (.list (D.toPs [a])) := fun {a} h => by
    refine shw_l (fun x hx => ?_) ?_
    · simp only [D.toPs, List.mem_cons, List.not_mem_nil, or_false] at hx
      subst hx
      exact ⟨h.1, h.2.2⟩
    · simp only [D.toPs, nszs]; omega
  have two : ∀ {a b : D}, (shb a.toP = true ∧ nsz a.toP ≤ 21 ∧ a.toP.depth ≤ 3) → (shb b.toP = true ∧ nsz b.toP ≤ 4900 ∧ b.toP.depth ≤ 3) → Shw (.list (D.toPs [a, b])) := fun {a b} h h2 => by
    refine shw_l (fun x hx => ?_) ?_
    · simp only [D.toPs, List.mem_cons, List.not_mem_nil, or_false] at hx
      rcases hx with rfl | rfl
      · exact ⟨h.1, h.2.2⟩
      · exact ⟨h2.1, h2.2.2⟩
    · simp only [D.toPs, nszs]; omega
  have up : ∀ {b : D}, (shb b.toP = true ∧ nsz b.toP ≤ 21 ∧ b.toP.depth ≤ 3) → (shb b.toP = true ∧ nsz b.toP ≤ 4900 ∧ b.toP.depth ≤ 3) := fun h => ⟨h.1, by have := h.2.1; omega, h.2.2⟩
  have opt : ∀ r : Option Bool, Shw (.list (D.toPs (match r with | none => [.str "cut"] | some t => [.str "told", .bl t]))) := fun r => by
    cases r with
    | none => exact one cutS
    | some t => exact two toldS (up (bl_wd t))
  cases st with
  | seen => exact two toldS iw
  | many =>
    have n1 := nat_wd (sml_MX (show n ≤ 1000 by have := gi.2.2.2.2.1; omega))
    have n2 := nat_wd (sml_MX (show im.length ≤ 1000 by have := gi.2.1; omega))
    have n3 := nat_wd (sml_MX (show P ≤ 1000 by have := gi.2.2.2.1; omega))
    have b1 := bl_wd g
    have t1 := toldS
    refine shw_l (fun x hx => ?_) ?_
    · simp only [D.toPs, List.mem_cons, List.not_mem_nil, or_false] at hx
      rcases hx with rfl | rfl | rfl | rfl
      · exact ⟨t1.1, t1.2.2⟩
      · exact ⟨n1.1, n1.2.2⟩
      · exact ⟨b1.1, b1.2.2⟩
      · refine ⟨?_, ?_⟩
        · simp only [D.toP, D.toPs, shb, shbs, Bool.and_true]
          have a := n2.1
          have b := n3.1
          simp only [D.toP, shb] at a b
          rw [a, b]; rfl
        · simp only [D.toP, D.toPs, PyData.depth, PyData.depthAll]
          omega
    · have a := n1.2.1
      have c := b1.2.1
      have d := t1.2.1
      simp only [D.toP, D.toPs, nszs, nsz] at a c d ⊢
      omega
  | rgone => exact one cutS
  | @read b p w k hg hk hw => exact two toldS (up (nat_wd ((gi.2.2.2.2.2 k (List.mem_of_getElem? hk)).1.2 w (List.mem_of_getElem? hw))))
  | prog st => exact opt _
  | erase st => exact opt _
theorem end_shw {P : Nat} {im : List Bk} {n : Nat} (gi : GI P im n) : Shw (.list (D.toPs [.tup (im.map Bk.d), .int 0, .bl false])) := by
  have iw := img_wd gi
  have n1 := nat_wd (sml_MX (show 0 ≤ 1000 by decide))
  have b1 := bl_wd false
  refine shw_l (fun x hx => ?_) ?_
  · simp only [D.toPs, List.mem_cons, List.not_mem_nil, or_false] at hx
    rcases hx with rfl | rfl | rfl
    · exact ⟨iw.1, iw.2.2⟩
    · exact ⟨n1.1, n1.2.2⟩
    · exact ⟨b1.1, b1.2.2⟩
  · have b : nsz (D.int 0).toP ≤ 21 := n1.2.1
    have c := b1.2.1
    have d := iw.2.1
    simp only [D.toPs, nszs]
    omega
theorem FrP.tk {K : PySem.W.Frag} {B R lk : Addr} {rows : List (Addr × Addr)} {H H' : Hp} {im : List Bk} {os : List Oc} {n : Nat} {g : Bool} (h : PlAt K B R lk rows H im os n g) (f : FrP B rows H H') : TK H H' := fun c xs => by
  have key : ∀ {o : HO}, H c = some o → (∀ ys, o ≠ .lst ys) → H' c = some o := fun {o} e t => by
    refine f c o (fun z => by rw [z, h.b] at e; exact t _ (Option.some.inj e).symm) (fun z hz => ?_) e
    obtain ⟨i, hi, rfl⟩ := List.mem_iff_getElem.mp hz
    obtain ⟨a, b⟩ := h.each i _ _ (List.getElem?_eq_getElem hi) (List.getElem?_eq_getElem (by rw [← h.len]; exact hi))
    exact ⟨fun z => by rw [z, a] at e; exact t _ (Option.some.inj e).symm, fun z => by rw [z, b] at e; exact t _ (Option.some.inj e).symm⟩
  exact ⟨fun e => key e fun _ z => (by cases z), fun o e => key e fun _ z => (by cases z)⟩
theorem Tb.frP {K : PySem.W.Frag} {cs : Cds} {B R lk : Addr} {rows : List (Addr × Addr)} {H H' : Hp} {im : List Bk} {os : List Oc} {n : Nat} {g : Bool} (tb : Tb cs H) (h : PlAt K B R lk rows H im os n g) (f : FrP B rows H H') : Tb cs H' := fun q hq => by
  have key : ∀ {c : Addr} {o : HO}, H c = some o → (∀ ys, o ≠ .lst ys) → H' c = some o := fun {c o} e t => by
    refine f c o (fun z => by rw [z, h.b] at e; exact t _ (Option.some.inj e).symm) (fun z hz => ?_) e
    obtain ⟨i, hi, rfl⟩ := List.mem_iff_getElem.mp hz
    obtain ⟨a, b⟩ := h.each i _ _ (List.getElem?_eq_getElem hi) (List.getElem?_eq_getElem (by rw [← h.len]; exact hi))
    exact ⟨fun z => by rw [z, a] at e; exact t _ (Option.some.inj e).symm, fun z => by rw [z, b] at e; exact t _ (Option.some.inj e).symm⟩
  obtain ⟨ps, e1, e2, e3⟩ := tb q hq
  refine ⟨ps, key e1 (fun _ z => nomatch z), e2, fun pos cv hc => ?_⟩
  obtain ⟨c, g1, g2⟩ := e3 pos cv hc
  exact ⟨c, g1, key g2 fun _ z => by unfold LamX.CodeO at z; cases z⟩
/-- the chip and the plain one lie apart -/
def Apart (x l W B R : Addr) (rows : List (Addr × Addr)) : Prop := ∀ a, (a = x ∨ a = l ∨ a = W) → a ≠ B ∧ a ≠ R ∧ ∀ z ∈ rows, a ≠ z.1 ∧ a ≠ z.2
theorem PlAt.far {K : PySem.W.Frag} {B R lk : Addr} {rows : List (Addr × Addr)} {H H' : Hp} {im : List Bk} {os : List Oc} {n : Nat} {g : Bool} (h : PlAt K B R lk rows H im os n g) (k : TK H H') (f : ∀ b o, (b = B ∨ b = R ∨ ∃ z ∈ rows, b = z.1 ∨ b = z.2) → H b = some o → H' b = some o) : PlAt K B R lk rows H' im os n g :=
  ⟨f _ _ (.inl rfl) h.b, f _ _ (.inr (.inl rfl)) h.r, h.len, fun i z c hz hc => ⟨f _ _ (.inr (.inr ⟨z, List.mem_of_getElem? hz, .inl rfl⟩)) (h.each i z c hz hc).1, f _ _ (.inr (.inr ⟨z, List.mem_of_getElem? hz, .inr rfl⟩)) (h.each i z c hz hc).2⟩, h.lu.tk k, h.nb, h.nd, h.nx⟩
theorem Apart.pl {x l W B R : Addr} {rows : List (Addr × Addr)} (ap : Apart x l W B R rows) {b : Addr} (h : b = B ∨ b = R ∨ ∃ z ∈ rows, b = z.1 ∨ b = z.2) : b ≠ x ∧ b ≠ l ∧ b ≠ W := by
  refine ⟨fun e => ?_, fun e => ?_, fun e => ?_⟩ <;> subst e
  · obtain ⟨a, b, c⟩ := ap b (.inl rfl)
    rcases h with h | h | ⟨z, hz, h | h⟩
    · exact a h
    · exact b h
    · exact (c z hz).1 h
    · exact (c z hz).2 h
  · obtain ⟨a, b, c⟩ := ap b (.inr (.inl rfl))
    rcases h with h | h | ⟨z, hz, h | h⟩
    · exact a h
    · exact b h
    · exact (c z hz).1 h
    · exact (c z hz).2 h
  · obtain ⟨a, b, c⟩ := ap b (.inr (.inr rfl))
    rcases h with h | h | ⟨z, hz, h | h⟩
    · exact a h
    · exact b h
    · exact (c z hz).1 h
    · exact (c z hz).2 h
theorem ChAt.frP {K : PySem.W.Frag} {C x l lk W B R lk2 : Addr} {rows : List (Addr × Addr)} {H H' : Hp} {P : Nat} {im im2 : List Bk} {os os2 : List Oc} {n n2 : Nat} {g g2 : Bool} (h : ChAt K C x l lk H P im os n g) (p : PlAt K B R lk2 rows H im2 os2 n2 g2) (ap : Apart x l W B R rows) (f : FrP B rows H H') : ChAt K C x l lk H' P im os n g := by
  obtain ⟨⟨dx, e⟩, ⟨bs, e2, t⟩, u, ok⟩ := h
  have k := FrP.tk p f
  obtain ⟨a1, _, a2⟩ := ap x (.inl rfl)
  obtain ⟨b1, _, b2⟩ := ap l (.inr (.inl rfl))
  exact ⟨⟨dx, f _ _ a1 a2 e⟩, ⟨bs, f _ _ b1 b2 e2, t.tk k⟩, u.tk k, ok⟩
theorem Stp.step {im : List Bk} {os : List Oc} {n : Nat} {g : Bool} {b dm : Nat} {erf : Bk → Nat} {pgf : Bk → Nat → List Nat} {r : Option Bool} {i1 : List Bk} {n1 : Nat} {g1 : Bool} (h : Stp im os n g b dm erf pgf r i1 n1 g1) : n1 ≤ n + 1 ∧ i1.length = im.length := by
  cases h with
  | gone => exact ⟨Nat.le_succ _, rfl⟩
  | bad => exact ⟨Nat.le_succ _, rfl⟩
  | run => exact ⟨Nat.le_refl _, by rw [List.length_set]⟩
theorem De.run.step {P : Nat} {im : List Bk} {os : List Oc} {n : Nat} {g : Bool} {de : De} {ds : List D} {im' : List Bk} {n' : Nat} {g' : Bool} (st : de.run P im os n g ds im' n' g') : n' ≤ n + 1 ∧ im'.length = im.length := by
  cases st with
  | seen => exact ⟨Nat.le_succ _, rfl⟩
  | many => exact ⟨Nat.le_succ _, rfl⟩
  | rgone => exact ⟨Nat.le_succ _, rfl⟩
  | read => exact ⟨Nat.le_succ _, rfl⟩
  | prog st => exact st.step
  | erase st => exact st.step
theorem De.run.asks {P : Nat} {im : List Bk} {os : List Oc} {n : Nat} {g : Bool} {de : De} {ds : List D} {im' : List Bk} {n' : Nat} {g' : Bool} (st : de.run P im os n g ds im' n' g') (h : de = .seen ∨ de = .many) : im' = im ∧ n' = n ∧ g' = g := by
  rcases h with rfl | rfl <;> cases st <;> exact ⟨rfl, rfl, rfl⟩
structure S9 (K : PySem.W.Frag) (cs : Cds) (C x l lk W B R fp : Addr) (rows : List (Addr × Addr)) (P : Nat) (im0 : List Bk) (os : List Oc) (H0 H : Hp) (im : List Bk) (n : Nat) (g : Bool) (im2 : List Bk) (n2 : Nat) (g2 : Bool) : Prop where
  ch : ChAt K C x l lk H P im os n g
  pl : PlAt K B R lk rows H im2 os n2 g2
  w : Wl [.int 3] H W
  sy : Sy cs W H0 H
  tf : TD K H (.ref fp) (.tup (im0.map Bk.d))
section
variable {K : PySem.W.Frag} {cs : Cds} {C x l lk W B R fp : Addr} {rows : List (Addr × Addr)} {P : Nat} {im0 : List Bk} {os : List Oc} {H0 H H' : Hp} {im : List Bk} {n : Nat} {g : Bool} {im2 : List Bk} {n2 : Nat} {g2 : Bool} {im' : List Bk} {n' : Nat} {g' : Bool}
def Far (x l W B : Addr) (rows : List (Addr × Addr)) (H0 : Hp) : Prop := ∀ b o, b ≠ W → H0 b = some o → (∀ ps, o ≠ .tbl ps) → (b ≠ x ∧ b ≠ l) ∧ b ≠ B ∧ ∀ z ∈ rows, b ≠ z.1 ∧ b ≠ z.2
theorem S9.same (h : S9 K cs C x l lk W B R fp rows P im0 os H0 H im n g im2 n2 g2) (s : Same H H') : S9 K cs C x l lk W B R fp rows P im0 os H0 H' im n g im2 n2 g2 :=
  ⟨h.ch.same s, h.pl.same s, h.w.of s, h.sy.trans (Sy.ex (Ex.of s)), h.tf.tk (TK.same s)⟩
theorem S9.sx (h : S9 K cs C x l lk W B R fp rows P im0 os H0 H im n g im2 n2 g2) (ap : Apart x l W B R rows) (nl : l ≠ W) (s : Sx W H H') (w : Wl [.int 3] H' W) : S9 K cs C x l lk W B R fp rows P im0 os H0 H' im n g im2 n2 g2 :=
  ⟨h.ch.sx nl h.w s, h.pl.far (TK.sx h.w s) (fun b o hb e => s _ _ (ap.pl hb).2.2 e), w, h.sy.trans (Sy.sx h.w s), h.tf.tk (TK.sx h.w s)⟩
theorem S9.told (h : S9 K cs C x l lk W B R fp rows P im0 os H0 H im n g im2 n2 g2) (ap : Apart x l W B R rows) (nx : x ≠ W) (nl : l ≠ W) (far : Far x l W B rows H0) (fr : Fr2 x l H H') (ch' : ChAt K C x l lk H' P im' os n' g') : S9 K cs C x l lk W B R fp rows P im0 os H0 H' im' n' g' im2 n2 g2 := by
  obtain ⟨dx, ex⟩ := h.ch.ob
  obtain ⟨bs, eb, _⟩ := h.ch.bl
  refine ⟨ch', h.pl.far (tk_fr2 h.ch fr) (fun b o hb e => fr b o (ap.pl hb).1 (ap.pl hb).2.1 e), ?_, ⟨fun b o nW e t => fr b o (far b o nW e t).1.1 (far b o nW e t).1.2 (h.sy.1 b o nW e t), fun tb => (h.sy.2 tb).fr2 ex eb fr⟩, h.tf.tk (tk_fr2 h.ch fr)⟩
  obtain ⟨a, b, c, e⟩ := h.w
  exact ⟨a, b, c, fr _ _ nx.symm nl.symm e⟩
theorem S9.due (h : S9 K cs C x l lk W B R fp rows P im0 os H0 H im n g im2 n2 g2) (ap : Apart x l W B R rows) (far : Far x l W B rows H0) (fr : FrP B rows H H') (pl' : PlAt K B R lk rows H' im' os n' g') : S9 K cs C x l lk W B R fp rows P im0 os H0 H' im n g im' n' g' := by
  refine ⟨h.ch.frP h.pl ap fr, pl', ?_, ⟨fun b o nW e t => fr b o (far b o nW e t).2.1 (far b o nW e t).2.2 (h.sy.1 b o nW e t), fun tb => Tb.frP (h.sy.2 tb) h.pl fr⟩, h.tf.tk (FrP.tk h.pl fr)⟩
  obtain ⟨a, b, c, e⟩ := h.w
  obtain ⟨n1, _, n3⟩ := ap W (.inr (.inr rfl))
  exact ⟨a, b, c, fr _ _ n1 n3 e⟩
end
/-! ### k10: what is no index, no page; what is raised -/
def NotInt (v : V) : Prop := v = .non ∨ (∃ b, v = .bl b) ∨ ∃ s, v = .str s
def Out (v : V) (j k : Int) : Prop := (∃ i : Int, v = .int i ∧ ¬ (j ≤ i ∧ i ≤ k)) ∨ NotInt v
def Rz (C : Addr) (E : XK) (H : Hp) (v : V) : Prop := ∀ d H2, H d = none → Same H H2 → H2 d = some (.xd [("given", v)]) → E (.ref C) (some d) H2
/-- wrong deeds -/
inductive Wd where
  | er (v : V)
  | rd (j : Int)
  | pr (v : V) (w : Int)
  | pw (w : Int)
def Wd.vs : Wd → List V
  | .er v => [.str "erase", v]
  | .rd j => [.str "read", .int 0, .int j]
  | .pr v w => [.str "program", .int 0, v, .int w]
  | .pw w => [.str "program", .int 0, .int 0, .int w]
def Wd.v : Wd → V
  | .er v => v
  | .rd j => .int j
  | .pr v _ => v
  | .pw w => .int w
def Wd.ok (N P : Nat) : Wd → Prop
  | .er v => Out v 0 ((N : Int) - 1)
  | .rd j => Out (.int j) 0 ((P : Int) - 1)
  | .pr v _ => Out v 0 ((P : Int) - 1)
  | .pw w => (MX : Int) ≤ w
def Wd.isP : Wd → Bool
  | .pw _ => true
  | _ => false
def Wd.word (w : Wd) : PySem.Str := if w.isP then "page" else "number"
theorem er_run {P : Nat} {im : List Bk} {os : List Oc} {n : Nat} {g : Bool} {de : De} {ds : List D} {im' : List Bk} {n' : Nat} {g' : Bool} {M : Nat} (st : de.run P im os n g ds im' n' g') (h : ∀ b ∈ im, b.er ≤ M) : ∀ b ∈ im', b.er ≤ M + 1 := by
  have stp : ∀ {b dm : Nat} {erf : Bk → Nat} {pgf : Bk → Nat → List Nat} {r : Option Bool}, (∀ k, erf k ≤ k.er + 1) → Stp im os n g b dm erf pgf r im' n' g' → ∀ c ∈ im', c.er ≤ M + 1 := fun {b dm erf pgf r} he s => by
    cases s with
    | gone => exact fun c hc => Nat.le_succ_of_le (h c hc)
    | bad => exact fun c hc => Nat.le_succ_of_le (h c hc)
    | @run k e hk hb =>
      intro c hc
      rcases List.mem_or_eq_of_mem_set hc with z | z
      · exact Nat.le_succ_of_le (h c z)
      · rw [z]
        have := h k (List.mem_of_getElem? hk)
        have := he k
        show erf k ≤ M + 1
        omega
  cases st with
  | seen => exact fun c hc => Nat.le_succ_of_le (h c hc)
  | many => exact fun c hc => Nat.le_succ_of_le (h c hc)
  | rgone => exact fun c hc => Nat.le_succ_of_le (h c hc)
  | read => exact fun c hc => Nat.le_succ_of_le (h c hc)
  | prog s => exact stp (fun k => Nat.le_succ _) s
  | erase s => exact stp (fun k => Nat.le_refl _) s
theorem FrP.fresh {K : PySem.W.Frag} {B R lk : Addr} {rows : List (Addr × Addr)} {H HA : Hp} {im : List Bk} {os : List Oc} {n : Nat} {g : Bool} {r : Addr} (f : FrP B rows H HA) (p : PlAt K B R lk rows HA im os n g) (hr : HA r = none) : H r = none := by
  cases z : H r with
  | none => rfl
  | some o =>
    have e := f r o (fun z => by rw [z, p.b] at hr; cases hr) (fun w hw => by
      obtain ⟨i, hi, rfl⟩ := List.mem_iff_getElem.mp hw
      obtain ⟨a, b⟩ := p.each i _ _ (List.getElem?_eq_getElem hi) (List.getElem?_eq_getElem (by rw [← p.len]; exact hi))
      exact ⟨fun z => (by rw [z, a] at hr; cases hr), fun z => (by rw [z, b] at hr; cases hr)⟩) z
    rw [e] at hr
    cases hr

theorem ChAt.keep {K : PySem.W.Frag} {C x l lk : Addr} {H H' : Hp} {P : Nat} {im : List Bk} {os : List Oc} {n : Nat} {g : Bool} (h : ChAt K C x l lk H P im os n g) (k : TK H H') (f : ∀ b o, (b = x ∨ b = l) → H b = some o → H' b = some o) : ChAt K C x l lk H' P im os n g := by
  obtain ⟨⟨dx, e⟩, ⟨bs, e2, t⟩, u, ok⟩ := h
  exact ⟨⟨dx, f _ _ (.inl rfl) e⟩, ⟨bs, f _ _ (.inr rfl) e2, t.tk k⟩, u.tk k, ok⟩
def Sep (x2 l2 x l W B R : Addr) (rows : List (Addr × Addr)) : Prop := ∀ b, (b = x2 ∨ b = l2) → (b ≠ x ∧ b ≠ l ∧ b ≠ W) ∧ b ≠ B ∧ b ≠ R ∧ ∀ z ∈ rows, b ≠ z.1 ∧ b ≠ z.2
structure S10 (K : PySem.W.Frag) (cs : Cds) (C x l lk W B R fp x2 l2 lk2 : Addr) (rows : List (Addr × Addr)) (P : Nat) (im0 : List Bk) (os : List Oc) (H0 H : Hp) (im : List Bk) (n : Nat) (g : Bool) (im2 : List Bk) (n2 : Nat) (g2 : Bool) : Prop where
  s : S9 K cs C x l lk W B R fp rows P im0 os H0 H im n g im2 n2 g2
  tw : ChAt K C x2 l2 lk2 H P im0 [] 0 false
section
variable {K : PySem.W.Frag} {cs : Cds} {C x l lk W B R fp x2 l2 lk2 : Addr} {rows : List (Addr × Addr)} {P : Nat} {im0 : List Bk} {os : List Oc} {H0 H H' : Hp} {im : List Bk} {n : Nat} {g : Bool} {im2 : List Bk} {n2 : Nat} {g2 : Bool} {im' : List Bk} {n' : Nat} {g' : Bool}
theorem S10.same (h : S10 K cs C x l lk W B R fp x2 l2 lk2 rows P im0 os H0 H im n g im2 n2 g2) (s : Same H H') : S10 K cs C x l lk W B R fp x2 l2 lk2 rows P im0 os H0 H' im n g im2 n2 g2 := ⟨h.s.same s, h.tw.same s⟩
theorem S10.sx (h : S10 K cs C x l lk W B R fp x2 l2 lk2 rows P im0 os H0 H im n g im2 n2 g2) (ap : Apart x l W B R rows) (nl : l ≠ W) (sp : Sep x2 l2 x l W B R rows) (s : Sx W H H') (w : Wl [.int 3] H' W) : S10 K cs C x l lk W B R fp x2 l2 lk2 rows P im0 os H0 H' im n g im2 n2 g2 :=
  ⟨h.s.sx ap nl s w, h.tw.keep (TK.sx h.s.w s) fun b o hb e => s b o (sp b hb).1.2.2 e⟩
theorem S10.told (h : S10 K cs C x l lk W B R fp x2 l2 lk2 rows P im0 os H0 H im n g im2 n2 g2) (ap : Apart x l W B R rows) (nx : x ≠ W) (nl : l ≠ W) (far : Far x l W B rows H0) (sp : Sep x2 l2 x l W B R rows) (fr : Fr2 x l H H') (ch' : ChAt K C x l lk H' P im' os n' g') : S10 K cs C x l lk W B R fp x2 l2 lk2 rows P im0 os H0 H' im' n' g' im2 n2 g2 :=
  ⟨h.s.told ap nx nl far fr ch', h.tw.keep (tk_fr2 h.s.ch fr) fun b o hb e => fr b o (sp b hb).1.1 (sp b hb).1.2.1 e⟩
theorem S10.due (h : S10 K cs C x l lk W B R fp x2 l2 lk2 rows P im0 os H0 H im n g im2 n2 g2) (ap : Apart x l W B R rows) (far : Far x l W B rows H0) (sp : Sep x2 l2 x l W B R rows) (fr : FrP B rows H H') (pl' : PlAt K B R lk rows H' im' os n' g') : S10 K cs C x l lk W B R fp x2 l2 lk2 rows P im0 os H0 H' im n g im' n' g' :=
  ⟨h.s.due ap far fr pl', h.tw.keep (FrP.tk h.s.pl fr) fun b o hb e => fr b o (sp b hb).2.1 (sp b hb).2.2.2 e⟩
theorem S10.twin (h : S10 K cs C x l lk W B R fp x2 l2 lk2 rows P im0 os H0 H im n g im2 n2 g2) (sp : Sep x2 l2 x l W B R rows) (far2 : ∀ b o, b ≠ W → H0 b = some o → (∀ ps, o ≠ .tbl ps) → b ≠ x2 ∧ b ≠ l2) (fr : Fr2 x2 l2 H H') (ch' : ChAt K C x2 l2 lk2 H' P im0 [] 0 false) : S10 K cs C x l lk W B R fp x2 l2 lk2 rows P im0 os H0 H' im n g im2 n2 g2 := by
  obtain ⟨dx, ex⟩ := h.tw.ob
  obtain ⟨bs, eb, _⟩ := h.tw.bl
  have k := tk_fr2 h.tw fr
  have a1 := sp x2 (.inl rfl)
  have a2 := sp l2 (.inr rfl)
  refine ⟨⟨h.s.ch.keep k fun b o hb e => ?_, h.s.pl.far k fun b o hb e => ?_, ?_, ⟨fun b o nW e t => fr b o (far2 b o nW e t).1 (far2 b o nW e t).2 (h.s.sy.1 b o nW e t), fun tb => (h.s.sy.2 tb).fr2 ex eb fr⟩, h.s.tf.tk k⟩, ch'⟩
  · rcases hb with rfl | rfl
    · exact fr b o a1.1.1.symm a2.1.1.symm e
    · exact fr b o a1.1.2.1.symm a2.1.2.1.symm e
  · rcases hb with rfl | rfl | ⟨z, hz, rfl | rfl⟩
    · exact fr _ o a1.2.1.symm a2.2.1.symm e
    · exact fr _ o a1.2.2.1.symm a2.2.2.1.symm e
    · exact fr _ o (a1.2.2.2 z hz).1.symm (a2.2.2.2 z hz).1.symm e
    · exact fr _ o (a1.2.2.2 z hz).2.symm (a2.2.2.2 z hz).2.symm e
  · obtain ⟨a, b, c, e⟩ := h.s.w
    exact ⟨a, b, c, fr _ _ a1.1.2.2.symm a2.1.2.2.symm e⟩
end
/-! ### rows of deeds -/
inductive Runs (P : Nat) (os : List Oc) (im : List Bk) (n : Nat) (g : Bool) : List De → List (List D) → List Bk → Nat → Bool → Prop
  | nil : Runs P os im n g [] [] im n g
  | snoc {des : List De} {dss : List (List D)} {i1 i2 : List Bk} {n1 n2 : Nat} {g1 g2 : Bool} {de : De} {ds : List D} : Runs P os im n g des dss i1 n1 g1 → GI P i1 n1 → de.run P i1 os n1 g1 ds i2 n2 g2 → Runs P os im n g (des ++ [de]) (dss ++ [ds]) i2 n2 g2
theorem Runs.det {P : Nat} {os : List Oc} {im : List Bk} {n : Nat} {g : Bool} {des : List De} {d1 : List (List D)} {i1 : List Bk} {n1 : Nat} {g1 : Bool} (h : Runs P os im n g des d1 i1 n1 g1) : ∀ {d2 : List (List D)} {i2 : List Bk} {n2 : Nat} {g2 : Bool}, Runs P os im n g des d2 i2 n2 g2 → d1 = d2 ∧ i1 = i2 ∧ n1 = n2 ∧ g1 = g2 := by
  induction h with
  | nil =>
    intro d2 i2 n2 g2 h2
    generalize hz : ([] : List De) = z at h2
    cases h2 with
    | nil => exact ⟨rfl, rfl, rfl, rfl⟩
    | snoc => simp at hz
  | @snoc des dss ia ib na nb ga gb de ds _ _ st ih =>
    intro d2 i2 n2 g2 h2
    generalize hz : des ++ [de] = z at h2
    cases h2 with
    | nil => simp at hz
    | @snoc des' dss' ia' ib' na' nb' ga' gb' de' ds' h2 _ st2 =>
      obtain ⟨rfl, e2⟩ := List.append_inj' hz rfl
      obtain rfl : de = de' := (List.cons.inj e2).1
      obtain ⟨rfl, rfl, rfl, rfl⟩ := ih h2
      obtain ⟨rfl, rfl, rfl, rfl⟩ := st.det st2
      exact ⟨rfl, rfl, rfl, rfl⟩
/-- a list of told lists in the heap -/
def Rs (K : PySem.W.Frag) (H : Hp) (p : Addr) (ds : List D) : Prop := ∃ vs, H p = some (.lst vs) ∧ TDs K H vs ds
inductive Rss (K : PySem.W.Frag) (H : Hp) : List V → List (List D) → Prop
  | nil : Rss K H [] []
  | cons {p : Addr} {ds : List D} {ps : List V} {dss : List (List D)} : Rs K H p ds → Rss K H ps dss → Rss K H (.ref p :: ps) (ds :: dss)
theorem Rs.dp {K : PySem.W.Frag} {H : Hp} {p : Addr} {ds : List D} (h : Rs K H p ds) : Dp K H (.ref p) (.list (D.toPs ds)) := by
  obtain ⟨vs, e, t⟩ := h
  exact .lst (sqL_of e) (TDs.dp _ _ t)
theorem Rss.dp {K : PySem.W.Frag} {H : Hp} {ps : List V} {dss : List (List D)} (h : Rss K H ps dss) : DpAll K H ps (dss.map fun ds => .list (D.toPs ds)) := by
  induction h with
  | nil => exact .nil
  | cons r _ ih => exact .cons r.dp ih
theorem Rss.app {K : PySem.W.Frag} {H : Hp} {ps qs : List V} {dss ess : List (List D)} (h : Rss K H ps dss) (t : Rss K H qs ess) : Rss K H (ps ++ qs) (dss ++ ess) := by
  induction h with
  | nil => exact t
  | cons r _ ih => exact .cons r ih
theorem Rss.keep {K : PySem.W.Frag} {H H' : Hp} {ps : List V} {dss : List (List D)} (h : Rss K H ps dss) (k : TK H H') (f : ∀ p, V.ref p ∈ ps → ∀ o, H p = some o → H' p = some o) : Rss K H' ps dss := by
  induction h with
  | nil => exact .nil
  | cons r _ ih =>
    obtain ⟨vs, e, t⟩ := r
    exact .cons ⟨vs, f _ (.head _) _ e, t.tk k⟩ (ih fun p hp => f p (.tail _ hp))
theorem Rss.len {K : PySem.W.Frag} {H : Hp} {ps : List V} {dss : List (List D)} (h : Rss K H ps dss) : ps.length = dss.length := by
  induction h with
  | nil => rfl
  | cons _ _ ih => rw [List.length_cons, List.length_cons, ih]
/-! ### how much they say -/
def wt : De → Nat
  | .seen => 5000
  | _ => 100
def Wdl (xs : List PyData) (m : Nat) : Prop := (∀ x ∈ xs, shb x = true ∧ x.depth ≤ 3) ∧ nszs xs ≤ m
theorem told_wd {P : Nat} {im : List Bk} {os : List Oc} {n : Nat} {g : Bool} {de : De} {ds : List D} {im' : List Bk} {n' : Nat} {g' : Bool} (gi : GI P im n) (st : de.run P im os n g ds im' n' g') : Wdl (D.toPs ds) (wt de) := by
  have iw := img_wd gi
  have one : ∀ {a : D}, (shb a.toP = true ∧ nsz a.toP ≤ 21 ∧ a.toP.depth ≤ 3) → Wdl (D.toPs [a]) 100 := fun {a} h => by
    refine ⟨fun x hx => ?_, ?_⟩
    · simp only [D.toPs, List.mem_cons, List.not_mem_nil, or_false] at hx
      subst hx
      exact ⟨h.1, h.2.2⟩
    · simp only [D.toPs, nszs]; omega
  have two : ∀ {a b : D} {m : Nat}, (shb a.toP = true ∧ nsz a.toP ≤ 21 ∧ a.toP.depth ≤ 3) → (shb b.toP = true ∧ nsz b.toP + 21 ≤ m ∧ b.toP.depth ≤ 3) → Wdl (D.toPs [a, b]) m := fun {a b m} h h2 => by
    refine ⟨fun x hx => ?_, ?_⟩
    · simp only [D.toPs, List.mem_cons, List.not_mem_nil, or_false] at hx
      rcases hx with rfl | rfl
      · exact ⟨h.1, h.2.2⟩
      · exact ⟨h2.1, h2.2.2⟩
    · simp only [D.toPs, nszs]; omega
  have up : ∀ {b : D}, (shb b.toP = true ∧ nsz b.toP ≤ 21 ∧ b.toP.depth ≤ 3) → (shb b.toP = true ∧ nsz b.toP + 21 ≤ 100 ∧ b.toP.depth ≤ 3) := fun h => ⟨h.1, by have := h.2.1; omega, h.2.2⟩
  have opt : ∀ r : Option Bool, Wdl (D.toPs (match r with | none => [.str "cut"] | some t => [.str "told", .bl t])) 100 := fun r => by
    cases r with
    | none => exact one cutS
    | some t => exact two toldS (up (bl_wd t))
  cases st with
  | seen => exact two toldS ⟨iw.1, by have := iw.2.1; show _ ≤ 5000; omega, iw.2.2⟩
  | many =>
    have n1 := nat_wd (sml_MX (show n ≤ 1000 by have := gi.2.2.2.2.1; omega))
    have n2 := nat_wd (sml_MX (show im.length ≤ 1000 by have := gi.2.1; omega))
    have n3 := nat_wd (sml_MX (show P ≤ 1000 by have := gi.2.2.2.1; omega))
    have b1 := bl_wd g
    have t1 := toldS
    refine ⟨fun x hx => ?_, ?_⟩
    · simp only [D.toPs, List.mem_cons, List.not_mem_nil, or_false] at hx
      rcases hx with rfl | rfl | rfl | rfl
      · exact ⟨t1.1, t1.2.2⟩
      · exact ⟨n1.1, n1.2.2⟩
      · exact ⟨b1.1, b1.2.2⟩
      · refine ⟨?_, ?_⟩
        · simp only [D.toP, D.toPs, shb, shbs, Bool.and_true]
          have a := n2.1
          have b := n3.1
          simp only [D.toP, shb] at a b
          rw [a, b]; rfl
        · simp only [D.toP, D.toPs, PyData.depth, PyData.depthAll]
          omega
    · have a := n1.2.1
      have c := b1.2.1
      have d := t1.2.1
      show _ ≤ 100
      simp only [D.toP, D.toPs, nszs, nsz] at a c d ⊢
      omega
  | rgone => exact one cutS
  | @read b p w k hg hk hw => exact two toldS (up (nat_wd ((gi.2.2.2.2.2 k (List.mem_of_getElem? hk)).1.2 w (List.mem_of_getElem? hw))))
  | prog st => exact opt _
  | erase st => exact opt _
theorem nszs_app (xs ys : List PyData) : nszs (xs ++ ys) = nszs xs + nszs ys := by
  induction xs with
  | nil => simp [nszs]
  | cons x xs ih => rw [List.cons_append, nszs, nszs, ih]; omega
theorem Runs.wd {P : Nat} {os : List Oc} {im : List Bk} {n : Nat} {g : Bool} {des : List De} {d1 : List (List D)} {i1 : List Bk} {n1 : Nat} {g1 : Bool} (h : Runs P os im n g des d1 i1 n1 g1) : (∀ x ∈ d1.map (fun ds => PyData.list (D.toPs ds)), shb x = true ∧ x.depth ≤ 4) ∧ nszs (d1.map fun ds => PyData.list (D.toPs ds)) ≤ (des.map fun d => wt d + 1).sum := by
  induction h with
  | nil => exact ⟨fun x hx => by simp at hx, by simp [nszs]⟩
  | @snoc des dss ia ib na nb ga gb de ds _ gi st ih =>
    have w := told_wd gi st
    refine ⟨fun x hx => ?_, ?_⟩
    · rw [List.map_append] at hx
      rcases List.mem_append.mp hx with h | h
      · exact ih.1 x h
      · simp only [List.map_cons, List.map_nil, List.mem_cons, List.not_mem_nil, or_false] at h
        subst h
        refine ⟨by simpa only [shb] using shbs_all fun y hy => (w.1 y hy).1, ?_⟩
        have := depth_all (n := 3) fun y hy => (w.1 y hy).2
        simp only [PyData.depth]
        omega
    · rw [List.map_append, nszs_app, List.map_append, List.sum_append]
      have := w.2
      have := ih.2
      simp only [List.map_cons, List.map_nil, nszs, nsz, List.sum_cons, List.sum_nil]
      omega
theorem shw_g {ds : List PyData} (s : ∀ x ∈ ds, shb x = true ∧ x.depth ≤ 10) (n : nszs ds ≤ 7900) : Shw (.list ds) :=
  ⟨by simpa only [shb] using shbs_all fun x hx => (s x hx).1, by simp only [nsz]; omega, by have := depth_all (n := 10) fun x hx => (s x hx).2; simp only [PyData.depth]; omega⟩
abbrev dN : Nat → PyData := fun n => PyData.int (n : Int)
theorem eqv_nil_l (ns : List Nat) : PyData.eqv (.list (ns.map dN)) (.list []) = decide (ns = []) := by
  cases ns <;> simp [PyData.eqv, PyData.eqvAll]
theorem can_N : ∀ ns : List Nat, PyData.canLayAll0 (ns.map dN) = true
  | [] => by simp [PyData.canLayAll0]
  | n :: ns => by simp [PyData.canLayAll0, PyData.canLay0, can_N ns]
theorem dep_N : ∀ ns : List Nat, PyData.depthAll (ns.map dN) = 0
  | [] => by simp [PyData.depthAll]
  | n :: ns => by simp [PyData.depthAll, PyData.depth, dep_N ns]
theorem shp_l (ns : List Nat) : SeqAt.shaped (.list (ns.map dN)) = true := by
  simp [SeqAt.shaped, PyData.canLay0, PyData.depth, can_N, dep_N]
/-! ### a list of its own beside all that -/
structure Out10 (D x l W B R y l2 : Addr) (rows : List (Addr × Addr)) (H0 : Hp) : Prop where
  nx : D ≠ x
  nl : D ≠ l
  nW : D ≠ W
  nB : D ≠ B
  nR : D ≠ R
  nr : ∀ z ∈ rows, D ≠ z.1 ∧ D ≠ z.2
  ny : D ≠ y
  nm : D ≠ l2
  old : ∀ b o, b ≠ W → H0 b = some o → (∀ ps, o ≠ .tbl ps) → b ≠ D
theorem Tb.mutL {cs : Cds} {D : Addr} {xs : List V} {o : HO} {H : Hp} (tb : Tb cs H) (e : H D = some (.lst xs)) : Tb cs (upd H D o) := fun q hq => by
  obtain ⟨ps, e1, e2, e3⟩ := tb q hq
  have key : ∀ {b : Addr} {u : HO}, H b = some u → (∀ ys, u ≠ .lst ys) → upd H D o b = some u := fun {b u} eb n => by
    rw [upd_ne (fun z => by rw [z, e] at eb; exact n _ (Option.some.inj eb).symm)]
    exact eb
  refine ⟨ps, key e1 (fun _ z => nomatch z), e2, fun pos cv hc => ?_⟩
  obtain ⟨c, g1, g2⟩ := e3 pos cv hc
  exact ⟨c, g1, key g2 fun _ z => by unfold LamX.CodeO at z; cases z⟩
section
variable {K : PySem.W.Frag} {cs : Cds} {C x l lk W B R fp x2 l2 lk2 : Addr} {rows : List (Addr × Addr)} {P : Nat} {im0 : List Bk} {os : List Oc} {H0 H H' : Hp} {im : List Bk} {n : Nat} {g : Bool} {im2 : List Bk} {n2 : Nat} {g2 : Bool} {im' : List Bk} {n' : Nat} {g' : Bool} {D : Addr}
theorem S10.out (h : S10 K cs C x l lk W B R fp x2 l2 lk2 rows P im0 os H0 H im n g im2 n2 g2) (hD : H D = none) : Out10 D x l W B R x2 l2 rows H0 := by
  have ne : ∀ {a : Addr} {o : HO}, H a = some o → D ≠ a := fun {a o} e z => by rw [← z, hD] at e; cases e
  obtain ⟨dx, ex⟩ := h.s.ch.ob
  obtain ⟨bs, eb, _⟩ := h.s.ch.bl
  obtain ⟨dy, ey⟩ := h.tw.ob
  obtain ⟨bt, et, _⟩ := h.tw.bl
  obtain ⟨a, b, c, eW⟩ := h.s.w
  refine ⟨ne ex, ne eb, ne eW, ne h.s.pl.b, ne h.s.pl.r, fun z hz => ?_, ne ey, ne et, fun b o nW e t z => ?_⟩
  · obtain ⟨i, hi, rfl⟩ := List.mem_iff_getElem.mp hz
    obtain ⟨a, b⟩ := h.s.pl.each i _ _ (List.getElem?_eq_getElem hi) (List.getElem?_eq_getElem (by rw [← h.s.pl.len]; exact hi))
    exact ⟨ne a, ne b⟩
  · have := h.s.sy.1 b o nW e t
    rw [z, hD] at this
    cases this
theorem S10.mut {xs : List V} {o : HO} (h : S10 K cs C x l lk W B R fp x2 l2 lk2 rows P im0 os H0 H im n g im2 n2 g2) (u : Out10 D x l W B R x2 l2 rows H0) (e : H D = some (.lst xs)) : S10 K cs C x l lk W B R fp x2 l2 lk2 rows P im0 os H0 (upd H D o) im n g im2 n2 g2 := by
  have k : TK H (upd H D o) := TK.mutL e
  have f : ∀ {b : Addr} {w : HO}, D ≠ b → H b = some w → upd H D o b = some w := fun {b w} n eb => by rw [upd_ne n.symm]; exact eb
  refine ⟨⟨h.s.ch.keep k fun b w hb eb => ?_, h.s.pl.far k fun b w hb eb => ?_, ?_, ⟨fun b w nW eb t => f (u.old b w nW eb t).symm (h.s.sy.1 b w nW eb t), fun tb => (h.s.sy.2 tb).mutL e⟩, h.s.tf.tk k⟩, h.tw.keep k fun b w hb eb => ?_⟩
  · rcases hb with rfl | rfl
    · exact f u.nx eb
    · exact f u.nl eb
  · rcases hb with rfl | rfl | ⟨z, hz, rfl | rfl⟩
    · exact f u.nB eb
    · exact f u.nR eb
    · exact f (u.nr z hz).1 eb
    · exact f (u.nr z hz).2 eb
  · obtain ⟨a, b, c, eW⟩ := h.s.w
    exact ⟨a, b, c, f u.nW eW⟩
  · rcases hb with rfl | rfl
    · exact f u.ny eb
    · exact f u.nm eb
theorem S10.ex (h : S10 K cs C x l lk W B R fp x2 l2 lk2 rows P im0 os H0 H im n g im2 n2 g2) : (∃ o, H x = some o) ∧ (∃ o, H l = some o) ∧ (∃ o, H B = some o) ∧ (∀ z ∈ rows, (∃ o, H z.1 = some o) ∧ ∃ o, H z.2 = some o) := by
  obtain ⟨dx, ex⟩ := h.s.ch.ob
  obtain ⟨bs, eb, _⟩ := h.s.ch.bl
  refine ⟨⟨_, ex⟩, ⟨_, eb⟩, ⟨_, h.s.pl.b⟩, fun z hz => ?_⟩
  obtain ⟨i, hi, rfl⟩ := List.mem_iff_getElem.mp hz
  obtain ⟨a, b⟩ := h.s.pl.each i _ _ (List.getElem?_eq_getElem hi) (List.getElem?_eq_getElem (by rw [← h.s.pl.len]; exact hi))
  exact ⟨⟨_, a⟩, ⟨_, b⟩⟩
end
theorem Runs.pre {P : Nat} {os : List Oc} {im : List Bk} {n : Nat} {g : Bool} {des : List De} {d1 : List (List D)} {i1 : List Bk} {n1 : Nat} {g1 : Bool} (h : Runs P os im n g des d1 i1 n1 g1) : ∀ i, i < des.length → ∃ d2 i2 n2 g2, Runs P os im n g (des.take i) d2 i2 n2 g2 ∧ GI P i2 n2 := by
  induction h with
  | nil => intro i hi; simp at hi
  | @snoc des dss ia ib na nb ga gb de ds h gi st ih =>
    intro i hi
    rw [List.length_append, List.length_singleton] at hi
    by_cases c : i < des.length
    · rw [List.take_append_of_le_length (Nat.le_of_lt c)]
      exact ih i c
    · obtain rfl : i = des.length := by omega
      rw [List.take_left]
      exact ⟨_, _, _, _, h, gi⟩
theorem img_n {P : Nat} {im : List Bk} {n : Nat} (h : GI P im n) : nsz (D.tup (im.map Bk.d)).toP ≤ 300 := by
  have lf : ∀ x ∈ D.toPs (im.map Bk.d), nsz x ≤ 20 := fun x hx => by
    obtain ⟨d, hd, rfl⟩ := toPs_mem hx
    obtain ⟨b, hb, rfl⟩ := List.mem_map.mp hd
    have gp := (h.2.2.2.2.2 b hb).1
    have pg : ∀ x ∈ D.toPs (inD b.pg), nsz x ≤ 1 := fun x hx => by
      obtain ⟨d, hd, rfl⟩ := toPs_mem hx
      obtain ⟨n, hn, rfl⟩ := List.mem_map.mp hd
      simp [D.toP, nsz]
    have a := nszs_all (n := 1) pg
    rw [toPs_len, show (inD b.pg).length = P by unfold inD; rw [List.length_map, gp.1]] at a
    have := h.2.2.2.1
    simp only [Bk.d, D.toP, D.toPs, nsz, nszs]
    omega
  have a := nszs_all (n := 20) lf
  rw [toPs_len, List.length_map] at a
  have := h.2.1
  simp only [D.toP, nsz]
  omega
theorem odd_facts {K : PySem.W.Frag} {N : Nat} (h5 : 5 ≤ N) {v : V} (hv : v ∈ [V.int (N : Int), .int (-1), .bl true, .non, .str "0"]) (hN : N ≤ 12) :
    ∃ d : PyData, (∀ H, Dp K H v d) ∧ SeqAt.shaped d = true ∧ PyData.eqv d (.int (N : Int)) = decide (v = .int (N : Int)) ∧ Out v 0 ((N : Int) - 1) ∧ (shb d = true ∧ nsz d ≤ 21 ∧ d.depth ≤ 3) ∧ (v ≠ .int (N : Int) → ∀ P : Nat, Out v 0 ((P : Int) - 1)) := by
  have lfi : ∀ i : Int, i.natAbs ≤ 100 → shb (.int i) = true ∧ nsz (.int i) ≤ 21 ∧ (PyData.int i).depth ≤ 3 := fun i hi => by
    have := leaf_int (i := i) (Nat.lt_of_le_of_lt hi (by decide +kernel))
    exact ⟨this.1, by have := this.2.1; omega, by rw [this.2.2]; omega⟩
  simp only [List.mem_cons, List.not_mem_nil, or_false] at hv
  rcases hv with rfl | rfl | rfl | rfl | rfl
  · exact ⟨_, fun H => .int _, by simp [SeqAt.shaped, PyData.canLay0, PyData.depth], by simp [PyData.eqv], .inl ⟨_, rfl, by omega⟩, lfi _ (by omega), fun z => absurd rfl z⟩
  · exact ⟨_, fun H => .int _, by simp [SeqAt.shaped, PyData.canLay0, PyData.depth], by simp [PyData.eqv], .inl ⟨_, rfl, by omega⟩, lfi _ (by omega), fun _ P => .inl ⟨_, rfl, by omega⟩⟩
  · refine ⟨_, fun H => .bl _, by simp [SeqAt.shaped, PyData.canLay0, PyData.depth], ?_, .inr (.inr (.inl ⟨_, rfl⟩)), ⟨rfl, by simp [nsz], by simp [PyData.depth]⟩, fun _ P => .inr (.inr (.inl ⟨_, rfl⟩))⟩
    simp [PyData.eqv]
    omega
  · exact ⟨_, fun H => .non, by simp [SeqAt.shaped, PyData.canLay0, PyData.depth], by simp [PyData.eqv], .inr (.inl rfl), ⟨rfl, by simp [nsz], by simp [PyData.depth]⟩, fun _ P => .inr (.inl rfl)⟩
  · exact ⟨_, fun H => .str _, by simp [SeqAt.shaped, PyData.canLay0, PyData.depth]; decide +kernel, by simp [PyData.eqv], .inr (.inr (.inr ⟨_, rfl⟩)), ⟨by decide +kernel, by decide +kernel, by simp [PyData.depth]⟩, fun _ P => .inr (.inr (.inr ⟨_, rfl⟩))⟩
theorem prs_wd {w : PySem.Str} {d : PyData} (h : shb (.str w) = true ∧ w.length ≤ 20) (hd : shb d = true ∧ nsz d ≤ 21 ∧ d.depth ≤ 3) : shb (.list [.str w, d]) = true ∧ (PyData.list [.str w, d]).depth ≤ 10 ∧ nsz (.list [.str w, d]) ≤ 50 := by
  refine ⟨?_, ?_, ?_⟩
  · simp only [shb, shbs, Bool.and_true]
    have a := h.1
    simp only [shb] at a
    rw [a, hd.1]; rfl
  · simp only [PyData.depth, PyData.depthAll]
    have := hd.2.2
    omega
  · simp only [nsz, nszs]
    have := hd.2.1
    have := h.2
    omega
theorem wrong_shw {w1 w2 w3 w4 : PySem.Str} {a b c d : PyData} (g1 : shb (.str w1) = true ∧ w1.length ≤ 20) (g2 : shb (.str w2) = true ∧ w2.length ≤ 20) (g3 : shb (.str w3) = true ∧ w3.length ≤ 20) (g4 : shb (.str w4) = true ∧ w4.length ≤ 20)
    (ha : shb a = true ∧ nsz a ≤ 21 ∧ a.depth ≤ 3) (hb : shb b = true ∧ nsz b ≤ 21 ∧ b.depth ≤ 3) (hc : shb c = true ∧ nsz c ≤ 21 ∧ c.depth ≤ 3) (hd : shb d = true ∧ nsz d ≤ 21 ∧ d.depth ≤ 3) :
    Shw (.list [.list [.str w1, a], .list [.str w2, b], .list [.str w3, c], .list [.str w4, d]]) := by
  have p1 := prs_wd g1 ha
  have p2 := prs_wd g2 hb
  have p3 := prs_wd g3 hc
  have p4 := prs_wd g4 hd
  refine shw_g (fun y hy => ?_) ?_
  · simp only [List.mem_cons, List.not_mem_nil, or_false] at hy
    rcases hy with rfl | rfl | rfl | rfl
    · exact ⟨p1.1, p1.2.1⟩
    · exact ⟨p2.1, p2.2.1⟩
    · exact ⟨p3.1, p3.2.1⟩
    · exact ⟨p4.1, p4.2.1⟩
  · have := p1.2.2
    have := p2.2.2
    have := p3.2.2
    have := p4.2.2
    simp only [nszs]
    omega
theorem last_shw {P : Nat} {im im0 : List Bk} {n N : Nat} (g1 : GI P im n) (g0 : GI P im0 0) (hN : N = im0.length) : Shw (.list [.list (D.toPs [.str "told", .tup (im.map Bk.d)]), .list (D.toPs [.str "told", .tup (im0.map Bk.d)]), .list (D.toPs [.str "told", .int ((0 : Nat) : Int), .bl false, .tup [.int (N : Int), .int (P : Int)]])]) := by
  subst hN
  have gen : ∀ {de : De} {ds : List D} {i1 i2 : List Bk} {a b : Nat} {g : Bool} {os : List Oc} {h : Bool}, GI P i1 a → de.run P i1 os a g ds i2 b h → shb (.list (D.toPs ds)) = true ∧ (PyData.list (D.toPs ds)).depth ≤ 10 := fun gi st => by
    have w := told_wd gi st
    refine ⟨by simpa only [shb] using shbs_all fun y hy => (w.1 y hy).1, ?_⟩
    have := depth_all (n := 3) fun y hy => (w.1 y hy).2
    simp only [PyData.depth]
    omega
  have r1 := gen g1 (De.run.seen (os := []) (g := false))
  have r2 := gen g0 (De.run.seen (os := []) (g := false))
  have r3 := gen g0 (De.run.many (os := []) (g := false))
  have w3 := (told_wd g0 (De.run.many (os := []) (g := false))).2
  have i1 := img_n g1
  have i0 := img_n g0
  refine shw_g (fun y hy => ?_) ?_
  · simp only [List.mem_cons, List.not_mem_nil, or_false] at hy
    rcases hy with rfl | rfl | rfl
    · exact r1
    · exact r2
    · exact r3
  · have t := toldS.2.1
    have w3' : nszs (D.toPs [.str "told", .int ((0 : Nat) : Int), .bl false, .tup [.int (im0.length : Int), .int (P : Int)]]) ≤ 100 := w3
    simp only [nszs, nsz]
    have e1 : nszs (D.toPs [.str "told", .tup (im.map Bk.d)]) ≤ 330 := by simp only [D.toPs, nszs]; omega
    have e0 : nszs (D.toPs [.str "told", .tup (im0.map Bk.d)]) ≤ 330 := by simp only [D.toPs, nszs]; omega
    omega
/-! ### the text by places -/
def topS (i : Nat) : Stmt := PySem.Challenge.pw_flashtrees_k10_whole_power_gone_and_bad.main.body.getD i (.Pass ⟨0, 0, 0, 0⟩)
abbrev s_Ldraw : Stmt := topS 33
abbrev N_Ldraw : List Str := ["_law_well_here", "_law_many", "_law_figure", "_law_seed"]
theorem sc_Ldraw : FnScope N_Ldraw ["_law_well_here", "_law_many"] (defScope s_Ldraw) := ⟨rfl, rfl, rfl, by decide +kernel, rfl, by decide +kernel, by decide +kernel⟩
abbrev s_Lones : Stmt := topS 36
abbrev N_Lones : List Str := ["_law_number", "_law_many", "_law_left", "_law_turn", "_law_part"]
theorem sc_Lones : FnScope N_Lones ["_law_number"] (defScope s_Lones) := ⟨rfl, rfl, rfl, by decide +kernel, rfl, by decide +kernel, by decide +kernel⟩
abbrev s_Lword : Stmt := topS 37
abbrev N_Lword : List Str := ["_law_numbers", "_law_data", "_law_number"]
theorem sc_Lword : FnScope N_Lword ["_law_numbers"] (defScope s_Lword) := ⟨rfl, rfl, rfl, by decide +kernel, rfl, by decide +kernel, by decide +kernel⟩
abbrev s_Lmask : Stmt := topS 35
abbrev N_Lmask : List Str := ["_law_well_here", "_law_wide", "_law_branch", "_law_full", "_law_made", "_law_turn"]
theorem sc_Lmask : FnScope N_Lmask ["_law_well_here", "_law_wide"] (defScope s_Lmask) := ⟨rfl, rfl, rfl, by decide +kernel, rfl, by decide +kernel, by decide +kernel⟩
abbrev s_Lpage : Stmt := topS 38
abbrev N_Lpage : List Str := ["_law_well_here", "_law_branch", "_law_made", "_law_turn"]
theorem sc_Lpage : FnScope N_Lpage ["_law_well_here"] (defScope s_Lpage) := ⟨rfl, rfl, rfl, by decide +kernel, rfl, by decide +kernel, by decide +kernel⟩
abbrev s_Limage : Stmt := topS 41
abbrev N_Limage : List Str := ["_law_well_here", "_law_made", "_law_tall", "_law_turn", "_law_sheets", "_law_branch", "_law_spot"]
theorem sc_Limage : FnScope N_Limage ["_law_well_here"] (defScope s_Limage) := ⟨rfl, rfl, rfl, by decide +kernel, rfl, by decide +kernel, by decide +kernel⟩
abbrev s_Loutcome : Stmt := topS 39
abbrev N_Loutcome : List Str := ["_law_well_here", "_law_wide", "_law_branch", "_law_mask_here"]
theorem sc_Loutcome : FnScope N_Loutcome ["_law_well_here", "_law_wide"] (defScope s_Loutcome) := ⟨rfl, rfl, rfl, by decide +kernel, rfl, by decide +kernel, by decide +kernel⟩
abbrev s_Lluck : Stmt := topS 40
abbrev N_Lluck : List Str := ["_law_well_here", "_law_tall", "_law_often", "_law_made", "_law_turn", "_law_one"]
theorem sc_Lluck : FnScope N_Lluck ["_law_well_here", "_law_tall", "_law_often"] (defScope s_Lluck) := ⟨rfl, rfl, rfl, by decide +kernel, rfl, by decide +kernel, by decide +kernel⟩
abbrev s_Lpick : Stmt := topS 34
abbrev N_Lpick : List Str := ["_law_well_here", "_law_some"]
theorem sc_Lpick : FnScope N_Lpick ["_law_well_here", "_law_some"] (defScope s_Lpick) := ⟨rfl, rfl, rfl, by decide +kernel, rfl, by decide +kernel, by decide +kernel⟩
abbrev s_Lplain : Stmt := topS 42
abbrev N_Lplain : List Str := ["_law_image_here", "_law_chance", "_law_each"]
theorem sc_Lplain : FnScope N_Lplain ["_law_image_here", "_law_chance"] (defScope s_Lplain) := ⟨rfl, rfl, rfl, by decide +kernel, rfl, by decide +kernel, by decide +kernel⟩
abbrev s_Ldeed : Stmt := topS 47
abbrev N_Ldeed : List Str := ["_law_well_here", "_law_many", "_law_tall", "_law_branch", "_law_at", "_law_spot"]
theorem sc_Ldeed : FnScope N_Ldeed ["_law_well_here", "_law_many", "_law_tall"] (defScope s_Ldeed) := ⟨rfl, rfl, rfl, by decide +kernel, rfl, by decide +kernel, by decide +kernel⟩
abbrev s_is_whole : Stmt := topS 8
abbrev N_is_whole : List Str := ["value"]
theorem sc_is_whole : FnScope N_is_whole ["value"] (defScope s_is_whole) := ⟨rfl, rfl, rfl, by decide +kernel, rfl, by decide +kernel, by decide +kernel⟩
abbrev s_is_between : Stmt := topS 10
abbrev N_is_between : List Str := ["value", "least", "most"]
theorem sc_is_between : FnScope N_is_between ["value", "least", "most"] (defScope s_is_between) := ⟨rfl, rfl, rfl, by decide +kernel, rfl, by decide +kernel, by decide +kernel⟩
abbrev s_is_page : Stmt := topS 17
abbrev N_is_page : List Str := ["value"]
theorem sc_is_page : FnScope N_is_page ["value"] (defScope s_is_page) := ⟨rfl, rfl, rfl, by decide +kernel, rfl, by decide +kernel, by decide +kernel⟩
abbrev s_InvalidPage_init : Stmt := inClass (topS 2) 0
abbrev N_InvalidPage_init : List Str := ["self", "given"]
theorem sc_InvalidPage_init : FnScope N_InvalidPage_init ["self", "given"] (defScope s_InvalidPage_init) := ⟨rfl, rfl, rfl, by decide +kernel, rfl, by decide +kernel, by decide +kernel⟩
abbrev s_require_page : Stmt := topS 18
abbrev N_require_page : List Str := ["value"]
theorem sc_require_page : FnScope N_require_page ["value"] (defScope s_require_page) := ⟨rfl, rfl, rfl, by decide +kernel, rfl, by decide +kernel, by decide +kernel⟩
abbrev s_is_from : Stmt := topS 9
abbrev N_is_from : List Str := ["value", "least"]
theorem sc_is_from : FnScope N_is_from ["value", "least"] (defScope s_is_from) := ⟨rfl, rfl, rfl, by decide +kernel, rfl, by decide +kernel, by decide +kernel⟩
abbrev s_InvalidNumber_init : Stmt := inClass (topS 3) 0
abbrev N_InvalidNumber_init : List Str := ["self", "given"]
theorem sc_InvalidNumber_init : FnScope N_InvalidNumber_init ["self", "given"] (defScope s_InvalidNumber_init) := ⟨rfl, rfl, rfl, by decide +kernel, rfl, by decide +kernel, by decide +kernel⟩
abbrev s_require_from : Stmt := topS 12
abbrev N_require_from : List Str := ["value", "least"]
theorem sc_require_from : FnScope N_require_from ["value", "least"] (defScope s_require_from) := ⟨rfl, rfl, rfl, by decide +kernel, rfl, by decide +kernel, by decide +kernel⟩
abbrev s_erased : Stmt := topS 20
abbrev N_erased : List Str := ["old", "mask"]
theorem sc_erased : FnScope N_erased ["old", "mask"] (defScope s_erased) := ⟨rfl, rfl, rfl, by decide +kernel, rfl, by decide +kernel, by decide +kernel⟩
abbrev s_require_between : Stmt := topS 13
abbrev N_require_between : List Str := ["value", "least", "most"]
theorem sc_require_between : FnScope N_require_between ["value", "least", "most"] (defScope s_require_between) := ⟨rfl, rfl, rfl, by decide +kernel, rfl, by decide +kernel, by decide +kernel⟩
abbrev s_Chip_require_block_index : Stmt := inClass (topS 30) 8
abbrev N_Chip_require_block_index : List Str := ["self", "block"]
theorem sc_Chip_require_block_index : FnScope N_Chip_require_block_index ["self", "block"] (defScope s_Chip_require_block_index) := ⟨rfl, rfl, rfl, by decide +kernel, rfl, by decide +kernel, by decide +kernel⟩
abbrev s_Chip_require_power : Stmt := inClass (topS 30) 10
abbrev N_Chip_require_power : List Str := ["self"]
theorem sc_Chip_require_power : FnScope N_Chip_require_power ["self"] (defScope s_Chip_require_power) := ⟨rfl, rfl, rfl, by decide +kernel, rfl, by decide +kernel, by decide +kernel⟩
abbrev s_Chip_next_outcome : Stmt := inClass (topS 30) 11
abbrev N_Chip_next_outcome : List Str := ["self", "done_mask", "outcome"]
theorem sc_Chip_next_outcome : FnScope N_Chip_next_outcome ["self", "done_mask"] (defScope s_Chip_next_outcome) := ⟨rfl, rfl, rfl, by decide +kernel, rfl, by decide +kernel, by decide +kernel⟩
abbrev s_Chip_settle : Stmt := inClass (topS 30) 12
abbrev N_Chip_settle : List Str := ["self", "block", "kind", "erasures", "pages"]
theorem sc_Chip_settle : FnScope N_Chip_settle ["self", "block", "kind", "erasures", "pages"] (defScope s_Chip_settle) := ⟨rfl, rfl, rfl, by decide +kernel, rfl, by decide +kernel, by decide +kernel⟩
abbrev s_Chip_erase : Stmt := inClass (topS 30) 3
abbrev N_Chip_erase : List Str := ["self", "block", "is_bad", "erasures", "pages", "kind", "mask", "left", "index", "old"]
theorem sc_Chip_erase : FnScope N_Chip_erase ["self", "block"] (defScope s_Chip_erase) := ⟨rfl, rfl, rfl, by decide +kernel, rfl, by decide +kernel, by decide +kernel⟩
abbrev s_Chip_image : Stmt := inClass (topS 30) 4
abbrev N_Chip_image : List Str := ["self"]
theorem sc_Chip_image : FnScope N_Chip_image ["self"] (defScope s_Chip_image) := ⟨rfl, rfl, rfl, by decide +kernel, rfl, by decide +kernel, by decide +kernel⟩
abbrev s_Chip_operations : Stmt := inClass (topS 30) 6
abbrev N_Chip_operations : List Str := ["self"]
theorem sc_Chip_operations : FnScope N_Chip_operations ["self"] (defScope s_Chip_operations) := ⟨rfl, rfl, rfl, by decide +kernel, rfl, by decide +kernel, by decide +kernel⟩
abbrev s_Chip_is_cut : Stmt := inClass (topS 30) 7
abbrev N_Chip_is_cut : List Str := ["self"]
theorem sc_Chip_is_cut : FnScope N_Chip_is_cut ["self"] (defScope s_Chip_is_cut) := ⟨rfl, rfl, rfl, by decide +kernel, rfl, by decide +kernel, by decide +kernel⟩
abbrev s_Chip_size : Stmt := inClass (topS 30) 5
abbrev N_Chip_size : List Str := ["self"]
theorem sc_Chip_size : FnScope N_Chip_size ["self"] (defScope s_Chip_size) := ⟨rfl, rfl, rfl, by decide +kernel, rfl, by decide +kernel, by decide +kernel⟩
abbrev s_Chip_require_page_index : Stmt := inClass (topS 30) 9
abbrev N_Chip_require_page_index : List Str := ["self", "block", "page"]
theorem sc_Chip_require_page_index : FnScope N_Chip_require_page_index ["self", "block", "page"] (defScope s_Chip_require_page_index) := ⟨rfl, rfl, rfl, by decide +kernel, rfl, by decide +kernel, by decide +kernel⟩
abbrev s_Chip_read : Stmt := inClass (topS 30) 1
abbrev N_Chip_read : List Str := ["self", "block", "page"]
theorem sc_Chip_read : FnScope N_Chip_read ["self", "block", "page"] (defScope s_Chip_read) := ⟨rfl, rfl, rfl, by decide +kernel, rfl, by decide +kernel, by decide +kernel⟩
abbrev s_programmed : Stmt := topS 19
abbrev N_programmed : List Str := ["old", "word", "mask"]
theorem sc_programmed : FnScope N_programmed ["old", "word", "mask"] (defScope s_programmed) := ⟨rfl, rfl, rfl, by decide +kernel, rfl, by decide +kernel, by decide +kernel⟩
abbrev s_Chip_program : Stmt := inClass (topS 30) 2
abbrev N_Chip_program : List Str := ["self", "block", "page", "word", "is_bad", "erasures", "pages", "kind", "mask", "left"]
theorem sc_Chip_program : FnScope N_Chip_program ["self", "block", "page", "word"] (defScope s_Chip_program) := ⟨rfl, rfl, rfl, by decide +kernel, rfl, by decide +kernel, by decide +kernel⟩
abbrev s_Ltold : Stmt := topS 46
abbrev N_Ltold : List Str := ["_law_chip", "_law_deed_here"]
theorem sc_Ltold : FnScope N_Ltold ["_law_chip", "_law_deed_here"] (defScope s_Ltold) := ⟨rfl, rfl, rfl, by decide +kernel, rfl, by decide +kernel, by decide +kernel⟩
abbrev s_Lrefused : Stmt := topS 48
abbrev N_Lrefused : List Str := ["_law_chip", "_law_deed_here", "e"]
theorem sc_Lrefused : FnScope N_Lrefused ["_law_chip", "_law_deed_here"] (defScope s_Lrefused) := ⟨rfl, rfl, rfl, by decide +kernel, rfl, by decide +kernel, by decide +kernel⟩
abbrev s_Lnext : Stmt := topS 44
abbrev N_Lnext : List Str := ["_law_plain_here", "_law_one"]
theorem sc_Lnext : FnScope N_Lnext ["_law_plain_here"] (defScope s_Lnext) := ⟨rfl, rfl, rfl, by decide +kernel, rfl, by decide +kernel, by decide +kernel⟩
abbrev s_Lseen : Stmt := topS 43
abbrev N_Lseen : List Str := ["_law_plain_here", "_law_each"]
theorem sc_Lseen : FnScope N_Lseen ["_law_plain_here"] (defScope s_Lseen) := ⟨rfl, rfl, rfl, by decide +kernel, rfl, by decide +kernel, by decide +kernel⟩
abbrev s_Ldue : Stmt := topS 45
abbrev N_Ldue : List Str := ["_law_plain_here", "_law_deed_here", "_law_each", "_law_full", "_law_kind", "_law_mask_here", "_law_spot"]
theorem sc_Ldue : FnScope N_Ldue ["_law_plain_here", "_law_deed_here"] (defScope s_Ldue) := ⟨rfl, rfl, rfl, by decide +kernel, rfl, by decide +kernel, by decide +kernel⟩
abbrev s_first_wrong : Stmt := topS 11
abbrev N_first_wrong : List Str := ["values", "is_right", "index", "value"]
theorem sc_first_wrong : FnScope N_first_wrong ["values", "is_right"] (defScope s_first_wrong) := ⟨rfl, rfl, rfl, by decide +kernel, rfl, by decide +kernel, by decide +kernel⟩
abbrev s_is_row : Stmt := topS 24
abbrev N_is_row : List Str := ["value"]
theorem sc_is_row : FnScope N_is_row ["value"] (defScope s_is_row) := ⟨rfl, rfl, rfl, by decide +kernel, rfl, by decide +kernel, by decide +kernel⟩
abbrev s_is_block : Stmt := topS 25
abbrev N_is_block : List Str := ["value", "is_bad", "erasures", "pages"]
theorem sc_is_block : FnScope N_is_block ["value"] (defScope s_is_block) := ⟨rfl, rfl, rfl, by decide +kernel, rfl, by decide +kernel, by decide +kernel⟩
abbrev s_wrong_block_in : Stmt := topS 26
abbrev N_wrong_block_in : List Str := ["image"]
theorem sc_wrong_block_in : FnScope N_wrong_block_in ["image"] (defScope s_wrong_block_in) := ⟨rfl, rfl, rfl, by decide +kernel, rfl, by decide +kernel, by decide +kernel⟩
abbrev s_require_image : Stmt := topS 27
abbrev N_require_image : List Str := ["image", "wrong"]
theorem sc_require_image : FnScope N_require_image ["image"] (defScope s_require_image) := ⟨rfl, rfl, rfl, by decide +kernel, rfl, by decide +kernel, by decide +kernel⟩
abbrev s_is_outcome : Stmt := topS 28
abbrev N_is_outcome : List Str := ["value", "word"]
theorem sc_is_outcome : FnScope N_is_outcome ["value"] (defScope s_is_outcome) := ⟨rfl, rfl, rfl, by decide +kernel, rfl, by decide +kernel, by decide +kernel⟩
abbrev s_require_luck : Stmt := topS 29
abbrev N_require_luck : List Str := ["luck", "wrong"]
theorem sc_require_luck : FnScope N_require_luck ["luck"] (defScope s_require_luck) := ⟨rfl, rfl, rfl, by decide +kernel, rfl, by decide +kernel, by decide +kernel⟩
abbrev s_Chip_init : Stmt := inClass (topS 30) 0
abbrev N_Chip_init : List Str := ["self", "image", "luck"]
theorem sc_Chip_init : FnScope N_Chip_init ["self", "image", "luck"] (defScope s_Chip_init) := ⟨rfl, rfl, rfl, by decide +kernel, rfl, by decide +kernel, by decide +kernel⟩
abbrev s_Lround : Stmt := topS 49
abbrev N_Lround : List Str := ["_law_well_here", "_law_first", "_law_many", "_law_tall", "_law_chance", "_law_chip", "_law_twin", "_law_plain_here", "_law_turn", "_law_deed_here", "_law_at", "_law_bads", "_law_more", "_law_odd", "_law_wrong", "_law_spot", "_law_last"]
theorem sc_Lround : FnScope N_Lround ["_law_well_here", "_law_first"] (defScope s_Lround) := ⟨rfl, rfl, rfl, by decide +kernel, rfl, by decide +kernel, by decide +kernel⟩
abbrev s_Lright : Stmt := topS 50
abbrev N_Lright : List Str := ["_law_well_here", "_law_left", "_law_turn"]
theorem sc_Lright : FnScope N_Lright ["_law_well_here"] (defScope s_Lright) := ⟨rfl, rfl, rfl, by decide +kernel, rfl, by decide +kernel, by decide +kernel⟩
abbrev s_Lwell : Stmt := topS 32
abbrev N_Lwell : List Str := ["_law_script", "_law_turn", "_law_mixed", "_law_cell", "_law_own"]
theorem sc_Lwell : FnScope N_Lwell ["_law_script", "_law_turn"] (defScope s_Lwell) := ⟨rfl, rfl, rfl, by decide +kernel, rfl, by decide +kernel, by decide +kernel⟩
abbrev s_law : Stmt := topS 51
abbrev N_law : List Str := ["_law_script", "_law_turn"]
theorem sc_law : FnScope N_law ["_law_script"] (defScope s_law) := ⟨rfl, rfl, rfl, by decide +kernel, rfl, by decide +kernel, by decide +kernel⟩
/-! ### what the top has left -/
abbrev q_wrong_block_in : Str := (envOfC "wrong_block_in" (defScope s_wrong_block_in) 0 0 .none).qual ++ "<lambda>"
structure Txt (K : PySem.W.Frag) (mg : Str → Option Value) (base : Heap) where
  C_Chip : Addr
  gC_Chip : mg "Chip" = some (.ref C_Chip)
  cl_Chip : Cls K C_Chip
  na_Chip_blocks : NoAttr K C_Chip "_blocks"
  na_Chip_luck : NoAttr K C_Chip "_luck"
  na_Chip_begun : NoAttr K C_Chip "_begun"
  na_Chip_is_gone : NoAttr K C_Chip "_is_gone"
  C_PowerCut : Addr
  gC_PowerCut : mg "PowerCut" = some (.ref C_PowerCut)
  ex_PowerCut : ExC K C_PowerCut
  C_InvalidNumber : Addr
  gC_InvalidNumber : mg "InvalidNumber" = some (.ref C_InvalidNumber)
  C_InvalidPage : Addr
  gC_InvalidPage : mg "InvalidPage" = some (.ref C_InvalidPage)
  ap_InvalidNumber_PowerCut : PySem.W.exmOne K (.ref C_InvalidNumber) (.ref C_PowerCut) = some false
  ap_InvalidPage_PowerCut : PySem.W.exmOne K (.ref C_InvalidPage) (.ref C_PowerCut) = some false
  ap_InvalidPage_InvalidNumber : PySem.W.exmOne K (.ref C_InvalidPage) (.ref C_InvalidNumber) = some false
  C_wrong_block_in : Addr
  P_wrong_block_in : Addr
  TB_wrong_block_in : LamX.TabB base mg C_wrong_block_in P_wrong_block_in
  f_Ldraw : Addr
  fd_Ldraw : FuncData
  F_Ldraw : Fun K "_law_draw" "_law_draw" s_Ldraw f_Ldraw fd_Ldraw
  g_Ldraw : mg "_law_draw" = some (.ref f_Ldraw)
  bi_Ldraw : Binds K fd_Ldraw ["_law_well_here", "_law_many"] []
  f_Lones : Addr
  fd_Lones : FuncData
  F_Lones : Fun K "_law_ones" "_law_ones" s_Lones f_Lones fd_Lones
  g_Lones : mg "_law_ones" = some (.ref f_Lones)
  bi_Lones : Binds K fd_Lones ["_law_number"] []
  f_Lword : Addr
  fd_Lword : FuncData
  F_Lword : Fun K "_law_word" "_law_word" s_Lword f_Lword fd_Lword
  g_Lword : mg "_law_word" = some (.ref f_Lword)
  bi_Lword : Binds K fd_Lword ["_law_numbers"] []
  f_Lmask : Addr
  fd_Lmask : FuncData
  F_Lmask : Fun K "_law_mask" "_law_mask" s_Lmask f_Lmask fd_Lmask
  g_Lmask : mg "_law_mask" = some (.ref f_Lmask)
  bi_Lmask : Binds K fd_Lmask ["_law_well_here", "_law_wide"] []
  f_Lpage : Addr
  fd_Lpage : FuncData
  F_Lpage : Fun K "_law_page" "_law_page" s_Lpage f_Lpage fd_Lpage
  g_Lpage : mg "_law_page" = some (.ref f_Lpage)
  bi_Lpage : Binds K fd_Lpage ["_law_well_here"] []
  f_Limage : Addr
  fd_Limage : FuncData
  F_Limage : Fun K "_law_image" "_law_image" s_Limage f_Limage fd_Limage
  g_Limage : mg "_law_image" = some (.ref f_Limage)
  bi_Limage : Binds K fd_Limage ["_law_well_here"] []
  f_Loutcome : Addr
  fd_Loutcome : FuncData
  F_Loutcome : Fun K "_law_outcome" "_law_outcome" s_Loutcome f_Loutcome fd_Loutcome
  g_Loutcome : mg "_law_outcome" = some (.ref f_Loutcome)
  bi_Loutcome : Binds K fd_Loutcome ["_law_well_here", "_law_wide"] []
  f_Lluck : Addr
  fd_Lluck : FuncData
  F_Lluck : Fun K "_law_luck" "_law_luck" s_Lluck f_Lluck fd_Lluck
  g_Lluck : mg "_law_luck" = some (.ref f_Lluck)
  bi_Lluck : Binds K fd_Lluck ["_law_well_here", "_law_tall", "_law_often"] []
  f_Lpick : Addr
  fd_Lpick : FuncData
  F_Lpick : Fun K "_law_pick" "_law_pick" s_Lpick f_Lpick fd_Lpick
  g_Lpick : mg "_law_pick" = some (.ref f_Lpick)
  bi_Lpick : Binds K fd_Lpick ["_law_well_here", "_law_some"] []
  f_Lplain : Addr
  fd_Lplain : FuncData
  F_Lplain : Fun K "_law_plain" "_law_plain" s_Lplain f_Lplain fd_Lplain
  g_Lplain : mg "_law_plain" = some (.ref f_Lplain)
  bi_Lplain : Binds K fd_Lplain ["_law_image_here", "_law_chance"] []
  f_Ldeed : Addr
  fd_Ldeed : FuncData
  F_Ldeed : Fun K "_law_deed" "_law_deed" s_Ldeed f_Ldeed fd_Ldeed
  g_Ldeed : mg "_law_deed" = some (.ref f_Ldeed)
  bi_Ldeed : Binds K fd_Ldeed ["_law_well_here", "_law_many", "_law_tall"] []
  f_is_whole : Addr
  fd_is_whole : FuncData
  F_is_whole : Fun K "is_whole" "is_whole" s_is_whole f_is_whole fd_is_whole
  g_is_whole : mg "is_whole" = some (.ref f_is_whole)
  bi_is_whole : Binds K fd_is_whole ["value"] []
  f_is_between : Addr
  fd_is_between : FuncData
  F_is_between : Fun K "is_between" "is_between" s_is_between f_is_between fd_is_between
  g_is_between : mg "is_between" = some (.ref f_is_between)
  bi_is_between : Binds K fd_is_between ["value", "least", "most"] []
  f_is_page : Addr
  fd_is_page : FuncData
  F_is_page : Fun K "is_page" "is_page" s_is_page f_is_page fd_is_page
  g_is_page : mg "is_page" = some (.ref f_is_page)
  bi_is_page : Binds K fd_is_page ["value"] []
  f_InvalidPage_init : Addr
  fd_InvalidPage_init : FuncData
  F_InvalidPage_init : Fun K "__init__" "InvalidPage.__init__" s_InvalidPage_init f_InvalidPage_init fd_InvalidPage_init
  er_InvalidPage : Er K C_InvalidPage f_InvalidPage_init "given"
  bi_InvalidPage_init : Binds K fd_InvalidPage_init ["self", "given"] []
  f_require_page : Addr
  fd_require_page : FuncData
  F_require_page : Fun K "require_page" "require_page" s_require_page f_require_page fd_require_page
  g_require_page : mg "require_page" = some (.ref f_require_page)
  bi_require_page : Binds K fd_require_page ["value"] []
  f_is_from : Addr
  fd_is_from : FuncData
  F_is_from : Fun K "is_from" "is_from" s_is_from f_is_from fd_is_from
  g_is_from : mg "is_from" = some (.ref f_is_from)
  bi_is_from : Binds K fd_is_from ["value", "least"] []
  f_InvalidNumber_init : Addr
  fd_InvalidNumber_init : FuncData
  F_InvalidNumber_init : Fun K "__init__" "InvalidNumber.__init__" s_InvalidNumber_init f_InvalidNumber_init fd_InvalidNumber_init
  er_InvalidNumber : Er K C_InvalidNumber f_InvalidNumber_init "given"
  bi_InvalidNumber_init : Binds K fd_InvalidNumber_init ["self", "given"] []
  f_require_from : Addr
  fd_require_from : FuncData
  F_require_from : Fun K "require_from" "require_from" s_require_from f_require_from fd_require_from
  g_require_from : mg "require_from" = some (.ref f_require_from)
  bi_require_from : Binds K fd_require_from ["value", "least"] []
  f_erased : Addr
  fd_erased : FuncData
  F_erased : Fun K "erased" "erased" s_erased f_erased fd_erased
  g_erased : mg "erased" = some (.ref f_erased)
  bi_erased : Binds K fd_erased ["old", "mask"] []
  f_require_between : Addr
  fd_require_between : FuncData
  F_require_between : Fun K "require_between" "require_between" s_require_between f_require_between fd_require_between
  g_require_between : mg "require_between" = some (.ref f_require_between)
  bi_require_between : Binds K fd_require_between ["value", "least", "most"] []
  f_Chip_require_block_index : Addr
  fd_Chip_require_block_index : FuncData
  F_Chip_require_block_index : Fun K "_require_block_index" "Chip._require_block_index" s_Chip_require_block_index f_Chip_require_block_index fd_Chip_require_block_index
  m_Chip_require_block_index : Meth K C_Chip "_require_block_index" f_Chip_require_block_index
  bi_Chip_require_block_index : Binds K fd_Chip_require_block_index ["self", "block"] []
  f_Chip_require_power : Addr
  fd_Chip_require_power : FuncData
  F_Chip_require_power : Fun K "_require_power" "Chip._require_power" s_Chip_require_power f_Chip_require_power fd_Chip_require_power
  m_Chip_require_power : Meth K C_Chip "_require_power" f_Chip_require_power
  bi_Chip_require_power : Binds K fd_Chip_require_power ["self"] []
  f_Chip_next_outcome : Addr
  fd_Chip_next_outcome : FuncData
  F_Chip_next_outcome : Fun K "_next_outcome" "Chip._next_outcome" s_Chip_next_outcome f_Chip_next_outcome fd_Chip_next_outcome
  m_Chip_next_outcome : Meth K C_Chip "_next_outcome" f_Chip_next_outcome
  bi_Chip_next_outcome : Binds K fd_Chip_next_outcome ["self", "done_mask"] []
  f_Chip_settle : Addr
  fd_Chip_settle : FuncData
  F_Chip_settle : Fun K "_settle" "Chip._settle" s_Chip_settle f_Chip_settle fd_Chip_settle
  m_Chip_settle : Meth K C_Chip "_settle" f_Chip_settle
  bi_Chip_settle : Binds K fd_Chip_settle ["self", "block", "kind", "erasures", "pages"] []
  f_Chip_erase : Addr
  fd_Chip_erase : FuncData
  F_Chip_erase : Fun K "erase" "Chip.erase" s_Chip_erase f_Chip_erase fd_Chip_erase
  m_Chip_erase : Meth K C_Chip "erase" f_Chip_erase
  bi_Chip_erase : Binds K fd_Chip_erase ["self", "block"] []
  f_Chip_image : Addr
  fd_Chip_image : FuncData
  F_Chip_image : Fun K "image" "Chip.image" s_Chip_image f_Chip_image fd_Chip_image
  m_Chip_image : Meth K C_Chip "image" f_Chip_image
  bi_Chip_image : Binds K fd_Chip_image ["self"] []
  f_Chip_operations : Addr
  fd_Chip_operations : FuncData
  F_Chip_operations : Fun K "operations" "Chip.operations" s_Chip_operations f_Chip_operations fd_Chip_operations
  m_Chip_operations : Meth K C_Chip "operations" f_Chip_operations
  bi_Chip_operations : Binds K fd_Chip_operations ["self"] []
  f_Chip_is_cut : Addr
  fd_Chip_is_cut : FuncData
  F_Chip_is_cut : Fun K "is_cut" "Chip.is_cut" s_Chip_is_cut f_Chip_is_cut fd_Chip_is_cut
  m_Chip_is_cut : Meth K C_Chip "is_cut" f_Chip_is_cut
  bi_Chip_is_cut : Binds K fd_Chip_is_cut ["self"] []
  f_Chip_size : Addr
  fd_Chip_size : FuncData
  F_Chip_size : Fun K "size" "Chip.size" s_Chip_size f_Chip_size fd_Chip_size
  m_Chip_size : Meth K C_Chip "size" f_Chip_size
  bi_Chip_size : Binds K fd_Chip_size ["self"] []
  f_Chip_require_page_index : Addr
  fd_Chip_require_page_index : FuncData
  F_Chip_require_page_index : Fun K "_require_page_index" "Chip._require_page_index" s_Chip_require_page_index f_Chip_require_page_index fd_Chip_require_page_index
  m_Chip_require_page_index : Meth K C_Chip "_require_page_index" f_Chip_require_page_index
  bi_Chip_require_page_index : Binds K fd_Chip_require_page_index ["self", "block", "page"] []
  f_Chip_read : Addr
  fd_Chip_read : FuncData
  F_Chip_read : Fun K "read" "Chip.read" s_Chip_read f_Chip_read fd_Chip_read
  m_Chip_read : Meth K C_Chip "read" f_Chip_read
  bi_Chip_read : Binds K fd_Chip_read ["self", "block", "page"] []
  f_programmed : Addr
  fd_programmed : FuncData
  F_programmed : Fun K "programmed" "programmed" s_programmed f_programmed fd_programmed
  g_programmed : mg "programmed" = some (.ref f_programmed)
  bi_programmed : Binds K fd_programmed ["old", "word", "mask"] []
  f_Chip_program : Addr
  fd_Chip_program : FuncData
  F_Chip_program : Fun K "program" "Chip.program" s_Chip_program f_Chip_program fd_Chip_program
  m_Chip_program : Meth K C_Chip "program" f_Chip_program
  bi_Chip_program : Binds K fd_Chip_program ["self", "block", "page", "word"] []
  f_Ltold : Addr
  fd_Ltold : FuncData
  F_Ltold : Fun K "_law_told" "_law_told" s_Ltold f_Ltold fd_Ltold
  g_Ltold : mg "_law_told" = some (.ref f_Ltold)
  bi_Ltold : Binds K fd_Ltold ["_law_chip", "_law_deed_here"] []
  f_Lrefused : Addr
  fd_Lrefused : FuncData
  F_Lrefused : Fun K "_law_refused" "_law_refused" s_Lrefused f_Lrefused fd_Lrefused
  g_Lrefused : mg "_law_refused" = some (.ref f_Lrefused)
  bi_Lrefused : Binds K fd_Lrefused ["_law_chip", "_law_deed_here"] []
  f_Lnext : Addr
  fd_Lnext : FuncData
  F_Lnext : Fun K "_law_next" "_law_next" s_Lnext f_Lnext fd_Lnext
  g_Lnext : mg "_law_next" = some (.ref f_Lnext)
  bi_Lnext : Binds K fd_Lnext ["_law_plain_here"] []
  f_Lseen : Addr
  fd_Lseen : FuncData
  F_Lseen : Fun K "_law_seen" "_law_seen" s_Lseen f_Lseen fd_Lseen
  g_Lseen : mg "_law_seen" = some (.ref f_Lseen)
  bi_Lseen : Binds K fd_Lseen ["_law_plain_here"] []
  f_Ldue : Addr
  fd_Ldue : FuncData
  F_Ldue : Fun K "_law_due" "_law_due" s_Ldue f_Ldue fd_Ldue
  g_Ldue : mg "_law_due" = some (.ref f_Ldue)
  bi_Ldue : Binds K fd_Ldue ["_law_plain_here", "_law_deed_here"] []
  f_first_wrong : Addr
  fd_first_wrong : FuncData
  F_first_wrong : Fun K "first_wrong" "first_wrong" s_first_wrong f_first_wrong fd_first_wrong
  g_first_wrong : mg "first_wrong" = some (.ref f_first_wrong)
  bi_first_wrong : Binds K fd_first_wrong ["values", "is_right"] []
  f_is_row : Addr
  fd_is_row : FuncData
  F_is_row : Fun K "is_row" "is_row" s_is_row f_is_row fd_is_row
  g_is_row : mg "is_row" = some (.ref f_is_row)
  bi_is_row : Binds K fd_is_row ["value"] []
  f_is_block : Addr
  fd_is_block : FuncData
  F_is_block : Fun K "is_block" "is_block" s_is_block f_is_block fd_is_block
  g_is_block : mg "is_block" = some (.ref f_is_block)
  bi_is_block : Binds K fd_is_block ["value"] []
  f_wrong_block_in : Addr
  fd_wrong_block_in : FuncData
  F_wrong_block_in : Fun K "wrong_block_in" "wrong_block_in" s_wrong_block_in f_wrong_block_in fd_wrong_block_in
  g_wrong_block_in : mg "wrong_block_in" = some (.ref f_wrong_block_in)
  bi_wrong_block_in : Binds K fd_wrong_block_in ["image"] []
  FC_wrong_block_in : FunC K "wrong_block_in" "wrong_block_in" s_wrong_block_in f_wrong_block_in fd_wrong_block_in C_wrong_block_in
  f_require_image : Addr
  fd_require_image : FuncData
  F_require_image : Fun K "require_image" "require_image" s_require_image f_require_image fd_require_image
  g_require_image : mg "require_image" = some (.ref f_require_image)
  bi_require_image : Binds K fd_require_image ["image"] []
  f_is_outcome : Addr
  fd_is_outcome : FuncData
  F_is_outcome : Fun K "is_outcome" "is_outcome" s_is_outcome f_is_outcome fd_is_outcome
  g_is_outcome : mg "is_outcome" = some (.ref f_is_outcome)
  bi_is_outcome : Binds K fd_is_outcome ["value"] []
  f_require_luck : Addr
  fd_require_luck : FuncData
  F_require_luck : Fun K "require_luck" "require_luck" s_require_luck f_require_luck fd_require_luck
  g_require_luck : mg "require_luck" = some (.ref f_require_luck)
  bi_require_luck : Binds K fd_require_luck ["luck"] []
  f_Chip_init : Addr
  fd_Chip_init : FuncData
  F_Chip_init : Fun K "__init__" "Chip.__init__" s_Chip_init f_Chip_init fd_Chip_init
  mk_Chip : Mk K C_Chip f_Chip_init
  bi_Chip_init : Binds K fd_Chip_init ["self", "image", "luck"] []
  f_Lround : Addr
  fd_Lround : FuncData
  F_Lround : Fun K "_law_round" "_law_round" s_Lround f_Lround fd_Lround
  g_Lround : mg "_law_round" = some (.ref f_Lround)
  bi_Lround : Binds K fd_Lround ["_law_well_here", "_law_first"] []
  f_Lright : Addr
  fd_Lright : FuncData
  F_Lright : Fun K "_law_right" "_law_right" s_Lright f_Lright fd_Lright
  g_Lright : mg "_law_right" = some (.ref f_Lright)
  bi_Lright : Binds K fd_Lright ["_law_well_here"] []
  f_Lwell : Addr
  fd_Lwell : FuncData
  F_Lwell : Fun K "_law_well" "_law_well" s_Lwell f_Lwell fd_Lwell
  g_Lwell : mg "_law_well" = some (.ref f_Lwell)
  bi_Lwell : Binds K fd_Lwell ["_law_script", "_law_turn"] []
  f_law : Addr
  fd_law : FuncData
  F_law : Fun K "law" "law" s_law f_law fd_law
  g_law : mg "law" = some (.ref f_law)
  bi_law : Binds K fd_law ["_law_script"] []
  b_abs : mg "abs" = none
  b_all : mg "all" = none
  b_bool : mg "bool" = none
  b_divmod : mg "divmod" = none
  b_enumerate : mg "enumerate" = none
  b_int : mg "int" = none
  b_isinstance : mg "isinstance" = none
  b_len : mg "len" = none
  b_list : mg "list" = none
  b_range : mg "range" = none
  b_repr : mg "repr" = none
  b_str : mg "str" = none
  b_tuple : mg "tuple" = none
  t_BLANK : Tok
  c_BLANK : mg "BLANK" = some (.int BLv t_BLANK)
  t_LEAST : Tok
  c_LEAST : mg "LEAST" = some (.int 5 t_LEAST)
  t_MOST : Tok
  c_MOST : mg "MOST" = some (.int 12 t_MOST)
  t_WIDTH : Tok
  c_WIDTH : mg "WIDTH" = some (.int 522 t_WIDTH)
abbrev Txt.cs {K : PySem.W.Frag} {mg : Str → Option Value} {base : Heap} (T : Txt K mg base) : Cds := [(T.C_wrong_block_in, T.P_wrong_block_in, q_wrong_block_in)]
section
variable {P : Program} {w : World} {K : PySem.W.Frag} {mg : Str → Option Value} {base : Heap}
def spo_Ldraw (K : PySem.W.Frag) (cs : Cds) (C_Chip C_PowerCut C_InvalidNumber C_InvalidPage : Addr) : Sp := sp2 fun v m H Q => ∃ (W : Addr) (k : Nat), v = .ref W ∧ m = .int k ∧ Wl [.int 3] H W ∧ 0 < k ∧ k < 1073741824 ∧ ∀ (r : Nat) (H' : Hp), r < k → Sx W H H' → Wl [.int 3] H' W → Q (.int r) H'
abbrev sp_Ldraw (K : PySem.W.Frag) (cs : Cds) (C_Chip C_PowerCut C_InvalidNumber C_InvalidPage : Addr) : Sp := spo_Ldraw K cs C_Chip C_PowerCut C_InvalidNumber C_InvalidPage
theorem ok_Ldraw (T : Txt K mg base) : FnOk P w K mg base (L2.CX P w) 1 T.f_Ldraw T.fd_Ldraw ["_law_well_here", "_law_many"] (sp_Ldraw K T.cs T.C_Chip T.C_PowerCut T.C_InvalidNumber T.C_InvalidPage) := by
  refine T.F_Ldraw.okX sc_Ldraw len2 (fun cdv A outer s H vs Q E hr h => ?_)
  obtain ⟨a0, a1, rfl, h⟩ := h
  refine ⟨_, (pss_cons (ps_if (pt_cmpR op_gt (pe_ix ix_list (pv 0) pe_int (fun _ _ => rfl)) pe_int (nomark _)) (pss_cons (ps_asg (pe_callB cv_divmod (by rfl) T.b_divmod (by decide +kernel) (pa_cons (pe_ix ix_list (pv 0) pe_int (fun _ _ => rfl)) (pa_cons (pv 1) pa_nil))) (pg_tup (by rfl) (pgs_cons (pg_sub (pv 0) pe_int set_list) (pgs_cons (pg_name (i := 2) sc_Ldraw.nd rfl (.inl rfl)) pgs_nil))))
      (pss_one (ps_ret (pv 2)))) pss_nil)
    (pss_cons (ps_asg (pe_op op_add (pe_ix ix_list (pv 0) pe_int (fun _ _ => rfl)) pe_int) (pg_sub (pv 0) pe_int set_list))
    (pss_cons (ps_set (i := 3) sc_Ldraw.nd rfl (.inl rfl) (pe_op op_modN (pe_callTy cv_int (by rfl) T.b_int (by decide +kernel) (pa_cons (pe_op op_add (pe_ix ix_list (pv 0) pe_int (fun _ _ => rfl)) (pe_op op_mul pe_int (pe_ix ix_list (pv 0) pe_int (fun _ _ => rfl)))) pa_nil)) pe_int))
    (pss_cons (ps_asg (pe_op op_modN (pe_callTy cv_int (by rfl) T.b_int (by decide +kernel) (pa_cons (pe_op op_add (pe_op op_mul (pv 3) (pe_op op_add (pe_op op_modN (pe_callTy cv_int (by rfl) T.b_int (by decide +kernel) (pa_cons (pv 3) pa_nil)) pe_int) pe_int)) (pe_op op_mul pe_int (pe_ix ix_list (pv 0) pe_int (fun _ _ => rfl)))) pa_nil)) pe_int) (pg_sub (pv 0) pe_int set_list))
    (pss_one (ps_ret (pe_op op_modN (pe_callTy cv_int (by rfl) T.b_int (by decide +kernel) (pa_cons (pe_op op_fdivN (pe_ix ix_list (pv 0) pe_int (fun _ _ => rfl)) pe_int) pa_nil)) (pv 1)))))))), ?_⟩
  rw [show L2.start N_Ldraw [a0, a1] = [some a0, some a1, none, none] from rfl]
  obtain ⟨W, k, rfl, rfl, ⟨a, b, c, hW⟩, hk, hk2, q⟩ := h
  walk_at "vv"
  refine v_ixL (sqL_of hW) rfl ?_
  walk_at "vv"
  refine v_ifd (fun c0 => ?_) (fun c0 => ?_)
  · walk_at "vv"
    refine v_ixL (sqL_of hW) rfl ?_
    walk_at "vv"
    refine v_div ⟨by omega, PyProof.noPylong_small (by omega)⟩ (fun p hp => ?_)
    have hpW : W ≠ p := ne_of_none hW hp
    refine v_gtup (sqT_of upd_same) rfl ?_
    walk_at "vv"
    refine v_setL (by rw [upd_ne hpW]; exact hW) rfl ?_
    walk_at "vv"
    obtain ⟨n, hn⟩ := natOf (Int.emod_nonneg a (b := (k : Int)) (by omega))
    have hlt := Int.emod_lt_of_pos a (b := (k : Int)) (by omega)
    rw [hn] at hlt ⊢
    exact q n _ (by omega) ((Sx.new hp).trans Sx.mut) ⟨_, _, _, upd_same⟩
  · walk_at "vv"
    refine v_ixL (sqL_of hW) rfl ?_
    walk_at "vv"
    refine v_setL hW rfl ?_
    walk_at "vv"
    refine v_ixL (sqL_of upd_same) rfl ?_
    walk_at "vv"
    refine v_ixL (sqL_of upd_same) rfl ?_
    walk_at "vv"
    refine v_ixL (sqL_of upd_same) rfl ?_
    walk_at "vv"
    refine v_setL upd_same rfl ?_
    walk_at "vv"
    refine v_ixL (sqL_of upd_same) rfl ?_
    walk_at "vv"
    refine v_modN hk (fun r hr => ?_)
    exact q r _ hr (Sx.trans Sx.mut Sx.mut) ⟨_, _, _, upd_same⟩
def spo_Lones (K : PySem.W.Frag) (cs : Cds) (C_Chip C_PowerCut C_InvalidNumber C_InvalidPage : Addr) : Sp := sp1 fun v H Q => ∃ n : Nat, v = .int n ∧ n < 2 ^ 512 ∧ ∀ k : Nat, k ≤ 512 → Q (.int k) H
abbrev sp_Lones (K : PySem.W.Frag) (cs : Cds) (C_Chip C_PowerCut C_InvalidNumber C_InvalidPage : Addr) : Sp := spo_Lones K cs C_Chip C_PowerCut C_InvalidNumber C_InvalidPage
theorem ok_Lones (T : Txt K mg base) : FnOk P w K mg base (L2.CX P w) 1 T.f_Lones T.fd_Lones ["_law_number"] (sp_Lones K T.cs T.C_Chip T.C_PowerCut T.C_InvalidNumber T.C_InvalidPage) := by
  refine T.F_Lones.okX sc_Lones len1 (fun cdv A outer s H vs Q E hr h => ?_)
  obtain ⟨a0, rfl, h⟩ := h
  refine ⟨_, (pss_cons (ps_par (i := 1) (j := 2) (by rfl) sc_Lones.nd rfl rfl (by decide) rfl rfl (pa_cons pe_int (pa_cons (pv 0) pa_nil)) (by rfl))
    (pss_cons (ps_for (passes_of rfl) rfl (pi_range1 rfl T.b_range (pa_cons pe_int pa_nil)) (pg_name (i := 3) sc_Lones.nd rfl (.inl rfl))
      (pss_cons (ps_par (i := 2) (j := 4) (by rfl) sc_Lones.nd rfl rfl (by decide) rfl rfl (pa_cons (pe_op op_shr (pv 2) pe_int) (pa_cons (pe_op op_and (pv 2) pe_int) pa_nil)) (by rfl))
      (pss_one (ps_while (passes_of rfl) (pt_cmpR op_gt (pv 4) pe_int (nomark _)) (pss_one (ps_par (i := 4) (j := 1) (by rfl) sc_Lones.nd rfl rfl (by decide) rfl rfl (pa_cons (pe_op op_and (pv 4) (pe_op op_sub (pv 4) pe_int)) (pa_cons (pe_op op_add (pv 1) pe_int) pa_nil)) (by rfl)))))))
    (pss_one (ps_ret (pv 1))))), ?_⟩
  rw [show L2.start N_Lones [a0] = [some a0, none, none, none, none] from rfl]
  obtain ⟨n, rfl, hn, q⟩ := h
  walk_at "vv"
  refine ⟨66, rfl, by decide, by decide, ?_⟩
  refine for_range (lo := 0) (n := 66) (fun i σ H' => ∃ (l m : Nat) (y1 y2 : Option V), σ = [some (.int n), some (.int m), some (.int l), y1, y2] ∧ H' = H ∧ l < 2 ^ (512 - 8 * i) ∧ m ≤ 8 * i ∧ m ≤ 512)
    ⟨n, 0, none, none, rfl, rfl, hn, by omega, by omega⟩ ?_ ?_
  · rintro i σ H' hi ⟨l, m, y1, y2, rfl, rfl, hl, hm, hm2⟩
    rw [Int.zero_add]
    walk_at "vv"
    refine v_I (show (0 : Int) ≤ 8 by decide) ?_
    walk_at "vv"
    rw [show ((l : Int) / 2 ^ ((8 : Int).toNat)) = ((l / 256 : Nat) : Int) from by rw [show (2 : Int) ^ ((8 : Int).toNat) = ((256 : Nat) : Int) from rfl, Int.natCast_ediv], show ((255 : Int)) = ((255 : Nat) : Int) from rfl, bA,
      show (l &&& 255) = l % 256 from Nat.and_two_pow_sub_one_eq_mod l 8]
    have hlow : l % 256 < 2 ^ 8 := Nat.mod_lt _ (by decide)
    have ho : ones (l % 256) ≤ 8 := ones_le 8 _ hlow
    have hz : m + ones (l % 256) ≤ 8 * (i + 1) ∧ m + ones (l % 256) ≤ 512 := by
      rcases Nat.lt_or_ge i 64 with h | h
      · omega
      · have e : 512 - 8 * i = 0 := by omega
        rw [e] at hl
        have : l = 0 := by omega
        subst this
        have : ones (0 % 256) = 0 := by simp [ones]
        omega
    have hl2 : l / 256 < 2 ^ (512 - 8 * (i + 1)) := by
      rcases Nat.lt_or_ge i 64 with h | h
      · rw [show 512 - 8 * i = (512 - 8 * (i + 1)) + 8 by omega, Nat.pow_add] at hl
        exact (Nat.div_lt_iff_lt_mul (by decide)).mpr hl
      · have e : 512 - 8 * i = 0 := by omega
        rw [e] at hl
        have : l = 0 := by omega
        subst this
        exact Nat.pow_pos (by decide)
    refine v_while ⟨fun t σ H2 => ∃ m2 : Nat, σ = [some (.int n), some (.int m2), some (.int (l / 256 : Nat)), some (.int (i : Int)), some (.int t)] ∧ m2 + ones t = m + ones (l % 256) ∧ H2 = H', ⟨l % 256, m, rfl, rfl, rfl⟩, ?_⟩
    rintro t σ H'' ⟨m2, rfl, hm2', rfl⟩
    walk_at "vv"
    refine v_ifd (fun c => ?_) (fun c => ?_)
    · have ht : 0 < t := by omega
      refine ⟨fun σ' H3 => σ' = [some (.int n), some (.int ((m2 + 1 : Nat) : Int)), some (.int (l / 256 : Nat)), some (.int (i : Int)), some (.int ((t &&& (t - 1) : Nat) : Int))] ∧ H3 = H'', ?_, ?_⟩
      · rintro σ' H3 ⟨rfl, rfl⟩
        exact ⟨_, and_lt ht, _, rfl, by have := ones_drop ht; omega, rfl⟩
      · walk_at "vv"
        rw [show (t : Int) - 1 = ((t - 1 : Nat) : Int) by omega, bA]
        exact ⟨rfl, rfl⟩
    · have ht : t = 0 := by omega
      subst ht
      have e0 : ones 0 = 0 := by simp [ones]
      exact ⟨_, m2, _, _, rfl, rfl, hl2, by omega, by omega⟩
  · rintro σ H' ⟨l, m, y1, y2, rfl, rfl, hl, hm, hm2⟩
    dsimp only
    walk_at "vv"
    exact q m hm2
def spo_Lword (K : PySem.W.Frag) (cs : Cds) (C_Chip C_PowerCut C_InvalidNumber C_InvalidPage : Addr) : Sp := sp1 fun v H Q => ∃ (p : Addr) (ns : List Nat), v = .ref p ∧ SqT K H p (ns.map vN) ∧ ns.length ≤ 31 ∧ (∀ n ∈ ns, n < 65536) ∧ ∀ w : Nat, w < MX → Q (.int w) H
abbrev sp_Lword (K : PySem.W.Frag) (cs : Cds) (C_Chip C_PowerCut C_InvalidNumber C_InvalidPage : Addr) : Sp := spo_Lword K cs C_Chip C_PowerCut C_InvalidNumber C_InvalidPage
theorem ok_Lword (T : Txt K mg base) : FnOk P w K mg base (L2.CX P w) 2 T.f_Lword T.fd_Lword ["_law_numbers"] (sp_Lword K T.cs T.C_Chip T.C_PowerCut T.C_InvalidNumber T.C_InvalidPage) := by
  refine T.F_Lword.okX sc_Lword len1 (fun cdv A outer s H vs Q E hr h => ?_)
  obtain ⟨a0, rfl, h⟩ := h
  refine ⟨_, (pss_cons (ps_set (i := 1) sc_Lword.nd rfl (.inl rfl) (pe_callB cv_len (by rfl) T.b_len PySem.boot_len (pa_cons (pv 0) pa_nil)))
    (pss_cons (ps_for (passes_of rfl) rfl (pi_tup (pv 0)) (pg_name (i := 2) sc_Lword.nd rfl (.inl rfl))
      (pss_one (ps_set (i := 1) sc_Lword.nd rfl (.inl rfl) (pe_op op_add (pe_op op_mul (pv 1) pe_int) (pv 2)))))
    (pss_cons (ps_set (i := 1) sc_Lword.nd rfl (.inl rfl) (pe_op op_shlW (pv 1) (pe_op op_mul pe_int (pe_op op_sub pe_int (pe_callB cv_len (by rfl) T.b_len PySem.boot_len (pa_cons (pv 0) pa_nil))))))
    (pss_one (ps_ret (pe_op op_sub (pe_op op_add (pe_op op_mul (pv 1) pe_int) pe_int) (pe_call (ok_Lones T) (hr.mono (by decide)) (by rfl) T.g_Lones T.F_Lones.kp T.bi_Lones .nil (passes_call (E := E) (takes_of rfl rfl rfl rfl) (fun _ _ _ _ h => h)) (pa_cons (pv 1) pa_nil)))))))), ?_⟩
  rw [show L2.start N_Lword [a0] = [some a0, none, none] from rfl]
  obtain ⟨p, ns, rfl, hT, hl, hn, q⟩ := h
  walk_at "vv"
  refine v_lenT hT ?_
  walk_at "vv"
  refine ⟨⟨_, hT⟩, ?_⟩
  rw [List.length_map]
  refine for_tup (xs := ns.map vN) (fun i σ H' => ∃ y : Option V, σ = [some (.ref p), some (.int (((ns.take i).foldl (fun d x => d * 65536 + x) ns.length : Nat) : Int)), y] ∧ H' = H) ⟨none, rfl, rfl⟩ ?_ ?_ ?_
  · rintro i σ H' _ ⟨y, rfl, rfl⟩
    exact hT
  · rintro i x σ H' hx ⟨y, rfl, rfl⟩
    obtain ⟨n, hn2, rfl⟩ := vN_get hx
    walk_at "vv"
    refine ⟨some (vN n), ?_, rfl⟩
    rw [fold_take hn2]
    rfl
  · rintro σ H' ⟨y, rfl, rfl⟩
    rw [List.length_map, List.take_length]
    dsimp only
    walk_at "vv"
    refine v_lenT hT ?_
    walk_at "vv"
    rw [List.length_map, show (16 : Int) * (31 - (ns.length : Int)) = ((16 * (31 - ns.length) : Nat) : Int) by omega]
    have hf := fold_big hn hl
    refine v_I (shl_okN (d := fold ns) hf (by omega)) ?_
    rw [shlN, show List.foldl (fun d x => d * 65536 + x) ns.length ns * 2 ^ (16 * (31 - ns.length)) = dataOf ns from rfl]
    walk_at "vv"
    have hd := dataOf_lt hn hl
    refine c1 ⟨dataOf ns, rfl, hd, fun k hk => ?_⟩
    walk_at "vv"
    rw [show (((dataOf ns : Nat) : Int) * 1024 + 512 - (k : Int)) = ((dataOf ns * 1024 + 512 - k : Nat) : Int) by omega]
    refine q _ ?_
    have e : MX = 2 ^ 512 * 1024 := by decide +kernel
    rw [e]
    generalize (2 : Nat) ^ 512 = z at hd ⊢
    omega
def spo_Lmask (K : PySem.W.Frag) (cs : Cds) (C_Chip C_PowerCut C_InvalidNumber C_InvalidPage : Addr) : Sp := sp2 fun v w H Q => ∃ (W : Addr) (k : Nat), v = .ref W ∧ w = .int k ∧ 0 < k ∧ k ≤ 10000 ∧ Wl [.int 3] H W ∧ ∀ (m : Nat) (H' : Hp), m < 2 ^ k → Sx W H H' → Wl [.int 3] H' W → Q (.int m) H'
abbrev sp_Lmask (K : PySem.W.Frag) (cs : Cds) (C_Chip C_PowerCut C_InvalidNumber C_InvalidPage : Addr) : Sp := spo_Lmask K cs C_Chip C_PowerCut C_InvalidNumber C_InvalidPage
theorem ok_Lmask (T : Txt K mg base) : FnOk P w K mg base (L2.CX P w) 2 T.f_Lmask T.fd_Lmask ["_law_well_here", "_law_wide"] (sp_Lmask K T.cs T.C_Chip T.C_PowerCut T.C_InvalidNumber T.C_InvalidPage) := by
  refine T.F_Lmask.okX sc_Lmask len2 (fun cdv A outer s H vs Q E hr h => ?_)
  obtain ⟨a0, a1, rfl, h⟩ := h
  refine ⟨_, (pss_cons (ps_par (i := 2) (j := 3) (by rfl) sc_Lmask.nd rfl rfl (by decide) rfl rfl (pa_cons (pe_call (ok_Ldraw T) (hr.mono (by decide)) (by rfl) T.g_Ldraw T.F_Ldraw.kp T.bi_Ldraw .nil (passes_call (E := E) (takes_of rfl rfl rfl rfl) (fun _ _ _ _ h => h)) (pa_cons (pv 0) (pa_cons pe_int pa_nil))) (pa_cons (pe_op op_sub (pe_op op_shlW pe_int (pv 1)) pe_int) pa_nil)) (by rfl))
    (pss_cons (ps_if (pt_cmpR op_lt (pv 2) pe_int (nomark _)) (pss_one (ps_ret (pe_ifExp (pt_cmpR op_eq (pv 2) pe_int (nomark _)) (pv 3) pe_int))) pss_nil)
    (pss_cons (ps_if (pt_cmpR op_eq (pv 2) pe_int (nomark _)) (pss_one (ps_ret (pe_op op_xor (pv 3) (pe_op op_shlW pe_int (pe_call (ok_Ldraw T) (hr.mono (by decide)) (by rfl) T.g_Ldraw T.F_Ldraw.kp T.bi_Ldraw .nil (passes_call (E := E) (takes_of rfl rfl rfl rfl) (fun _ _ _ _ h => h)) (pa_cons (pv 0) (pa_cons (pv 1) pa_nil))))))) pss_nil)
    (pss_cons (ps_set (i := 4) sc_Lmask.nd rfl (.inl rfl) pe_int)
    (pss_cons (ps_for (passes_of rfl) rfl (pi_range1 rfl T.b_range (pa_cons (pe_ix ix_tup (pe_tup (pa_cons pe_int (pa_cons pe_int (pa_cons pe_int (pa_cons pe_int (pa_cons pe_int (pa_cons pe_int (pa_cons pe_int pa_nil)))))))) (pv 2) (fun _ _ => rfl)) pa_nil)) (pg_name (i := 5) sc_Lmask.nd rfl (.inl rfl))
      (pss_one (ps_set (i := 4) sc_Lmask.nd rfl (.inl rfl) (pe_op op_or (pv 4) (pe_op op_shlW pe_int (pe_call (ok_Ldraw T) (hr.mono (by decide)) (by rfl) T.g_Ldraw T.F_Ldraw.kp T.bi_Ldraw .nil (passes_call (E := E) (takes_of rfl rfl rfl rfl) (fun _ _ _ _ h => h)) (pa_cons (pv 0) (pa_cons (pv 1) pa_nil))))))))
    (pss_one (ps_ret (pe_ifExp (pt_cmpR op_lt (pv 2) pe_int (nomark _)) (pv 4) (pe_op op_modN (pe_callTy cv_int (by rfl) T.b_int (by decide +kernel) (pa_cons (pe_op op_add (pe_op op_add (pe_op op_mul (pe_op op_mulW (pv 4) (pv 4)) pe_int) (pe_op op_mul (pv 4) pe_int)) pe_int) pa_nil)) (pe_op op_shlW pe_int (pv 1))))))))))), ?_⟩
  rw [show L2.start N_Lmask [a0, a1] = [some a0, some a1, none, none, none, none] from rfl]
  obtain ⟨W, k, rfl, rfl, hk0, hk, hw, q⟩ := h
  have hpos : 0 < (2 : Nat) ^ k := Nat.pow_pos (by decide)
  walk_at "vv"
  refine c2 ⟨W, 7, rfl, rfl, hw, by decide, by decide, fun br H1 hbr s1 w1 => ?_⟩
  walk_at "vv"
  refine v_I (small_shl (n := 0) (by omega)) ?_
  walk_at "vv"
  rw [full_of]
  refine v_ifd (fun c => ?_) (fun c => ?_)
  · walk_at "vv"
    refine v_ifd (fun cb => ?_) (fun cb => ?_)
    · walk_at "vv"
      exact q _ H1 (by omega) s1 w1
    · walk_at "vv"
      exact q 0 H1 hpos s1 w1
  walk_at "vv"
  refine v_ifd (fun cb => ?_) (fun cb => ?_)
  · walk_at "vv"
    refine c2 ⟨W, k, rfl, rfl, w1, hk0, by omega, fun d H2 hd s2 w2 => ?_⟩
    refine v_I (small_shl (n := 0) (by omega)) ?_
    walk_at "vv"
    rw [shl1, bX]
    exact q _ H2 (lt_xor (n := k) (by omega) (lt_bit hd)) (s1.trans s2) w2
  walk_at "vv"
  refine a_tup (by simp) fun pt H2 hpt s2 e2 => ?_
  obtain ⟨n, hn, hat⟩ : ∃ n : Nat, n ≤ 9 ∧ atI [V.int 0, .int 0, .int 0, .int 1, .int 2, .int 6, .int 9] (br : Int) = some (.int (n : Int)) := by
    have hc : br = 3 ∨ br = 4 ∨ br = 5 ∨ br = 6 := by omega
    rcases hc with rfl | rfl | rfl | rfl
    · exact ⟨1, by omega, rfl⟩
    · exact ⟨2, by omega, rfl⟩
    · exact ⟨6, by omega, rfl⟩
    · exact ⟨9, by omega, rfl⟩
  walk_at "vv"
  refine v_ixT (sqT_of e2) hat ?_
  walk_at "vv"
  refine ⟨n, rfl, by omega, by omega, ?_⟩
  refine for_range (lo := 0) (n := n) (fun i σ H' => ∃ (m : Nat) (y : Option V), m < 2 ^ k ∧ σ = [some (.ref W), some (.int k), some (.int br), some (.int ((2 ^ k - 1 : Nat) : Int)), some (.int m), y] ∧ Sx W H H' ∧ Wl [.int 3] H' W)
    ⟨0, none, hpos, rfl, s1.trans (Sx.of s2), w1.of s2⟩ ?_ ?_
  · rintro i σ H3 hi ⟨m, y, hm, rfl, s3, w3⟩
    walk_at "vv"
    refine c2 ⟨W, k, rfl, rfl, w3, hk0, by omega, fun b H4 hb s4 w4 => ?_⟩
    refine v_I (small_shl (n := 0) (by omega)) ?_
    walk_at "vv"
    rw [shl1, bO]
    exact ⟨_, _, lt_or (n := k) hm (lt_bit hb), rfl, s3.trans s4, w4⟩
  · rintro σ H3 ⟨m, y, hm, rfl, s3, w3⟩
    dsimp only
    walk_at "vv"
    refine v_ifd (fun c => ?_) (fun c => ?_)
    · walk_at "vv"
      exact q m H3 hm s3 w3
    · walk_at "vv"
      refine v_I (wide_mul (a := k) (b := k) ?_ ?_ hk0 hk0 (by omega)) ?_
      · rw [Int.natAbs_natCast]; exact hm
      · rw [Int.natAbs_natCast]; exact hm
      · walk_at "vv"
        refine v_I (small_shl (n := 0) (by omega)) ?_
        rw [shl1]
        have hz := mod_ge (i := (m : Int) * m * 40503 + m * 7 + 1) (j := ((2 ^ k : Nat) : Int)) (by omega)
        obtain ⟨r, hr⟩ := natOf hz.1
        refine v_I (show ((2 ^ k : Nat) : Int) ≠ 0 by omega) ?_
        rw [hr] at hz ⊢
        exact q r H3 (by omega) s3 w3
def spo_Lpage (K : PySem.W.Frag) (cs : Cds) (C_Chip C_PowerCut C_InvalidNumber C_InvalidPage : Addr) : Sp := sp1 fun v H Q => ∃ W : Addr, v = .ref W ∧ Wl [.int 3] H W ∧ ∀ (m : Nat) (H' : Hp), m < MX → Sx W H H' → Wl [.int 3] H' W → Q (.int m) H'
abbrev sp_Lpage (K : PySem.W.Frag) (cs : Cds) (C_Chip C_PowerCut C_InvalidNumber C_InvalidPage : Addr) : Sp := spo_Lpage K cs C_Chip C_PowerCut C_InvalidNumber C_InvalidPage
theorem ok_Lpage (T : Txt K mg base) : FnOk P w K mg base (L2.CX P w) 3 T.f_Lpage T.fd_Lpage ["_law_well_here"] (sp_Lpage K T.cs T.C_Chip T.C_PowerCut T.C_InvalidNumber T.C_InvalidPage) := by
  refine T.F_Lpage.okX sc_Lpage len1 (fun cdv A outer s H vs Q E hr h => ?_)
  obtain ⟨a0, rfl, h⟩ := h
  refine ⟨_, (pss_cons (ps_set (i := 1) sc_Lpage.nd rfl (.inl rfl) (pe_call (ok_Ldraw T) (hr.mono (by decide)) (by rfl) T.g_Ldraw T.F_Ldraw.kp T.bi_Ldraw .nil (passes_call (E := E) (takes_of rfl rfl rfl rfl) (fun _ _ _ _ h => h)) (pa_cons (pv 0) (pa_cons pe_int pa_nil))))
    (pss_cons (ps_if (pt_cmpR op_eq (pv 1) pe_int (nomark _)) (pss_one (ps_ret (pe_op op_sub (pe_op op_shl pe_int pe_int) pe_int))) pss_nil)
    (pss_cons (ps_if (pt_cmpR op_lt (pv 1) pe_int (nomark _)) (pss_one (ps_ret (pe_call (ok_Lmask T) (hr.mono (by decide)) (by rfl) T.g_Lmask T.F_Lmask.kp T.bi_Lmask .nil (passes_call (E := E) (takes_of rfl rfl rfl rfl) (fun _ _ _ _ h => h)) (pa_cons (pv 0) (pa_cons pe_int pa_nil))))) pss_nil)
    (pss_cons (ps_set (i := 2) sc_Lpage.nd rfl (.inl rfl) (pe_lst pa_nil))
    (pss_cons (ps_for (passes_of rfl) rfl (pi_range1 rfl T.b_range (pa_cons (pe_call (ok_Ldraw T) (hr.mono (by decide)) (by rfl) T.g_Ldraw T.F_Ldraw.kp T.bi_Ldraw .nil (passes_call (E := E) (takes_of rfl rfl rfl rfl) (fun _ _ _ _ h => h)) (pa_cons (pv 0) (pa_cons pe_int pa_nil))) pa_nil)) (pg_name (i := 3) sc_Lpage.nd rfl (.inl rfl))
      (pss_one (ps_expr (pe_bm PySem.F.plainAttrs_list PySem.F.slot_list_append PySem.F.type_list_append mt_append (pv 2) (pa_cons (pe_call (ok_Ldraw T) (hr.mono (by decide)) (by rfl) T.g_Ldraw T.F_Ldraw.kp T.bi_Ldraw .nil (passes_call (E := E) (takes_of rfl rfl rfl rfl) (fun _ _ _ _ h => h)) (pa_cons (pv 0) (pa_cons pe_int pa_nil))) pa_nil)))))
    (pss_one (ps_ret (pe_call (ok_Lword T) (hr.mono (by decide)) (by rfl) T.g_Lword T.F_Lword.kp T.bi_Lword .nil (passes_call (E := E) (takes_of rfl rfl rfl rfl) (fun _ _ _ _ h => h)) (pa_cons (pe_callTy cv_tuple (by rfl) T.b_tuple (by decide +kernel) (pa_cons (pv 2) pa_nil)) pa_nil))))))))), ?_⟩
  rw [show L2.start N_Lpage [a0] = [some a0, none, none, none] from rfl]
  obtain ⟨W, rfl, hw, q⟩ := h
  have hMX := MX_pos
  walk_at "vv"
  refine c2 ⟨W, 4, rfl, rfl, hw, by decide, by decide, fun br H1 hbr s1 w1 => ?_⟩
  walk_at "vv"
  refine v_ifd (fun c => ?_) (fun c => ?_)
  · walk_at "vv"
    rw [full_eq]
    exact q FL H1 (by omega) s1 w1
  walk_at "vv"
  refine v_ifd (fun cb => ?_) (fun cb => ?_)
  · walk_at "vv"
    exact c2 ⟨W, 522, rfl, rfl, by decide, by decide, w1, fun m H2 hm s2 w2 => q m H2 hm (s1.trans s2) w2⟩
  walk_at "vv"
  refine a_lst (by simp) fun T0 H2 hT s2 e2 => ?_
  have nT : T0 ≠ W := w1.ne hT
  walk_at "vv"
  refine c2 ⟨W, 5, rfl, rfl, w1.of s2, by decide, by decide, fun n H3 hn s3 w3 => ?_⟩
  walk_at "vv"
  refine ⟨n, rfl, by omega, by omega, ?_⟩
  refine for_range (lo := 0) (n := n) (fun i σ H' => ∃ (ns : List Nat) (y : Option V), σ = [some (.ref W), some (.int br), some (.ref T0), y] ∧ ns.length = i ∧ (∀ x ∈ ns, x < 65536) ∧ H' T0 = some (.lst (ns.map vN)) ∧ Sx W H H' ∧ Wl [.int 3] H' W)
    ⟨[], none, rfl, rfl, by simp, s3 _ _ nT e2, s1.trans ((Sx.of s2).trans s3), w3⟩ ?_ ?_
  · rintro i σ H4 hi ⟨ns, y, rfl, hl, hm, e4, s4, w4⟩
    walk_at "vv"
    refine ⟨tyL e4, ?_⟩
    walk_at "vv"
    refine c2 ⟨W, 65536, rfl, rfl, w4, by decide, by decide, fun r H5 hr s5 w5 => ?_⟩
    walk_at "vv"
    refine v_append (s5 _ _ nT e4) (by rw [List.length_map]; omega) ?_
    refine ⟨ns ++ [r], _, rfl, by rw [List.length_append, hl]; rfl, ?_, by rw [upd_same, List.map_append]; rfl, (s4.trans s5).own (s1.free hT nT), ?_⟩
    · intro x hx
      rcases List.mem_append.mp hx with h | h
      · exact hm x h
      · rw [List.mem_singleton.mp h]; exact hr
    · obtain ⟨x, y, z, ew⟩ := w5
      exact ⟨x, y, z, by rw [upd_ne nT.symm]; exact ew⟩
  · rintro σ H4 ⟨ns, y, rfl, hl, hm, e4, s4, w4⟩
    dsimp only
    walk_at "vv"
    refine a_tupL (sqL_of e4) fun t H5 ht s5 e5 => ?_
    walk_at "vv"
    exact c1 ⟨t, ns, rfl, sqT_of e5, by omega, hm, fun w hw5 => q w H5 hw5 (s4.trans (Sx.of s5)) (w4.of s5)⟩
def spo_Limage (K : PySem.W.Frag) (cs : Cds) (C_Chip C_PowerCut C_InvalidNumber C_InvalidPage : Addr) : Sp := sp1 fun v H Q => ∃ W : Addr, v = .ref W ∧ Wl [.int 3] H W ∧ ∀ (p : Addr) (im : List Bk) (P : Nat) (H' : Hp), P ≤ 6 → TD K H' (.ref p) (.tup (im.map Bk.d)) → GI P im 0 → (∀ b ∈ im, b.er ≤ 7) → Sx W H H' → Wl [.int 3] H' W → Q (.ref p) H'
abbrev sp_Limage (K : PySem.W.Frag) (cs : Cds) (C_Chip C_PowerCut C_InvalidNumber C_InvalidPage : Addr) : Sp := spo_Limage K cs C_Chip C_PowerCut C_InvalidNumber C_InvalidPage
theorem ok_Limage (T : Txt K mg base) : FnOk P w K mg base (L2.CX P w) 4 T.f_Limage T.fd_Limage ["_law_well_here"] (sp_Limage K T.cs T.C_Chip T.C_PowerCut T.C_InvalidNumber T.C_InvalidPage) := by
  refine T.F_Limage.okX sc_Limage len1 (fun cdv A outer s H vs Q E hr h => ?_)
  obtain ⟨a0, rfl, h⟩ := h
  refine ⟨_, (pss_cons (ps_par (i := 1) (j := 2) (by rfl) sc_Limage.nd rfl rfl (by decide) rfl rfl (pa_cons (pe_lst pa_nil) (pa_cons (pe_op op_add pe_int (pe_call (ok_Ldraw T) (hr.mono (by decide)) (by rfl) T.g_Ldraw T.F_Ldraw.kp T.bi_Ldraw .nil (passes_call (E := E) (takes_of rfl rfl rfl rfl) (fun _ _ _ _ h => h)) (pa_cons (pv 0) (pa_cons pe_int pa_nil)))) pa_nil)) (by rfl))
    (pss_cons (ps_for (passes_of rfl) rfl (pi_range1 rfl T.b_range (pa_cons (pe_op op_add pe_int (pe_call (ok_Ldraw T) (hr.mono (by decide)) (by rfl) T.g_Ldraw T.F_Ldraw.kp T.bi_Ldraw .nil (passes_call (E := E) (takes_of rfl rfl rfl rfl) (fun _ _ _ _ h => h)) (pa_cons (pv 0) (pa_cons pe_int pa_nil)))) pa_nil)) (pg_name (i := 3) sc_Limage.nd rfl (.inl rfl))
      (pss_cons (ps_par (i := 4) (j := 5) (by rfl) sc_Limage.nd rfl rfl (by decide) rfl rfl (pa_cons (pe_lst pa_nil) (pa_cons (pe_call (ok_Ldraw T) (hr.mono (by decide)) (by rfl) T.g_Ldraw T.F_Ldraw.kp T.bi_Ldraw .nil (passes_call (E := E) (takes_of rfl rfl rfl rfl) (fun _ _ _ _ h => h)) (pa_cons (pv 0) (pa_cons pe_int pa_nil))) pa_nil)) (by rfl))
      (pss_cons (ps_for (passes_of rfl) rfl (pi_range1 rfl T.b_range (pa_cons (pv 2) pa_nil)) (pg_name (i := 6) sc_Limage.nd rfl (.inl rfl))
        (pss_one (ps_expr (pe_bm PySem.F.plainAttrs_list PySem.F.slot_list_append PySem.F.type_list_append mt_append (pv 4) (pa_cons (pe_ifExp (pt_cmpR op_lt (pv 5) pe_int (nomark _)) (pe_op op_sub (pe_op op_shl pe_int pe_int) pe_int) (pe_call (ok_Lpage T) (hr.mono (by decide)) (by rfl) T.g_Lpage T.F_Lpage.kp T.bi_Lpage .nil (passes_call (E := E) (takes_of rfl rfl rfl rfl) (fun _ _ _ _ h => h)) (pa_cons (pv 0) pa_nil))) pa_nil)))))
      (pss_one (ps_expr (pe_bm PySem.F.plainAttrs_list PySem.F.slot_list_append PySem.F.type_list_append mt_append (pv 1) (pa_cons (pe_tup (pa_cons (pe_cmpR op_eq (pe_call (ok_Ldraw T) (hr.mono (by decide)) (by rfl) T.g_Ldraw T.F_Ldraw.kp T.bi_Ldraw .nil (passes_call (E := E) (takes_of rfl rfl rfl rfl) (fun _ _ _ _ h => h)) (pa_cons (pv 0) (pa_cons pe_int pa_nil))) pe_int (nomark _)) (pa_cons (pe_ix ix_tup (pe_tup (pa_cons pe_int (pa_cons pe_int (pa_cons pe_int (pa_cons pe_int pa_nil))))) (pe_call (ok_Ldraw T) (hr.mono (by decide)) (by rfl) T.g_Ldraw T.F_Ldraw.kp T.bi_Ldraw .nil (passes_call (E := E) (takes_of rfl rfl rfl rfl) (fun _ _ _ _ h => h)) (pa_cons (pv 0) (pa_cons pe_int pa_nil))) (fun _ _ => rfl)) (pa_cons (pe_callTy cv_tuple (by rfl) T.b_tuple (by decide +kernel) (pa_cons (pv 4) pa_nil)) pa_nil)))) pa_nil)))))))
    (pss_one (ps_ret (pe_callTy cv_tuple (by rfl) T.b_tuple (by decide +kernel) (pa_cons (pv 1) pa_nil)))))), ?_⟩
  rw [show L2.start N_Limage [a0] = [some a0, none, none, none, none, none, none] from rfl]
  obtain ⟨W, rfl, hw, q⟩ := h
  have hMX := MX_pos
  walk_at "vv"
  refine a_lst (by simp) fun T0 H1 hT s1 e1 => ?_
  have nT : T0 ≠ W := hw.ne hT
  walk_at "vv"
  refine c2 ⟨W, 2, rfl, rfl, hw.of s1, by decide, by decide, fun d H2 hd s2 w2 => ?_⟩
  walk_at "vv"
  obtain ⟨P, hP, hP5, hP6⟩ : ∃ P : Nat, (5 : Int) + (d : Int) = (P : Int) ∧ 5 ≤ P ∧ P ≤ 6 := ⟨5 + d, by omega, by omega, by omega⟩
  rw [hP]
  refine c2 ⟨W, 3, rfl, rfl, w2, by decide, by decide, fun d2 H3 hd2 s3 w3 => ?_⟩
  walk_at "vv"
  obtain ⟨n, hn, hn5, hn7⟩ : ∃ n : Nat, (5 : Int) + (d2 : Int) = (n : Int) ∧ 5 ≤ n ∧ n ≤ 7 := ⟨5 + d2, by omega, by omega, by omega⟩
  rw [hn]
  refine ⟨n, rfl, by omega, by omega, ?_⟩
  refine for_range (lo := 0) (n := n) (fun i σ H' => ∃ (vs : List V) (im : List Bk) (y1 y2 y3 y4 : Option V), σ = [some (.ref W), some (.ref T0), some (.int P), y1, y2, y3, y4] ∧ im.length = i ∧ (∀ b ∈ im, GP P b.pg ∧ b.er ≤ 7) ∧ TDs K H' vs (im.map Bk.d) ∧ H' T0 = some (.lst vs) ∧ Sx W H H' ∧ Wl [.int 3] H' W)
    ⟨[], [], none, none, none, none, rfl, rfl, by simp, .nil, s3 _ _ nT (s2 _ _ nT e1), (Sx.of s1).trans (s2.trans s3), w3⟩ ?_ ?_
  · rintro i σ H4 hi ⟨vs, im, y1, y2, y3, y4, rfl, hl, hg, ht, e4, s4, w4⟩
    walk_at "vv"
    refine a_lst (by simp) fun S0 H5 hS s5 e5 => ?_
    have nS : S0 ≠ W := w4.ne hS
    have nTS : T0 ≠ S0 := ne_of_none e4 hS
    walk_at "vv"
    refine c2 ⟨W, 3, rfl, rfl, w4.of s5, by decide, by decide, fun br H6 hbr s6 w6 => ?_⟩
    walk_at "vv"
    refine ⟨P, rfl, by omega, by omega, ?_⟩
    have k46 : TK H4 H6 := (TK.same s5).trans (TK.sx (w4.of s5) s6)
    refine for_range (lo := 0) (n := P) (fun j σ H' => ∃ (ns : List Nat) (y4 : Option V), σ = [some (.ref W), some (.ref T0), some (.int P), some (.int (0 + (i : Int))), some (.ref S0), some (.int br), y4] ∧ ns.length = j ∧ (∀ x ∈ ns, x < MX) ∧ H' S0 = some (.lst (ns.map vN)) ∧ H' T0 = some (.lst vs) ∧ TK H4 H' ∧ Sx W H H' ∧ Wl [.int 3] H' W)
      ⟨[], y4, rfl, rfl, by simp, s6 _ _ nS e5, s6 _ _ nT (s5 _ _ e4), k46, s4.trans ((Sx.of s5).trans s6), w6⟩ ?_ ?_
    · rintro j σ H7 hj ⟨ns, y4, rfl, hl7, hm, eS, eT, k7, s7, w7⟩
      walk_at "vv"
      refine ⟨tyL eS, ?_⟩
      walk_at "vv"
      refine v_joinP (fun v H' => ∃ m : Nat, v = vN m ∧ m < MX ∧ Sx W H7 H' ∧ Wl [.int 3] H' W) (fun c Q' q' => ?_) (fun c Q' q' => ?_) (fun v H8 hv => ?_)
      · walk_at "vv"
        rw [full_eq]
        exact q' _ _ ⟨FL, rfl, by omega, fun _ _ _ e => e, w7⟩
      · walk_at "vv"
        exact c1 ⟨W, rfl, w7, fun m H8 hm8 s8 w8 => q' _ _ ⟨m, rfl, hm8, s8, w8⟩⟩
      obtain ⟨m, rfl, hm8, s8, w8⟩ := hv
      walk_at "vv"
      have eS8 := s8 _ _ nS eS
      refine v_append eS8 (by rw [List.length_map]; omega) ?_
      refine ⟨ns ++ [m], _, rfl, by rw [List.length_append, hl7]; rfl, ?_, by rw [upd_same, List.map_append]; rfl, by rw [upd_ne nTS]; exact s8 _ _ nT eT, k7.trans ((TK.sx w7 s8).trans (TK.mutL eS8)), ?_, ?_⟩
      · intro x hx
        rcases List.mem_append.mp hx with h | h
        · exact hm x h
        · rw [List.mem_singleton.mp h]; exact hm8
      · exact (s7.trans s8).own (s4.free hS nS)
      · obtain ⟨x, y, z, ew⟩ := w8
        exact ⟨x, y, z, by rw [upd_ne nS.symm]; exact ew⟩
    · rintro σ H7 ⟨ns, y4, rfl, hl7, hm, eS, eT, k7, s7, w7⟩
      dsimp only
      walk_at "vv"
      refine ⟨tyL eT, ?_⟩
      walk_at "vv"
      refine c2 ⟨W, 9, rfl, rfl, w7, by decide, by decide, fun r1 H8 hr1 s8 w8 => ?_⟩
      walk_at "vv"
      refine a_tup (by simp) fun pt H9 hpt s9 e9 => ?_
      walk_at "vv"
      refine c2 ⟨W, 4, rfl, rfl, w8.of s9, by decide, by decide, fun r2 H10 hr2 s10 w10 => ?_⟩
      have e10 : H10 pt = some (.tup [.int 0, .int 0, .int 1, .int 7]) := s10 _ _ (w8.ne hpt) e9
      obtain ⟨er, her, hat⟩ : ∃ er : Nat, er ≤ 7 ∧ atI [V.int 0, .int 0, .int 1, .int 7] (r2 : Int) = some (.int (er : Int)) := by
        have hc : r2 = 0 ∨ r2 = 1 ∨ r2 = 2 ∨ r2 = 3 := by omega
        rcases hc with rfl | rfl | rfl | rfl
        · exact ⟨0, by omega, rfl⟩
        · exact ⟨0, by omega, rfl⟩
        · exact ⟨1, by omega, rfl⟩
        · exact ⟨7, by omega, rfl⟩
      refine v_ixT (sqT_of e10) hat ?_
      walk_at "vv"
      have e10S := s10 _ _ nS (s9 _ _ (s8 _ _ nS eS))
      refine a_tupL (sqL_of e10S) fun tp H11 htp s11 e11 => ?_
      walk_at "vv"
      refine a_tup (by simp) fun bp H12 hbp s12 e12 => ?_
      have k12 : TK H4 H12 := k7.trans ((TK.sx w7 s8).trans ((TK.same s9).trans ((TK.sx (w8.of s9) s10).trans ((TK.same s11).trans (TK.same s12)))))
      have e12T := s12 _ _ (s11 _ _ (s10 _ _ nT (s9 _ _ (s8 _ _ nT eT))))
      have hlv : vs.length = i := by rw [ht.len, List.length_map, hl]
      walk_at "vv"
      refine v_append e12T (by omega) ?_
      refine ⟨vs ++ [.ref bp], im ++ [⟨decide (r1 = 0), er, ns⟩], _, _, _, _, rfl, by rw [List.length_append, hl]; rfl, ?_, ?_, upd_same, ?_, ?_⟩
      · intro b hb
        rcases List.mem_append.mp hb with h | h
        · exact hg b h
        · rw [List.mem_singleton.mp h]; exact ⟨⟨hl7, hm⟩, her⟩
      · rw [List.map_append]
        have eb : SqT K H12 bp [.bl (decide (r1 = 0)), .int (er : Int), .ref tp] := by
          have := sqT_of (K := K) e12
          simpa using this
        exact ((ht.tk k12).app (.cons (td_mk (b := ⟨decide (r1 = 0), er, ns⟩) eb (sqT_of (s12 _ _ e11))) .nil)).tk (TK.mutL e12T)
      · exact (s7.trans (s8.trans ((Sx.of s9).trans (s10.trans ((Sx.of s11).trans (Sx.of s12)))))).own hT
      · obtain ⟨x, y, z, ew⟩ := (w10.of s11).of s12
        exact ⟨x, y, z, by rw [upd_ne nT.symm]; exact ew⟩
  · rintro σ H4 ⟨vs, im, y1, y2, y3, y4, rfl, hl, hg, ht, e4, s4, w4⟩
    dsimp only
    walk_at "vv"
    refine a_tupL (sqL_of e4) fun t H5 ht5 s5 e5 => ?_
    exact q t im P H5 hP6 (.tup (sqT_of e5) (ht.tk (TK.same s5))) ⟨by omega, by omega, hP5, by omega, by omega, fun b hb => ⟨(hg b hb).1, by have := (hg b hb).2; omega⟩⟩ (fun b hb => (hg b hb).2) (s4.trans (Sx.of s5)) (w4.of s5)
def spo_Loutcome (K : PySem.W.Frag) (cs : Cds) (C_Chip C_PowerCut C_InvalidNumber C_InvalidPage : Addr) : Sp := sp2 fun v w H Q => ∃ (W : Addr) (k : Nat), v = .ref W ∧ w = .int k ∧ 0 < k ∧ k ≤ 10000 ∧ Wl [.int 3] H W ∧ ∀ (p : Addr) (o : Oc) (H' : Hp), TD K H' (.ref p) o.d → Sx W H H' → Wl [.int 3] H' W → Q (.ref p) H'
abbrev sp_Loutcome (K : PySem.W.Frag) (cs : Cds) (C_Chip C_PowerCut C_InvalidNumber C_InvalidPage : Addr) : Sp := spo_Loutcome K cs C_Chip C_PowerCut C_InvalidNumber C_InvalidPage
theorem ok_Loutcome (T : Txt K mg base) : FnOk P w K mg base (L2.CX P w) 3 T.f_Loutcome T.fd_Loutcome ["_law_well_here", "_law_wide"] (sp_Loutcome K T.cs T.C_Chip T.C_PowerCut T.C_InvalidNumber T.C_InvalidPage) := by
  refine T.F_Loutcome.okX sc_Loutcome len2 (fun cdv A outer s H vs Q E hr h => ?_)
  obtain ⟨a0, a1, rfl, h⟩ := h
  refine ⟨_, (pss_cons (ps_set (i := 2) sc_Loutcome.nd rfl (.inl rfl) (pe_call (ok_Ldraw T) (hr.mono (by decide)) (by rfl) T.g_Ldraw T.F_Ldraw.kp T.bi_Ldraw .nil (passes_call (E := E) (takes_of rfl rfl rfl rfl) (fun _ _ _ _ h => h)) (pa_cons (pv 0) (pa_cons pe_int pa_nil))))
    (pss_cons (ps_if (pt_cmpR op_lt (pv 2) pe_int (nomark _)) (pss_one (ps_ret (pe_tup (pa_cons pe_str pa_nil)))) pss_nil)
    (pss_cons (ps_set (i := 3) sc_Loutcome.nd rfl (.inl rfl) (pe_call (ok_Lmask T) (hr.mono (by decide)) (by rfl) T.g_Lmask T.F_Lmask.kp T.bi_Lmask .nil (passes_call (E := E) (takes_of rfl rfl rfl rfl) (fun _ _ _ _ h => h)) (pa_cons (pv 0) (pa_cons (pe_ifExp (pt_cmpR op_eq (pe_call (ok_Ldraw T) (hr.mono (by decide)) (by rfl) T.g_Ldraw T.F_Ldraw.kp T.bi_Ldraw .nil (passes_call (E := E) (takes_of rfl rfl rfl rfl) (fun _ _ _ _ h => h)) (pa_cons (pv 0) (pa_cons pe_int pa_nil))) pe_int (nomark _)) (pv 1) pe_int) pa_nil))))
    (pss_one (ps_ret (pe_tup (pa_cons (pe_ifExp (PW.pt (pw_and (pt_cmpR op_eq (pv 2) pe_int (nomark _)) (pw_and1 (pt_cmpR op_eq (pe_call (ok_Ldraw T) (hr.mono (by decide)) (by rfl) T.g_Ldraw T.F_Ldraw.kp T.bi_Ldraw .nil (passes_call (E := E) (takes_of rfl rfl rfl rfl) (fun _ _ _ _ h => h)) (pa_cons (pv 0) (pa_cons pe_int pa_nil))) pe_int (nomark _))))) pe_str (pe_ifExp (pt_cmpR op_eq (pv 2) pe_int (nomark _)) pe_str pe_str)) (pa_cons (pv 3) pa_nil)))))))), ?_⟩
  rw [show L2.start N_Loutcome [a0, a1] = [some a0, some a1, none, none] from rfl]
  obtain ⟨W, k, rfl, rfl, hk0, hk, hw, q⟩ := h
  walk_at "vv"
  refine c2 ⟨W, 5, rfl, rfl, hw, by decide, by decide, fun br H1 hbr s1 w1 => ?_⟩
  walk_at "vv"
  refine v_ifd (fun c => ?_) (fun c => ?_)
  · walk_at "vv"
    refine a_tup (by simp) fun p H2 hp s2 e2 => ?_
    exact q p .done H2 (.tup (sqT_of e2) (.cons (.str _) .nil)) (s1.trans (Sx.of s2)) (w1.of s2)
  walk_at "vv"
  refine c2 ⟨W, 2, rfl, rfl, w1, by decide, by decide, fun r H2 hr s2 w2 => ?_⟩
  walk_at "vv"
  refine v_joinN (fun o => 0 < o ∧ o ≤ 10000) (fun c Q' q' => ?_) (fun c Q' q' => ?_) (fun wd hwd => ?_)
  · walk_at "vv"
    exact q' k ⟨hk0, hk⟩
  · walk_at "vv"
    exact q' 522 ⟨by decide, by decide⟩
  walk_at "vv"
  refine c2 ⟨W, wd, rfl, rfl, hwd.1, hwd.2, w2, fun m H3 hm s3 w3 => ?_⟩
  have s13 := s1.trans (s2.trans s3)
  have fin : ∀ (b : Bool) (H4 : Hp), Sx W H H4 → Wl [.int 3] H4 W → ∀ p H5, H4 p = none → Same H4 H5 → H5 p = some (.tup [.str (if b then "cut" else "fails"), .int (m : Int)]) → Q (.ref p) H5 := fun b H4 s4 w4 p H5 hp s5 e5 => by
    cases b with
    | true => exact q p (.cut m) H5 (.tup (sqT_of e5) (.cons (.str _) (.cons (.int _) .nil))) (s4.trans (Sx.of s5)) (w4.of s5)
    | false => exact q p (.fails m) H5 (.tup (sqT_of e5) (.cons (.str _) (.cons (.int _) .nil))) (s4.trans (Sx.of s5)) (w4.of s5)
  walk_at "vv"
  refine v_ifd (fun cb => ?_) (fun cb => ?_)
  · walk_at "vv"
    refine c2 ⟨W, 3, rfl, rfl, w3, by decide, by decide, fun r2 H4 hr2 s4 w4 => ?_⟩
    walk_at "vv"
    refine v_ifd (fun c3 => ?_) (fun c3 => ?_)
    · walk_at "vv"
      exact a_tup (by simp) fun p H5 hp s5 e5 => fin true H4 (s13.trans s4) w4 p H5 hp s5 e5
    · walk_at "vv"
      refine v_ifd (fun c4 => ?_) (fun c4 => ?_)
      · walk_at "vv"
        exact a_tup (by simp) fun p H5 hp s5 e5 => fin false H4 (s13.trans s4) w4 p H5 hp s5 e5
      · walk_at "vv"
        exact a_tup (by simp) fun p H5 hp s5 e5 => fin true H4 (s13.trans s4) w4 p H5 hp s5 e5
  · walk_at "vv"
    refine v_ifd (fun c4 => ?_) (fun c4 => ?_)
    · walk_at "vv"
      exact a_tup (by simp) fun p H5 hp s5 e5 => fin false H3 s13 w3 p H5 hp s5 e5
    · walk_at "vv"
      exact a_tup (by simp) fun p H5 hp s5 e5 => fin true H3 s13 w3 p H5 hp s5 e5
def spo_Lluck (K : PySem.W.Frag) (cs : Cds) (C_Chip C_PowerCut C_InvalidNumber C_InvalidPage : Addr) : Sp := sp3 fun v t f H Q => ∃ (W : Addr) (k j : Nat), v = .ref W ∧ t = .int k ∧ f = .int j ∧ 0 < k ∧ k ≤ 12 ∧ 0 < j ∧ j ≤ 100 ∧ Wl [.int 3] H W ∧ ∀ (p : Addr) (os : List Oc) (H' : Hp), os.length ≤ 8 → TD K H' (.ref p) (.tup (os.map Oc.d)) → Sx W H H' → Wl [.int 3] H' W → Q (.ref p) H'
abbrev sp_Lluck (K : PySem.W.Frag) (cs : Cds) (C_Chip C_PowerCut C_InvalidNumber C_InvalidPage : Addr) : Sp := spo_Lluck K cs C_Chip C_PowerCut C_InvalidNumber C_InvalidPage
theorem ok_Lluck (T : Txt K mg base) : FnOk P w K mg base (L2.CX P w) 4 T.f_Lluck T.fd_Lluck ["_law_well_here", "_law_tall", "_law_often"] (sp_Lluck K T.cs T.C_Chip T.C_PowerCut T.C_InvalidNumber T.C_InvalidPage) := by
  refine T.F_Lluck.okX sc_Lluck len3 (fun cdv A outer s H vs Q E hr h => ?_)
  obtain ⟨a0, a1, a2, rfl, h⟩ := h
  refine ⟨_, (pss_cons (ps_set (i := 3) sc_Lluck.nd rfl (.inl rfl) (pe_lst pa_nil))
    (pss_cons (ps_for (passes_of rfl) rfl (pi_range1 rfl T.b_range (pa_cons (pe_call (ok_Ldraw T) (hr.mono (by decide)) (by rfl) T.g_Ldraw T.F_Ldraw.kp T.bi_Ldraw .nil (passes_call (E := E) (takes_of rfl rfl rfl rfl) (fun _ _ _ _ h => h)) (pa_cons (pv 0) (pa_cons pe_int pa_nil))) pa_nil)) (pg_name (i := 4) sc_Lluck.nd rfl (.inl rfl))
      (pss_cons (ps_set (i := 5) sc_Lluck.nd rfl (.inl rfl) (pe_call (ok_Loutcome T) (hr.mono (by decide)) (by rfl) T.g_Loutcome T.F_Loutcome.kp T.bi_Loutcome .nil (passes_call (E := E) (takes_of rfl rfl rfl rfl) (fun _ _ _ _ h => h)) (pa_cons (pv 0) (pa_cons (pe_op op_mul pe_int (pv 1)) pa_nil))))
      (pss_one (ps_expr (pe_bm PySem.F.plainAttrs_list PySem.F.slot_list_append PySem.F.type_list_append mt_append (pv 3) (pa_cons (pe_ifExp (pt_cmpR op_eq (pe_call (ok_Ldraw T) (hr.mono (by decide)) (by rfl) T.g_Ldraw T.F_Ldraw.kp T.bi_Ldraw .nil (passes_call (E := E) (takes_of rfl rfl rfl rfl) (fun _ _ _ _ h => h)) (pa_cons (pv 0) (pa_cons (pv 2) pa_nil))) pe_int (nomark _)) (pv 5) (pe_tup (pa_cons pe_str pa_nil))) pa_nil))))))
    (pss_one (ps_ret (pe_callTy cv_tuple (by rfl) T.b_tuple (by decide +kernel) (pa_cons (pv 3) pa_nil)))))), ?_⟩
  rw [show L2.start N_Lluck [a0, a1, a2] = [some a0, some a1, some a2, none, none, none] from rfl]
  obtain ⟨W, k, j, rfl, rfl, rfl, hk0, hk, hj0, hj, hw, q⟩ := h
  walk_at "vv"
  refine a_lst (by simp) fun T0 H1 hT s1 e1 => ?_
  have nT : T0 ≠ W := hw.ne hT
  walk_at "vv"
  refine c2 ⟨W, 9, rfl, rfl, hw.of s1, by decide, by decide, fun n H2 hn s2 w2 => ?_⟩
  walk_at "vv"
  refine ⟨n, rfl, by omega, by omega, ?_⟩
  refine for_range (lo := 0) (n := n) (fun i σ H' => ∃ (vs : List V) (os : List Oc) (y1 y2 : Option V), σ = [some (.ref W), some (.int k), some (.int j), some (.ref T0), y1, y2] ∧ os.length = i ∧ TDs K H' vs (os.map Oc.d) ∧ H' T0 = some (.lst vs) ∧ Sx W H H' ∧ Wl [.int 3] H' W)
    ⟨[], [], none, none, rfl, rfl, .nil, s2 _ _ nT e1, (Sx.of s1).trans s2, w2⟩ ?_ ?_
  · rintro i σ H3 hi ⟨vs, os, y1, y2, rfl, hl, ht, e3, s3, w3⟩
    walk_at "vv"
    rw [show (522 : Int) * (k : Int) = ((522 * k : Nat) : Int) by omega]
    refine c2 ⟨W, 522 * k, rfl, rfl, by omega, by omega, w3, fun p o H4 ho s4 w4 => ?_⟩
    walk_at "vv"
    refine ⟨tyL (s4 _ _ nT e3), ?_⟩
    walk_at "vv"
    refine c2 ⟨W, j, rfl, rfl, w4, hj0, by omega, fun r H5 hr s5 w5 => ?_⟩
    have k35 := (TK.sx w3 s4).trans (TK.sx w4 s5)
    have fin : ∀ (p : Addr) (o : Oc) (H6 : Hp), TD K H6 (.ref p) o.d → Same H5 H6 → ∃ (vs' : List V) (os' : List Oc) (y1 y2 : Option V), [some (V.ref W), some (V.int k), some (V.int j), some (V.ref T0), some (V.int (0 + (i : Int))), y2] = [some (V.ref W), some (.int k), some (.int j), some (.ref T0), y1, y2] ∧ os'.length = i + 1 ∧ TDs K (upd H6 T0 (.lst (vs ++ [.ref p]))) vs' (os'.map Oc.d) ∧ upd H6 T0 (.lst (vs ++ [.ref p])) T0 = some (.lst vs') ∧ Sx W H (upd H6 T0 (.lst (vs ++ [.ref p]))) ∧ Wl [.int 3] (upd H6 T0 (.lst (vs ++ [.ref p]))) W := fun p o H6 ho s6 => by
      have e6 := s6 _ _ (s5 _ _ nT (s4 _ _ nT e3))
      refine ⟨vs ++ [.ref p], os ++ [o], _, none, rfl, by rw [List.length_append, hl]; rfl, ?_, upd_same, (s3.trans (s4.trans (s5.trans (Sx.of s6)))).own hT, ?_⟩
      · rw [List.map_append]
        exact ((ht.tk (k35.trans (TK.same s6))).app (.cons ho .nil)).tk (TK.mutL e6)
      · obtain ⟨x, y, z, ew⟩ := w5.of s6
        exact ⟨x, y, z, by rw [upd_ne nT.symm]; exact ew⟩
    have hlen : vs.length = i := by rw [ht.len, List.length_map, hl]
    walk_at "vv"
    refine v_joinP (fun v H' => ∃ (p : Addr) (o : Oc), v = .ref p ∧ TD K H' (.ref p) o.d ∧ Same H5 H') (fun c Q' q' => ?_) (fun c Q' q' => ?_) (fun v H6 hv => ?_)
    · walk_at "vv"
      exact q' _ _ ⟨p, o, rfl, ho.tk (TK.sx w4 s5), fun _ _ e => e⟩
    · walk_at "vv"
      exact a_tup (by simp) fun p2 H6 hp6 s6 e6 => q' _ _ ⟨p2, .done, rfl, .tup (sqT_of e6) (.cons (.str _) .nil), s6⟩
    obtain ⟨p2, o2, rfl, ho2, s6⟩ := hv
    walk_at "vv"
    refine v_append (s6 _ _ (s5 _ _ nT (s4 _ _ nT e3))) (by omega) ?_
    obtain ⟨a1, a2, a3, a4, a5, a6, a7, a8, a9, a10⟩ := fin p2 o2 H6 ho2 s6
    exact ⟨a1, a2, _, _, rfl, a6, a7, a8, a9, a10⟩
  · rintro σ H3 ⟨vs, os, y1, y2, rfl, hl, ht, e3, s3, w3⟩
    dsimp only
    walk_at "vv"
    refine a_tupL (sqL_of e3) fun t H4 ht4 s4 e4 => ?_
    exact q t os H4 (by omega) (.tup (sqT_of e4) (ht.tk (TK.same s4))) (s3.trans (Sx.of s4)) (w3.of s4)
def spo_Lpick (K : PySem.W.Frag) (cs : Cds) (C_Chip C_PowerCut C_InvalidNumber C_InvalidPage : Addr) : Sp := sp2 fun v t H Q => ∃ (W p : Addr) (xs : List V), v = .ref W ∧ t = .ref p ∧ (SqL K H p xs ∨ SqT K H p xs) ∧ p ≠ W ∧ Wl [.int 3] H W ∧ 0 < xs.length ∧ xs.length < 1000 ∧ ∀ (x : V) (H' : Hp), x ∈ xs → Sx W H H' → Wl [.int 3] H' W → Q x H'
abbrev sp_Lpick (K : PySem.W.Frag) (cs : Cds) (C_Chip C_PowerCut C_InvalidNumber C_InvalidPage : Addr) : Sp := spo_Lpick K cs C_Chip C_PowerCut C_InvalidNumber C_InvalidPage
theorem ok_Lpick (T : Txt K mg base) : FnOk P w K mg base (L2.CX P w) 2 T.f_Lpick T.fd_Lpick ["_law_well_here", "_law_some"] (sp_Lpick K T.cs T.C_Chip T.C_PowerCut T.C_InvalidNumber T.C_InvalidPage) := by
  refine T.F_Lpick.okX sc_Lpick len2 (fun cdv A outer s H vs Q E hr h => ?_)
  obtain ⟨a0, a1, rfl, h⟩ := h
  refine ⟨_, (pss_one (ps_ret (pe_ix ix_seq (pv 1) (pe_call (ok_Ldraw T) (hr.mono (by decide)) (by rfl) T.g_Ldraw T.F_Ldraw.kp T.bi_Ldraw .nil (passes_call (E := E) (takes_of rfl rfl rfl rfl) (fun _ _ _ _ h => h)) (pa_cons (pv 0) (pa_cons (pe_callB cv_len (by rfl) T.b_len PySem.boot_len (pa_cons (pv 1) pa_nil)) pa_nil))) (fun _ _ => rfl)))), ?_⟩
  rw [show L2.start N_Lpick [a0, a1] = [some a0, some a1] from rfl]
  obtain ⟨W, p, xs, rfl, rfl, hS, hne, hw, h0, h1, q⟩ := h
  walk_at "vv"
  refine ⟨p, xs, rfl, hS, ?_⟩
  walk_at "vv"
  refine c2 ⟨W, xs.length, rfl, rfl, hw, h0, by omega, fun r H1 hr s1 w1 => ?_⟩
  obtain ⟨x, hx, hat⟩ := atI_mem hr
  rcases hS with hS | hS
  · exact .inl (v_ixL (sqL_sx hS hne s1) hat (q x H1 hx s1 w1))
  · exact .inr (.inl (v_ixT ((TK.sx hw s1).seq hS) hat (q x H1 hx s1 w1)))
def spo_Lplain (K : PySem.W.Frag) (cs : Cds) (C_Chip C_PowerCut C_InvalidNumber C_InvalidPage : Addr) : Sp := sp2 fun i c H Q => ∃ (ip lk : Addr) (im : List Bk) (os : List Oc), i = .ref ip ∧ c = .ref lk ∧ TD K H (.ref ip) (.tup (im.map Bk.d)) ∧ TD K H (.ref lk) (.tup (os.map Oc.d)) ∧ im.length ≤ 12 ∧ ∀ (B R : Addr) (rows : List (Addr × Addr)) (H' : Hp), (H B = none ∧ H R = none ∧ ∀ z ∈ rows, H z.1 = none ∧ H z.2 = none) → Same H H' → PlAt K B R lk rows H' im os 0 false → Q (.ref B) H'
abbrev sp_Lplain (K : PySem.W.Frag) (cs : Cds) (C_Chip C_PowerCut C_InvalidNumber C_InvalidPage : Addr) : Sp := spo_Lplain K cs C_Chip C_PowerCut C_InvalidNumber C_InvalidPage
theorem ok_Lplain (T : Txt K mg base) : FnOk P w K mg base (L2.CX P w) 1 T.f_Lplain T.fd_Lplain ["_law_image_here", "_law_chance"] (sp_Lplain K T.cs T.C_Chip T.C_PowerCut T.C_InvalidNumber T.C_InvalidPage) := by
  refine T.F_Lplain.okX sc_Lplain len2 (fun cdv A outer s H vs Q E hr h => ?_)
  obtain ⟨a0, a1, rfl, h⟩ := h
  refine ⟨_, (pss_one (ps_ret (pe_lst (pa_cons (pe_lc (own := [("_law_each", 2)]) (g := gName 2) (tt := tYes) (by rfl) sc_Lplain.nd (pi_tup (pv 0)) (blkOk_by (own := [("_law_each", 2)]) (N := N_Lplain) (sc := defScope s_Lplain) (by decide +kernel)) (fun _ _ _ _ _ => pg_name (i := 2) sc_Lplain.nd rfl (Or.inl rfl)) (fun _ _ _ _ _ => pts_nil) (fun _ _ _ _ _ => (pe_lst (pa_cons (pe_ix (show IxR _ (rIxT K) from ix_tup) (pv 2) pe_int (fun _ _ => rfl)) (pa_cons (pe_ix (show IxR _ (rIxT K) from ix_tup) (pv 2) pe_int (fun _ _ => rfl)) (pa_cons (pe_callTy (show CallR _ (.type "list") (rListOf K) from cv_list) (by rfl) T.b_list (by decide +kernel) (pa_cons (pe_ix (show IxR _ (rIxT K) from ix_tup) (pv 2) pe_int (fun _ _ => rfl)) pa_nil)) pa_nil)))))) (pa_cons (pv 1) (pa_cons pe_int (pa_cons pe_int (pa_cons pe_bl pa_nil)))))))), ?_⟩
  rw [show L2.start N_Lplain [a0, a1] = [some a0, some a1, none] from rfl]
  obtain ⟨ip, lk, im, os, rfl, rfl, hd, hlu, hl, q⟩ := h
  cases id hd with
  | @tup _ xs _ ex tx =>
  have lx : xs.length = im.length := by rw [tx.len, List.length_map]
  walk_at "vv"
  refine ⟨⟨_, ex⟩, fun D hD => ?_⟩
  refine lc_tup (xs := xs) (fun i H' => (∃ rows, RwAt D rows H H' (im.take i)) ∧ Same H H') ⟨⟨[], ⟨upd_same, by simp, fun i z k hz => (by simp at hz), fun z hz => (by simp at hz), fun i j z w _ hz => (by simp at hz), fun z hz => (by simp at hz), fun z hz => (by simp at hz)⟩⟩, same_new hD⟩ (fun i H' _ h => Same.seqT h.2 ex) ?_ ?_
  · rintro i x H1 hx ⟨⟨rows, rw1⟩, s1⟩
    have hi : i < im.length := by
      have := (List.getElem?_eq_some_iff.mp hx).1
      omega
    have hk : im[i]? = some im[i] := List.getElem?_eq_getElem hi
    obtain ⟨y, hy, ty⟩ := tx.at (i := i) (d := (im[i]).d) (by rw [List.getElem?_map, hk]; rfl)
    obtain rfl : x = y := Option.some.inj (hx.symm.trans hy)
    obtain ⟨p1, p2, rfl, e1, e2⟩ := td_blk (ty.tk (TK.same s1))
    refine ⟨rfl, ?_⟩
    walk_at "vv"
    refine v_ixT e1 rfl ?_
    walk_at "vv"
    refine v_ixT e1 rfl ?_
    walk_at "vv"
    refine v_ixT e1 rfl ?_
    walk_at "vv"
    refine v_listT e2 fun t ht => ?_
    walk_at "vv"
    refine a_lst (by simp) fun p H3 hp s3 ep => ?_
    have s13 : Same H H3 := fun b o e => s3 _ _ (same_new ht b o (s1 _ _ e))
    refine ⟨_, s3 _ _ (same_new ht _ _ rw1.r), ?_, ⟨rows ++ [(p, t)], ?_⟩, same_own s13 hD⟩
    · rw [List.length_map, rw1.len, List.length_take]
      exact small1000 (by omega)
    · rw [List.take_add_one, hk]
      exact rw1.push s1 ht hp s3 ep
  · rintro H1 ⟨⟨rows, rw1⟩, s1⟩
    walk_at "vv"
    refine a_lst (by simp) fun B H2 hB s2 eB => ?_
    have f0 : ∀ {a : Addr}, H1 a = none → H a = none := fun {a} ha => by
      cases hz : H a with
      | none => rfl
      | some o => rw [s1 _ _ hz] at ha; cases ha
    rw [lx, List.take_length] at rw1
    have nB : ∀ {a : Addr}, H1 a ≠ none → a ≠ B := fun h z => h (by rw [z]; exact hB)
    exact q B D rows H2 ⟨f0 hB, hD, rw1.fr⟩ (fun b o e => s2 _ _ (s1 _ _ e)) ⟨by rw [eB, Nat.min_eq_left (Nat.zero_le _)]; rfl, s2 _ _ rw1.r, rw1.len, fun i z k hz hk => ⟨s2 _ _ (rw1.each i z k hz hk).1, s2 _ _ (rw1.each i z k hz hk).2⟩, (hlu.tk (TK.same s1)).tk (TK.same s2), ⟨nB (by rw [rw1.r]; exact fun z => nomatch z), fun z hz => ⟨nB (rw1.has hz).1, nB (rw1.has hz).2, (rw1.nb z hz).1, (rw1.nb z hz).2⟩⟩, rw1.nd, rw1.nx⟩
def spo_Ldeed (K : PySem.W.Frag) (cs : Cds) (C_Chip C_PowerCut C_InvalidNumber C_InvalidPage : Addr) : Sp := sp3 fun v m t H Q => ∃ (W : Addr) (N P : Nat), v = .ref W ∧ m = .int N ∧ t = .int P ∧ Wl [.int 3] H W ∧ 0 < N ∧ N ≤ 12 ∧ 0 < P ∧ P ≤ 12 ∧ ∀ (p : Addr) (de : De) (H' : Hp), TD K H' (.ref p) de.d → de.ok N P → Sx W H H' → Wl [.int 3] H' W → Q (.ref p) H'
abbrev sp_Ldeed (K : PySem.W.Frag) (cs : Cds) (C_Chip C_PowerCut C_InvalidNumber C_InvalidPage : Addr) : Sp := spo_Ldeed K cs C_Chip C_PowerCut C_InvalidNumber C_InvalidPage
theorem ok_Ldeed (T : Txt K mg base) : FnOk P w K mg base (L2.CX P w) 4 T.f_Ldeed T.fd_Ldeed ["_law_well_here", "_law_many", "_law_tall"] (sp_Ldeed K T.cs T.C_Chip T.C_PowerCut T.C_InvalidNumber T.C_InvalidPage) := by
  refine T.F_Ldeed.okX sc_Ldeed len3 (fun cdv A outer s H vs Q E hr h => ?_)
  obtain ⟨a0, a1, a2, rfl, h⟩ := h
  refine ⟨_, (pss_cons (ps_par3 (i := 3) (j := 4) (l := 5) (by rfl) sc_Ldeed.nd rfl rfl rfl (by decide) (by decide) (by decide) rfl rfl rfl (pa_cons (pe_call (ok_Ldraw T) (hr.mono (by decide)) (by rfl) T.g_Ldraw T.F_Ldraw.kp T.bi_Ldraw .nil (passes_call (E := E) (takes_of rfl rfl rfl rfl) (fun _ _ _ _ h => h)) (pa_cons (pv 0) (pa_cons pe_int pa_nil))) (pa_cons (pe_call (ok_Ldraw T) (hr.mono (by decide)) (by rfl) T.g_Ldraw T.F_Ldraw.kp T.bi_Ldraw .nil (passes_call (E := E) (takes_of rfl rfl rfl rfl) (fun _ _ _ _ h => h)) (pa_cons (pv 0) (pa_cons (pv 1) pa_nil))) (pa_cons (pe_call (ok_Ldraw T) (hr.mono (by decide)) (by rfl) T.g_Ldraw T.F_Ldraw.kp T.bi_Ldraw .nil (passes_call (E := E) (takes_of rfl rfl rfl rfl) (fun _ _ _ _ h => h)) (pa_cons (pv 0) (pa_cons (pv 2) pa_nil))) pa_nil))) (by rfl))
    (pss_cons (ps_if (pt_cmpR op_lt (pv 3) pe_int (nomark _)) (pss_one (ps_ret (pe_tup (pa_cons pe_str (pa_cons (pv 4) (pa_cons (pv 5) (pa_cons (pe_call (ok_Lpage T) (hr.mono (by decide)) (by rfl) T.g_Lpage T.F_Lpage.kp T.bi_Lpage .nil (passes_call (E := E) (takes_of rfl rfl rfl rfl) (fun _ _ _ _ h => h)) (pa_cons (pv 0) pa_nil)) pa_nil))))))) pss_nil)
    (pss_cons (ps_if (pt_cmpR op_lt (pv 3) pe_int (nomark _)) (pss_one (ps_ret (pe_tup (pa_cons pe_str (pa_cons (pv 4) pa_nil))))) pss_nil)
    (pss_one (ps_ret (pe_ifExp (pt_cmpR op_eq (pv 3) pe_int (nomark _)) (pe_tup (pa_cons pe_str (pa_cons (pv 4) (pa_cons (pv 5) pa_nil)))) (pe_ifExp (pt_cmpR op_eq (pv 3) pe_int (nomark _)) (pe_tup (pa_cons pe_str pa_nil)) (pe_tup (pa_cons pe_str pa_nil))))))))), ?_⟩
  rw [show L2.start N_Ldeed [a0, a1, a2] = [some a0, some a1, some a2, none, none, none] from rfl]
  obtain ⟨W, N, P, rfl, rfl, rfl, w, hN, hN2, hP, hP2, q⟩ := h
  walk_at "vv"
  refine c2 ⟨W, 12, rfl, rfl, w, by decide, by decide, fun r1 H1 hr1 s1 w1 => ?_⟩
  walk_at "vv"
  refine c2 ⟨W, N, rfl, rfl, w1, hN, by omega, fun r2 H2 hr2 s2 w2 => ?_⟩
  walk_at "vv"
  refine c2 ⟨W, P, rfl, rfl, w2, hP, by omega, fun r3 H3 hr3 s3 w3 => ?_⟩
  walk_at "vv"
  have x3 : Sx W H H3 := (s1.trans s2).trans s3
  refine v_ifd (fun c => ?_) (fun c => ?_)
  · walk_at "vv"
    refine c1 ⟨W, rfl, w3, fun pw H4 hpw s4 w4 => ?_⟩
    walk_at "vv"
    refine a_tup (by simp) fun p H5 hp s5 e5 => ?_
    exact q p (.prog r2 r3 pw) H5 (.tup (sqT_of e5) (.cons (.str _) (.cons (.int _) (.cons (.int _) (.cons (.int _) .nil))))) ⟨hr2, hr3, hpw⟩ (x3.trans (s4.trans (Sx.of s5))) (w4.of s5)
  walk_at "vv"
  refine v_ifd (fun c => ?_) (fun c => ?_)
  · walk_at "vv"
    refine a_tup (by simp) fun p H5 hp s5 e5 => ?_
    exact q p (.erase r2) H5 (.tup (sqT_of e5) (.cons (.str _) (.cons (.int _) .nil))) hr2 (x3.trans (Sx.of s5)) (w3.of s5)
  walk_at "vv"
  refine v_ifd (fun c => ?_) (fun c => ?_)
  · walk_at "vv"
    refine a_tup (by simp) fun p H5 hp s5 e5 => ?_
    exact q p (.read r2 r3) H5 (.tup (sqT_of e5) (.cons (.str _) (.cons (.int _) (.cons (.int _) .nil)))) ⟨hr2, hr3⟩ (x3.trans (Sx.of s5)) (w3.of s5)
  walk_at "vv"
  refine v_ifd (fun c => ?_) (fun c => ?_)
  · walk_at "vv"
    refine a_tup (by simp) fun p H5 hp s5 e5 => ?_
    exact q p .many H5 (.tup (sqT_of e5) (.cons (.str _) .nil)) trivial (x3.trans (Sx.of s5)) (w3.of s5)
  · walk_at "vv"
    refine a_tup (by simp) fun p H5 hp s5 e5 => ?_
    exact q p .seen H5 (.tup (sqT_of e5) (.cons (.str _) .nil)) trivial (x3.trans (Sx.of s5)) (w3.of s5)
def spo_is_whole (K : PySem.W.Frag) (cs : Cds) (C_Chip C_PowerCut C_InvalidNumber C_InvalidPage : Addr) : Sp := sp1 fun v H Q => (∃ i : Int, v = .int i ∧ Q (.bl true) H) ∨ (NotInt v ∧ Q (.bl false) H)
abbrev sp_is_whole (K : PySem.W.Frag) (cs : Cds) (C_Chip C_PowerCut C_InvalidNumber C_InvalidPage : Addr) : Sp := spo_is_whole K cs C_Chip C_PowerCut C_InvalidNumber C_InvalidPage
theorem ok_is_whole (T : Txt K mg base) : FnOk P w K mg base (L2.CX P w) 1 T.f_is_whole T.fd_is_whole ["value"] (sp_is_whole K T.cs T.C_Chip T.C_PowerCut T.C_InvalidNumber T.C_InvalidPage) := by
  refine T.F_is_whole.okX sc_is_whole len1 (fun cdv A outer s H vs Q E hr h => ?_)
  obtain ⟨a0, rfl, h⟩ := h
  refine ⟨_, (pss_one (ps_ret (pe_and (pe_callB call_isi (by rfl) T.b_isinstance (by decide +kernel) (pa_cons (pv 0) (pa_cons (pe_bltn (v := .ty "int") (by rfl) T.b_int (by decide +kernel) rfl) pa_nil))) (pe_one (pe_not (pe_callB call_isi (by rfl) T.b_isinstance (by decide +kernel) (pa_cons (pv 0) (pa_cons (pe_bltn (v := .ty "bool") (by rfl) T.b_bool (by decide +kernel) rfl) pa_nil)))))))), ?_⟩
  rw [show L2.start N_is_whole [a0] = [some a0] from rfl]
  rcases h with ⟨i, rfl, q⟩ | ⟨ni, q⟩
  · walk_at "vv"
    exact q
  rcases ni with rfl | ⟨b, rfl⟩ | ⟨s, rfl⟩
  · walk_at "vv"
    refine v_isIntN ?_
    walk_at "vv"
    exact q
  · walk_at "vv"
    refine v_isIntB ?_
    walk_at "vv"
    refine v_isBoolB ?_
    walk_at "vv"
    exact q
  · walk_at "vv"
    refine v_isIntS ?_
    walk_at "vv"
    exact q
def spo_is_between (K : PySem.W.Frag) (cs : Cds) (C_Chip C_PowerCut C_InvalidNumber C_InvalidPage : Addr) : Sp := sp3 fun v l m H Q => (∃ i j k : Int, v = .int i ∧ l = .int j ∧ m = .int k ∧ Q (.bl (decide (j ≤ i ∧ i ≤ k))) H) ∨ (∃ j k : Int, NotInt v ∧ l = .int j ∧ m = .int k ∧ Q (.bl false) H)
abbrev sp_is_between (K : PySem.W.Frag) (cs : Cds) (C_Chip C_PowerCut C_InvalidNumber C_InvalidPage : Addr) : Sp := spo_is_between K cs C_Chip C_PowerCut C_InvalidNumber C_InvalidPage
theorem ok_is_between (T : Txt K mg base) : FnOk P w K mg base (L2.CX P w) 2 T.f_is_between T.fd_is_between ["value", "least", "most"] (sp_is_between K T.cs T.C_Chip T.C_PowerCut T.C_InvalidNumber T.C_InvalidPage) := by
  refine T.F_is_between.okX sc_is_between len3 (fun cdv A outer s H vs Q E hr h => ?_)
  obtain ⟨a0, a1, a2, rfl, h⟩ := h
  refine ⟨_, (pss_one (ps_ret (pe_and (pe_call (ok_is_whole T) (hr.mono (by decide)) (by rfl) T.g_is_whole T.F_is_whole.kp T.bi_is_whole .nil (passes_call (E := E) (takes_of rfl rfl rfl rfl) (fun _ _ _ _ h => h)) (pa_cons (pv 0) pa_nil)) (pe_one (pe_chain op_le op_le (pv 1) (pv 0) (pv 2)))))), ?_⟩
  rw [show L2.start N_is_between [a0, a1, a2] = [some a0, some a1, some a2] from rfl]
  rcases h with h | ⟨j, k, ni, rfl, rfl, q⟩
  case inr =>
    walk_at "vv"
    refine c1 (.inr ⟨ni, ?_⟩)
    walk_at "vv"
    exact q
  obtain ⟨i, j, k, rfl, rfl, rfl, q⟩ := h
  walk_at "vv"
  refine c1 (.inl ⟨i, rfl, ?_⟩)
  walk_at "vv"
  refine v_ifd (fun c => ?_) (fun c => ?_)
  · walk_at "vv"
    rw [show decide (j ≤ i ∧ i ≤ k) = decide (i ≤ k) by simp [c]] at q
    exact q
  · rw [show decide (j ≤ i ∧ i ≤ k) = false by simp [c]] at q
    exact q
def spo_is_page (K : PySem.W.Frag) (cs : Cds) (C_Chip C_PowerCut C_InvalidNumber C_InvalidPage : Addr) : Sp := sp1 fun v H Q => (∃ i : Nat, v = .int i ∧ i < MX ∧ Q (.bl true) H) ∨ (∃ i : Int, v = .int i ∧ (MX : Int) ≤ i ∧ Q (.bl false) H)
abbrev sp_is_page (K : PySem.W.Frag) (cs : Cds) (C_Chip C_PowerCut C_InvalidNumber C_InvalidPage : Addr) : Sp := spo_is_page K cs C_Chip C_PowerCut C_InvalidNumber C_InvalidPage
theorem ok_is_page (T : Txt K mg base) : FnOk P w K mg base (L2.CX P w) 3 T.f_is_page T.fd_is_page ["value"] (sp_is_page K T.cs T.C_Chip T.C_PowerCut T.C_InvalidNumber T.C_InvalidPage) := by
  refine T.F_is_page.okX sc_is_page len1 (fun cdv A outer s H vs Q E hr h => ?_)
  obtain ⟨a0, rfl, h⟩ := h
  refine ⟨_, (pss_one (ps_ret (pe_call (ok_is_between T) (hr.mono (by decide)) (by rfl) T.g_is_between T.F_is_between.kp T.bi_is_between .nil (passes_call (E := E) (takes_of rfl rfl rfl rfl) (fun _ _ _ _ h => h)) (pa_cons (pv 0) (pa_cons pe_int (pa_cons (pe_glob (v := .int BLv) rfl T.c_BLANK ⟨_, rfl⟩) pa_nil)))))), ?_⟩
  rw [show L2.start N_is_page [a0] = [some a0] from rfl]
  rcases h with ⟨i, rfl, hi, q⟩ | ⟨i, rfl, hi, q⟩
  · walk_at "vv"
    refine c3 (.inl ⟨i, 0, BLv, rfl, rfl, rfl, ?_⟩)
    rw [decide_eq_true (by rw [BLv_eq]; have := MX_pos; omega)]
    exact q
  · walk_at "vv"
    refine c3 (.inl ⟨i, 0, BLv, rfl, rfl, rfl, ?_⟩)
    rw [decide_eq_false (by rw [BLv_eq]; have := MX_pos; omega)]
    exact q
def spo_InvalidPage_init (K : PySem.W.Frag) (cs : Cds) (C_Chip C_PowerCut C_InvalidNumber C_InvalidPage : Addr) : Sp := sp2 fun s v H Q => ini2 C_InvalidPage "given" s v H Q
abbrev sp_InvalidPage_init (K : PySem.W.Frag) (cs : Cds) (C_Chip C_PowerCut C_InvalidNumber C_InvalidPage : Addr) : Sp := spo_InvalidPage_init K cs C_Chip C_PowerCut C_InvalidNumber C_InvalidPage
theorem ok_InvalidPage_init (T : Txt K mg base) : FnOk P w K mg base (L2.CX P w) 1 T.f_InvalidPage_init T.fd_InvalidPage_init ["self", "given"] (sp_InvalidPage_init K T.cs T.C_Chip T.C_PowerCut T.C_InvalidNumber T.C_InvalidPage) := by
  refine T.F_InvalidPage_init.okX sc_InvalidPage_init len2 (fun cdv A outer s H vs Q E hr h => ?_)
  obtain ⟨a0, a1, rfl, h⟩ := h
  refine ⟨_, (pss_one (ps_ost (pv 0) (pv 1))), ?_⟩
  rw [show L2.start N_InvalidPage_init [a0, a1] = [some a0, some a1] from rfl]
  obtain ⟨a, rfl, ha, q⟩ := h
  refine v_ost ?_ (fun m ⟨v, e, q⟩ => ⟨v, e, m _ _ q⟩) (fun m ⟨v, e, q⟩ => ⟨v, e, m _ _ q⟩)
  walk_at "vv"
  exact ⟨a, _, rfl, T.er_InvalidPage.ox, T.er_InvalidPage.no, ha, q⟩
def spo_require_page (K : PySem.W.Frag) (cs : Cds) (C_Chip C_PowerCut C_InvalidNumber C_InvalidPage : Addr) : Sp := spx1 fun v H Q E => (∃ i : Nat, v = .int i ∧ i < MX ∧ Q .non H) ∨ (∃ i : Int, v = .int i ∧ (MX : Int) ≤ i ∧ Rz C_InvalidPage E H v)
abbrev sp_require_page (K : PySem.W.Frag) (cs : Cds) (C_Chip C_PowerCut C_InvalidNumber C_InvalidPage : Addr) : Sp := spo_require_page K cs C_Chip C_PowerCut C_InvalidNumber C_InvalidPage
theorem ok_require_page (T : Txt K mg base) : FnOk P w K mg base (L2.CX P w) 4 T.f_require_page T.fd_require_page ["value"] (sp_require_page K T.cs T.C_Chip T.C_PowerCut T.C_InvalidNumber T.C_InvalidPage) := by
  refine T.F_require_page.okX sc_require_page lenx1 (fun cdv A outer s H vs Q E hr h => ?_)
  obtain ⟨a0, rfl, h⟩ := h
  refine ⟨_, (pss_one (ps_if (pt_not (pt_val (pe_call (ok_is_page T) (hr.mono (by decide)) (by rfl) T.g_is_page T.F_is_page.kp T.bi_is_page .nil (passes_call (E := E) (takes_of rfl rfl rfl rfl) (fun _ _ _ _ h => h)) (pa_cons (pv 0) pa_nil)))) (pss_one (ps_raise1 rfl T.er_InvalidPage T.gC_InvalidPage (by rfl) (ok_InvalidPage_init T) (hr.mono (by decide)) T.bi_InvalidPage_init (takes_of (E := E) rfl rfl rfl rfl) (pv 0) mono_var)) pss_nil)), ?_⟩
  rw [show L2.start N_require_page [a0] = [some a0] from rfl]
  rcases h with ⟨i, rfl, hi, q⟩ | ⟨i, rfl, hi, q⟩
  · walk_at "vv"
    refine c1 (.inl ⟨i, rfl, hi, ?_⟩)
    walk_at "vv"
    exact q
  · walk_at "vv"
    refine c1 (.inr ⟨i, rfl, hi, ?_⟩)
    walk_at "vv"
    refine v_raise1 ?_
    walk_at "vv"
    exact q
def spo_is_from (K : PySem.W.Frag) (cs : Cds) (C_Chip C_PowerCut C_InvalidNumber C_InvalidPage : Addr) : Sp := sp2 fun v l H Q => ∃ i j : Int, v = .int i ∧ l = .int j ∧ Q (.bl (decide (j ≤ i))) H
abbrev sp_is_from (K : PySem.W.Frag) (cs : Cds) (C_Chip C_PowerCut C_InvalidNumber C_InvalidPage : Addr) : Sp := spo_is_from K cs C_Chip C_PowerCut C_InvalidNumber C_InvalidPage
theorem ok_is_from (T : Txt K mg base) : FnOk P w K mg base (L2.CX P w) 2 T.f_is_from T.fd_is_from ["value", "least"] (sp_is_from K T.cs T.C_Chip T.C_PowerCut T.C_InvalidNumber T.C_InvalidPage) := by
  refine T.F_is_from.okX sc_is_from len2 (fun cdv A outer s H vs Q E hr h => ?_)
  obtain ⟨a0, a1, rfl, h⟩ := h
  refine ⟨_, (pss_one (ps_ret (pe_and (pe_call (ok_is_whole T) (hr.mono (by decide)) (by rfl) T.g_is_whole T.F_is_whole.kp T.bi_is_whole .nil (passes_call (E := E) (takes_of rfl rfl rfl rfl) (fun _ _ _ _ h => h)) (pa_cons (pv 0) pa_nil)) (pe_one (pe_cmpR op_ge (pv 0) (pv 1) (nomark _)))))), ?_⟩
  rw [show L2.start N_is_from [a0, a1] = [some a0, some a1] from rfl]
  obtain ⟨i, j, rfl, rfl, q⟩ := h
  walk_at "vv"
  refine c1 (.inl ⟨i, rfl, ?_⟩)
  walk_at "vv"
  exact q
def spo_InvalidNumber_init (K : PySem.W.Frag) (cs : Cds) (C_Chip C_PowerCut C_InvalidNumber C_InvalidPage : Addr) : Sp := sp2 fun s v H Q => ini2 C_InvalidNumber "given" s v H Q
abbrev sp_InvalidNumber_init (K : PySem.W.Frag) (cs : Cds) (C_Chip C_PowerCut C_InvalidNumber C_InvalidPage : Addr) : Sp := spo_InvalidNumber_init K cs C_Chip C_PowerCut C_InvalidNumber C_InvalidPage
theorem ok_InvalidNumber_init (T : Txt K mg base) : FnOk P w K mg base (L2.CX P w) 1 T.f_InvalidNumber_init T.fd_InvalidNumber_init ["self", "given"] (sp_InvalidNumber_init K T.cs T.C_Chip T.C_PowerCut T.C_InvalidNumber T.C_InvalidPage) := by
  refine T.F_InvalidNumber_init.okX sc_InvalidNumber_init len2 (fun cdv A outer s H vs Q E hr h => ?_)
  obtain ⟨a0, a1, rfl, h⟩ := h
  refine ⟨_, (pss_one (ps_ost (pv 0) (pv 1))), ?_⟩
  rw [show L2.start N_InvalidNumber_init [a0, a1] = [some a0, some a1] from rfl]
  obtain ⟨a, rfl, ha, q⟩ := h
  refine v_ost ?_ (fun m ⟨v, e, q⟩ => ⟨v, e, m _ _ q⟩) (fun m ⟨v, e, q⟩ => ⟨v, e, m _ _ q⟩)
  walk_at "vv"
  exact ⟨a, _, rfl, T.er_InvalidNumber.ox, T.er_InvalidNumber.no, ha, q⟩
def spo_require_from (K : PySem.W.Frag) (cs : Cds) (C_Chip C_PowerCut C_InvalidNumber C_InvalidPage : Addr) : Sp := sp2 fun v l H Q => ∃ i j : Int, v = .int i ∧ l = .int j ∧ j ≤ i ∧ Q .non H
abbrev sp_require_from (K : PySem.W.Frag) (cs : Cds) (C_Chip C_PowerCut C_InvalidNumber C_InvalidPage : Addr) : Sp := spo_require_from K cs C_Chip C_PowerCut C_InvalidNumber C_InvalidPage
theorem ok_require_from (T : Txt K mg base) : FnOk P w K mg base (L2.CX P w) 3 T.f_require_from T.fd_require_from ["value", "least"] (sp_require_from K T.cs T.C_Chip T.C_PowerCut T.C_InvalidNumber T.C_InvalidPage) := by
  refine T.F_require_from.okX sc_require_from len2 (fun cdv A outer s H vs Q E hr h => ?_)
  obtain ⟨a0, a1, rfl, h⟩ := h
  refine ⟨_, (pss_one (ps_if (pt_not (pt_val (pe_call (ok_is_from T) (hr.mono (by decide)) (by rfl) T.g_is_from T.F_is_from.kp T.bi_is_from .nil (passes_call (E := E) (takes_of rfl rfl rfl rfl) (fun _ _ _ _ h => h)) (pa_cons (pv 0) (pa_cons (pv 1) pa_nil))))) (pss_one (ps_raise1 rfl T.er_InvalidNumber T.gC_InvalidNumber (by rfl) (ok_InvalidNumber_init T) (hr.mono (by decide)) T.bi_InvalidNumber_init (takes_of (E := E) rfl rfl rfl rfl) (pv 0) mono_var)) pss_nil)), ?_⟩
  rw [show L2.start N_require_from [a0, a1] = [some a0, some a1] from rfl]
  obtain ⟨i, j, rfl, rfl, hle, q⟩ := h
  walk_at "vv"
  refine c2 ⟨i, j, rfl, rfl, ?_⟩
  rw [decide_eq_true hle]
  walk_at "vv"
  exact q
def spo_erased (K : PySem.W.Frag) (cs : Cds) (C_Chip C_PowerCut C_InvalidNumber C_InvalidPage : Addr) : Sp := sp2 fun o m H Q => ∃ a c : Nat, o = .int a ∧ m = .int c ∧ a < MX ∧ Q (.int (a ||| (c &&& FL) : Nat)) H
abbrev sp_erased (K : PySem.W.Frag) (cs : Cds) (C_Chip C_PowerCut C_InvalidNumber C_InvalidPage : Addr) : Sp := spo_erased K cs C_Chip C_PowerCut C_InvalidNumber C_InvalidPage
theorem ok_erased (T : Txt K mg base) : FnOk P w K mg base (L2.CX P w) 5 T.f_erased T.fd_erased ["old", "mask"] (sp_erased K T.cs T.C_Chip T.C_PowerCut T.C_InvalidNumber T.C_InvalidPage) := by
  refine T.F_erased.okX sc_erased len2 (fun cdv A outer s H vs Q E hr h => ?_)
  obtain ⟨a0, a1, rfl, h⟩ := h
  refine ⟨_, (pss_cons (ps_expr (pe_call (ok_require_page T) (hr.mono (by decide)) (by rfl) T.g_require_page T.F_require_page.kp T.bi_require_page .nil (passes_call (E := E) (takes_of rfl rfl rfl rfl) (fun _ _ _ _ h => h)) (pa_cons (pv 0) pa_nil)))
    (pss_cons (ps_expr (pe_call (ok_require_from T) (hr.mono (by decide)) (by rfl) T.g_require_from T.F_require_from.kp T.bi_require_from .nil (passes_call (E := E) (takes_of rfl rfl rfl rfl) (fun _ _ _ _ h => h)) (pa_cons (pv 1) (pa_cons pe_int pa_nil))))
    (pss_one (ps_ret (pe_op op_or (pv 0) (pe_op op_and (pv 1) (pe_glob (v := .int BLv) rfl T.c_BLANK ⟨_, rfl⟩))))))), ?_⟩
  rw [show L2.start N_erased [a0, a1] = [some a0, some a1] from rfl]
  obtain ⟨a, c, rfl, rfl, ha, q⟩ := h
  walk_at "vv"
  refine x1 (.inl ⟨a, rfl, ha, ?_⟩)
  walk_at "vv"
  refine c2 ⟨c, 0, rfl, rfl, by omega, ?_⟩
  walk_at "vv"
  rw [BLv_eq, bA, bO]
  exact q
def spo_require_between (K : PySem.W.Frag) (cs : Cds) (C_Chip C_PowerCut C_InvalidNumber C_InvalidPage : Addr) : Sp := spx3 fun v l m H Q E => (∃ i j k : Int, v = .int i ∧ l = .int j ∧ m = .int k ∧ j ≤ i ∧ i ≤ k ∧ Q .non H) ∨ (∃ j k : Int, Out v j k ∧ l = .int j ∧ m = .int k ∧ Rz C_InvalidNumber E H v)
abbrev sp_require_between (K : PySem.W.Frag) (cs : Cds) (C_Chip C_PowerCut C_InvalidNumber C_InvalidPage : Addr) : Sp := spo_require_between K cs C_Chip C_PowerCut C_InvalidNumber C_InvalidPage
theorem ok_require_between (T : Txt K mg base) : FnOk P w K mg base (L2.CX P w) 3 T.f_require_between T.fd_require_between ["value", "least", "most"] (sp_require_between K T.cs T.C_Chip T.C_PowerCut T.C_InvalidNumber T.C_InvalidPage) := by
  refine T.F_require_between.okX sc_require_between lenx3 (fun cdv A outer s H vs Q E hr h => ?_)
  obtain ⟨a0, a1, a2, rfl, h⟩ := h
  refine ⟨_, (pss_one (ps_if (pt_not (pt_val (pe_call (ok_is_between T) (hr.mono (by decide)) (by rfl) T.g_is_between T.F_is_between.kp T.bi_is_between .nil (passes_call (E := E) (takes_of rfl rfl rfl rfl) (fun _ _ _ _ h => h)) (pa_cons (pv 0) (pa_cons (pv 1) (pa_cons (pv 2) pa_nil)))))) (pss_one (ps_raise1 rfl T.er_InvalidNumber T.gC_InvalidNumber (by rfl) (ok_InvalidNumber_init T) (hr.mono (by decide)) T.bi_InvalidNumber_init (takes_of (E := E) rfl rfl rfl rfl) (pv 0) mono_var)) pss_nil)), ?_⟩
  rw [show L2.start N_require_between [a0, a1, a2] = [some a0, some a1, some a2] from rfl]
  rcases h with ⟨i, j, k, rfl, rfl, rfl, h1, h2, q⟩ | ⟨j, k, ou, rfl, rfl, q⟩
  · walk_at "vv"
    refine c3 (.inl ⟨i, j, k, rfl, rfl, rfl, ?_⟩)
    rw [decide_eq_true ⟨h1, h2⟩]
    walk_at "vv"
    exact q
  rcases ou with ⟨i, rfl, hn⟩ | ni
  · walk_at "vv"
    refine c3 (.inl ⟨i, j, k, rfl, rfl, rfl, ?_⟩)
    rw [decide_eq_false hn]
    walk_at "vv"
    refine v_raise1 ?_
    walk_at "vv"
    exact q
  · walk_at "vv"
    refine c3 (.inr ⟨j, k, ni, rfl, rfl, ?_⟩)
    walk_at "vv"
    refine v_raise1 ?_
    walk_at "vv"
    exact q
def spo_Chip_require_block_index (K : PySem.W.Frag) (cs : Cds) (C_Chip C_PowerCut C_InvalidNumber C_InvalidPage : Addr) : Sp := spx2 fun s b H Q E => ∃ (x l lk : Addr) (P : Nat) (im : List Bk) (os : List Oc) (n : Nat) (g : Bool), s = .ref x ∧ ChAt K C_Chip x l lk H P im os n g ∧ ((∃ i : Nat, b = .int i ∧ i < im.length ∧ Q .non H) ∨ (Out b 0 ((im.length : Int) - 1) ∧ Rz C_InvalidNumber E H b))
abbrev sp_Chip_require_block_index (K : PySem.W.Frag) (cs : Cds) (C_Chip C_PowerCut C_InvalidNumber C_InvalidPage : Addr) : Sp := spo_Chip_require_block_index K cs C_Chip C_PowerCut C_InvalidNumber C_InvalidPage
theorem ok_Chip_require_block_index (T : Txt K mg base) : FnOk P w K mg base (L2.CX P w) 4 T.f_Chip_require_block_index T.fd_Chip_require_block_index ["self", "block"] (sp_Chip_require_block_index K T.cs T.C_Chip T.C_PowerCut T.C_InvalidNumber T.C_InvalidPage) := by
  refine T.F_Chip_require_block_index.okX sc_Chip_require_block_index lenx2 (fun cdv A outer s H vs Q E hr h => ?_)
  obtain ⟨a0, a1, rfl, h⟩ := h
  refine ⟨_, (pss_one (ps_expr (pe_call (ok_require_between T) (hr.mono (by decide)) (by rfl) T.g_require_between T.F_require_between.kp T.bi_require_between .nil (passes_call (E := E) (takes_of rfl rfl rfl rfl) (fun _ _ _ _ h => h)) (pa_cons (pv 1) (pa_cons pe_int (pa_cons (pe_op op_sub (pe_callB cv_len (by rfl) T.b_len PySem.boot_len (pa_cons (pe_fld (pv 0) rfl) pa_nil)) pe_int) pa_nil)))))), ?_⟩
  rw [show L2.start N_Chip_require_block_index [a0, a1] = [some a0, some a1] from rfl]
  obtain ⟨x, l, lk, P, im, os, n, g, rfl, ch, q⟩ := h
  obtain ⟨dx, ex⟩ := ch.ob
  obtain ⟨bs, eb, tb⟩ := ch.bl
  have hl : bs.length = im.length := by rw [tb.len, List.length_map]
  walk_at "vv"
  refine ⟨x, _, dx, _, _, rfl, ex, T.cl_Chip, T.na_Chip_blocks, ch_bl, ?_⟩
  walk_at "vv"
  refine v_lenL (sqL_of eb) ?_
  walk_at "vv"
  rw [hl]
  rcases q with ⟨i, rfl, hi, q⟩ | ⟨ou, q⟩
  · refine x3 (.inl ⟨i, 0, (im.length : Int) - 1, rfl, rfl, rfl, by omega, by omega, ?_⟩)
    exact q
  · exact x3 (.inr ⟨0, (im.length : Int) - 1, ou, rfl, rfl, q⟩)
def spo_Chip_require_power (K : PySem.W.Frag) (cs : Cds) (C_Chip C_PowerCut C_InvalidNumber C_InvalidPage : Addr) : Sp := spx1 fun s H Q E => ∃ (x l lk : Addr) (P : Nat) (im : List Bk) (os : List Oc) (n : Nat) (g : Bool), s = .ref x ∧ ChAt K C_Chip x l lk H P im os n g ∧ (g = true → E (.ref C_PowerCut) none H) ∧ (g = false → Q .non H)
abbrev sp_Chip_require_power (K : PySem.W.Frag) (cs : Cds) (C_Chip C_PowerCut C_InvalidNumber C_InvalidPage : Addr) : Sp := spo_Chip_require_power K cs C_Chip C_PowerCut C_InvalidNumber C_InvalidPage
theorem ok_Chip_require_power (T : Txt K mg base) : FnOk P w K mg base (L2.CX P w) 1 T.f_Chip_require_power T.fd_Chip_require_power ["self"] (sp_Chip_require_power K T.cs T.C_Chip T.C_PowerCut T.C_InvalidNumber T.C_InvalidPage) := by
  refine T.F_Chip_require_power.okX sc_Chip_require_power lenx1 (fun cdv A outer s H vs Q E hr h => ?_)
  obtain ⟨a0, rfl, h⟩ := h
  refine ⟨_, (pss_one (ps_if (pt_val (pe_fld (pv 0) rfl)) (pss_one (ps_raise0 rfl T.ex_PowerCut T.gC_PowerCut (by rfl) (takes_of (E := E) rfl rfl rfl rfl))) pss_nil)), ?_⟩
  rw [show L2.start N_Chip_require_power [a0] = [some a0] from rfl]
  obtain ⟨x, l, lk, P, im, os, n, g, rfl, ch, q1, q2⟩ := h
  obtain ⟨dx, ex⟩ := ch.ob
  walk_at "vv"
  refine ⟨x, _, dx, _, _, rfl, ex, T.cl_Chip, T.na_Chip_is_gone, ch_g, ?_⟩
  walk_at "vv"
  refine v_ifb (fun c => ?_) (fun c => ?_)
  · exact v_raise (q1 c)
  · walk_at "vv"
    exact q2 c
def spo_Chip_next_outcome (K : PySem.W.Frag) (cs : Cds) (C_Chip C_PowerCut C_InvalidNumber C_InvalidPage : Addr) : Sp := sp2 fun s d H Q => ∃ (x l lk : Addr) (P : Nat) (im : List Bk) (os : List Oc) (n : Nat) (g : Bool) (dm : Nat), s = .ref x ∧ d = .int dm ∧ ChAt K C_Chip x l lk H P im os n g ∧ n < 100 ∧ ∀ (p : Addr) (H' : Hp), SqT K H' p [.str (outc os n dm).1, .int ((outc os n dm).2 : Nat)] → Fr2 x l H H' → ChAt K C_Chip x l lk H' P im os (n + 1) g → Q (.ref p) H'
abbrev sp_Chip_next_outcome (K : PySem.W.Frag) (cs : Cds) (C_Chip C_PowerCut C_InvalidNumber C_InvalidPage : Addr) : Sp := spo_Chip_next_outcome K cs C_Chip C_PowerCut C_InvalidNumber C_InvalidPage
theorem ok_Chip_next_outcome (T : Txt K mg base) : FnOk P w K mg base (L2.CX P w) 1 T.f_Chip_next_outcome T.fd_Chip_next_outcome ["self", "done_mask"] (sp_Chip_next_outcome K T.cs T.C_Chip T.C_PowerCut T.C_InvalidNumber T.C_InvalidPage) := by
  refine T.F_Chip_next_outcome.okX sc_Chip_next_outcome len2 (fun cdv A outer s H vs Q E hr h => ?_)
  obtain ⟨a0, a1, rfl, h⟩ := h
  refine ⟨_, (pss_cons (ps_set (i := 2) sc_Chip_next_outcome.nd rfl (.inl rfl) (pe_ifExp (pt_cmpR op_lt (pe_fld (pv 0) rfl) (pe_callB cv_len (by rfl) T.b_len PySem.boot_len (pa_cons (pe_fld (pv 0) rfl) pa_nil)) (nomark _)) (pe_ix ix_tup (pe_fld (pv 0) rfl) (pe_fld (pv 0) rfl) (fun _ _ => rfl)) (pe_tup (pa_cons pe_str pa_nil))))
    (pss_cons (ps_fldaug (pv 0) pe_int in_add)
    (pss_cons (ps_if (pt_cmpR op_eq (pe_callB cv_len (by rfl) T.b_len PySem.boot_len (pa_cons (pv 2) pa_nil)) pe_int (nomark _)) (pss_one (ps_ret (pe_tup (pa_cons pe_str (pa_cons (pv 1) pa_nil))))) pss_nil)
    (pss_one (ps_ret (pv 2)))))), ?_⟩
  rw [show L2.start N_Chip_next_outcome [a0, a1] = [some a0, some a1, none] from rfl]
  obtain ⟨x, l, lk, P, im, os, n, g, dm, rfl, rfl, ch, hn, q⟩ := h
  obtain ⟨dx, ex⟩ := ch.ob
  have lu := ch.lu
  cases id lu with
  | @tup _ us _ eu tu =>
  have hu : us.length = os.length := by rw [tu.len, List.length_map]
  walk_at "vv"
  refine ⟨x, _, dx, _, _, rfl, ex, T.cl_Chip, T.na_Chip_begun, ch_n, ?_⟩
  walk_at "vv"
  refine ⟨x, _, dx, _, _, rfl, ex, T.cl_Chip, T.na_Chip_luck, ch_lk, ?_⟩
  walk_at "vv"
  refine v_lenT eu ?_
  walk_at "vv"
  refine v_joinP (fun v H' => ∃ (p : Addr), v = .ref p ∧ TD K H' (.ref p) ((os[n]?).getD .done).d ∧ Same H H') (fun c Q' q' => ?_) (fun c Q' q' => ?_) (fun v H1 hv => ?_)
  · have hlt : n < os.length := by have := of_decide_eq_true c; omega
    walk_at "vv"
    refine ⟨x, _, dx, _, _, rfl, ex, T.cl_Chip, T.na_Chip_luck, ch_lk, ?_⟩
    walk_at "vv"
    refine ⟨x, _, dx, _, _, rfl, ex, T.cl_Chip, T.na_Chip_begun, ch_n, ?_⟩
    have hd : (os.map Oc.d)[n]? = some (os[n]).d := by rw [List.getElem?_map, List.getElem?_eq_getElem hlt]; rfl
    obtain ⟨y, hy, ty⟩ := tu.at hd
    refine v_ixT eu (atI_nat hy) ?_
    have ty2 := ty
    obtain ⟨py, rfl⟩ : ∃ p, y = .ref p := by
      cases hz : os[n] with
      | done => rw [hz] at ty; cases ty; exact ⟨_, rfl⟩
      | cut m => rw [hz] at ty; cases ty; exact ⟨_, rfl⟩
      | fails m => rw [hz] at ty; cases ty; exact ⟨_, rfl⟩
    exact q' _ _ ⟨py, rfl, by rw [List.getElem?_eq_getElem hlt]; exact ty2, fun _ _ e => e⟩
  · have hge : os.length ≤ n := by have := of_decide_eq_false c; omega
    walk_at "vv"
    refine a_tup (by simp) fun p H1 hp s1 e1 => ?_
    exact q' _ _ ⟨p, rfl, by rw [List.getElem?_eq_none hge]; exact .tup (sqT_of e1) (.cons (.str _) .nil), s1⟩
  obtain ⟨p, rfl, ho, s1⟩ := hv
  have ch1 := ch.same s1
  have ex1 := s1 _ _ ex
  have nxl := ch.ne
  walk_at "vv"
  refine ⟨x, _, dx, _, _, rfl, ex1, T.cl_Chip, T.na_Chip_begun, ch_n, ?_⟩
  walk_at "vv"
  refine ⟨_, _, rfl, rfl, dx, _, ex1, ch_len, ?_⟩
  rw [show ((n : Int) + 1) = ((n + 1 : Nat) : Int) by omega, put_n]
  have k2 : TK H1 (upd H1 x (.ins T.C_Chip dx (chF l lk (n + 1) g))) := TK.mutI ex1
  have ch2 : ChAt K T.C_Chip x l lk (upd H1 x (.ins T.C_Chip dx (chF l lk (n + 1) g))) P im os (n + 1) g := by
    obtain ⟨bs, eb, tb⟩ := ch1.bl
    refine ⟨⟨dx, upd_same⟩, ⟨bs, by rw [upd_ne nxl.symm]; exact eb, tb.tk k2⟩, ch1.lu.tk k2, ?_⟩
    obtain ⟨g1, g2, g3, g4, g5, g6⟩ := ch.ok
    exact ⟨g1, g2, g3, g4, by omega, fun b hb => ⟨(g6 b hb).1, by have := (g6 b hb).2; omega⟩⟩
  have f2 : Fr2 x l H (upd H1 x (.ins T.C_Chip dx (chF l lk (n + 1) g))) := (Fr2.same s1).trans Fr2.x
  have ho2 := ho.tk k2
  generalize upd H1 x (.ins T.C_Chip dx (chF l lk (n + 1) g)) = H2 at ch2 f2 ho2 ⊢
  have out : ∀ o : Oc, (os[n]?).getD .done = o → outc os n dm = (match o with | .cut m => ("cut", m) | .fails m => ("fails", m) | .done => ("done", dm)) := fun o e => by
    unfold outc
    cases z : os[n]? with
    | none => rw [z] at e; subst e; rfl
    | some y => rw [z] at e; cases e; cases y <;> rfl
  cases hz : (os[n]?).getD .done with
  | done =>
    rw [hz] at ho2
    have oe := out _ hz
    cases ho2 with
    | tup e t =>
    cases t with
    | cons a t =>
    cases a
    cases t
    walk_at "vv"
    refine v_lenT e ?_
    walk_at "vv"
    rw [show decide ((([V.str "done"].length : Nat) : Int) = 1) = true from rfl]
    walk_at "vv"
    refine a_tup (by simp) fun p3 H3 hp3 s3 e3 => ?_
    refine q p3 H3 ?_ (f2.trans (Fr2.same s3)) (ch2.same s3)
    rw [oe]
    exact sqT_of e3
  | cut m =>
    rw [hz] at ho2
    have oe := out _ hz
    cases ho2 with
    | tup e t =>
    cases t with
    | cons a t =>
    cases t with
    | cons b t =>
    cases a
    cases b
    cases t
    walk_at "vv"
    refine v_lenT e ?_
    walk_at "vv"
    rw [show decide ((([V.str "cut", .int (m : Int)].length : Nat) : Int) = 1) = false from rfl]
    walk_at "vv"
    refine q p H2 ?_ f2 ch2
    rw [oe]
    exact e
  | fails m =>
    rw [hz] at ho2
    have oe := out _ hz
    cases ho2 with
    | tup e t =>
    cases t with
    | cons a t =>
    cases t with
    | cons b t =>
    cases a
    cases b
    cases t
    walk_at "vv"
    refine v_lenT e ?_
    walk_at "vv"
    rw [show decide ((([V.str "fails", .int (m : Int)].length : Nat) : Int) = 1) = false from rfl]
    walk_at "vv"
    refine q p H2 ?_ f2 ch2
    rw [oe]
    exact e
def spo_Chip_settle (K : PySem.W.Frag) (cs : Cds) (C_Chip C_PowerCut C_InvalidNumber C_InvalidPage : Addr) : Sp := spx5 fun s b k e p H Q E => ∃ (x l lk : Addr) (P : Nat) (im : List Bk) (os : List Oc) (n : Nat) (g : Bool) (i er : Nat) (kd : PySem.Str) (pp : Addr) (pg : List Nat), s = .ref x ∧ b = .int i ∧ k = .str kd ∧ e = .int er ∧ p = .ref pp ∧ ChAt K C_Chip x l lk H P im os n g ∧ i < im.length ∧ SqT K H pp (pg.map vN) ∧ GP P pg ∧ er ≤ 500 + n ∧ ∀ (H' : Hp) (g' : Bool), Fr2 x l H H' → ChAt K C_Chip x l lk H' P (im.set i ⟨decide (kd = "fails"), er, pg⟩) os n g' → (kd = "cut" → g' = true → E (.ref C_PowerCut) none H') ∧ (¬ kd = "cut" → g' = g → Q (.bl (decide (kd = "done"))) H')
abbrev sp_Chip_settle (K : PySem.W.Frag) (cs : Cds) (C_Chip C_PowerCut C_InvalidNumber C_InvalidPage : Addr) : Sp := spo_Chip_settle K cs C_Chip C_PowerCut C_InvalidNumber C_InvalidPage
theorem ok_Chip_settle (T : Txt K mg base) : FnOk P w K mg base (L2.CX P w) 1 T.f_Chip_settle T.fd_Chip_settle ["self", "block", "kind", "erasures", "pages"] (sp_Chip_settle K T.cs T.C_Chip T.C_PowerCut T.C_InvalidNumber T.C_InvalidPage) := by
  refine T.F_Chip_settle.okX sc_Chip_settle lenx5 (fun cdv A outer s H vs Q E hr h => ?_)
  obtain ⟨a0, a1, a2, a3, a4, rfl, h⟩ := h
  refine ⟨_, (pss_cons (ps_asg (pe_tup (pa_cons (pe_cmpR op_eq (pv 2) pe_str (nomark _)) (pa_cons (pv 3) (pa_cons (pv 4) pa_nil)))) (pg_sub (pe_fld (pv 0) rfl) (pv 1) set_list))
    (pss_cons (ps_if (pt_cmpR op_eq (pv 2) pe_str (nomark _)) (pss_cons (ps_fld (pv 0) pe_bl rfl)
      (pss_one (ps_raise0 rfl T.ex_PowerCut T.gC_PowerCut (by rfl) (takes_of (E := E) rfl rfl rfl rfl)))) pss_nil)
    (pss_one (ps_ret (pe_cmpR op_eq (pv 2) pe_str (nomark _)))))), ?_⟩
  rw [show L2.start N_Chip_settle [a0, a1, a2, a3, a4] = [some a0, some a1, some a2, some a3, some a4] from rfl]
  obtain ⟨x, l, lk, P, im, os, n, g, i, er, kd, pp, pg, rfl, rfl, rfl, rfl, rfl, ch, hi, hp, gp, her, q⟩ := h
  obtain ⟨dx, ex⟩ := ch.ob
  obtain ⟨bs, eb, tb⟩ := ch.bl
  have hl : bs.length = im.length := by rw [tb.len, List.length_map]
  have nxl := ch.ne
  walk_at "vv"
  refine v_eqS ?_
  walk_at "vv"
  refine a_tup (by simp) fun bp H1 hbp s1 e1 => ?_
  have ex1 := s1 _ _ ex
  have eb1 := s1 _ _ eb
  walk_at "vv"
  refine ⟨x, _, dx, _, _, rfl, ex1, T.cl_Chip, T.na_Chip_blocks, ch_bl, ?_⟩
  walk_at "vv"
  refine v_setL eb1 (m := i) (by unfold ixN; rw [if_pos (by omega), if_pos (by omega), Int.toNat_natCast]) ?_
  have k1 := TK.same s1
  have k2 : TK H1 (upd H1 l (.lst (bs.set i (.ref bp)))) := TK.mutL eb1
  have tdb : TD K H1 (.ref bp) (Bk.d ⟨decide (kd = "fails"), er, pg⟩) := td_mk (b := ⟨decide (kd = "fails"), er, pg⟩) (sqT_of e1) (k1.seq hp)
  have ch2 : ChAt K T.C_Chip x l lk (upd H1 l (.lst (bs.set i (.ref bp)))) P (im.set i ⟨decide (kd = "fails"), er, pg⟩) os n g := by
    refine ⟨⟨dx, by rw [upd_ne nxl]; exact ex1⟩, ⟨_, upd_same, ?_⟩, ch.lu.tk (k1.trans k2), ?_⟩
    · rw [List.map_set]
      exact ((tb.tk k1).set tdb).tk k2
    · obtain ⟨g1, g2, g3, g4, g5, g6⟩ := ch.ok
      refine ⟨by rw [List.length_set]; exact g1, by rw [List.length_set]; exact g2, g3, g4, g5, fun b hb => ?_⟩
      rcases List.mem_or_eq_of_mem_set hb with z | z
      · exact g6 b z
      · rw [z]; exact ⟨gp, her⟩
  have f2 : Fr2 x l H (upd H1 l (.lst (bs.set i (.ref bp)))) := (Fr2.same s1).trans Fr2.l
  generalize upd H1 l (.lst (bs.set i (.ref bp))) = H2 at ch2 f2 ⊢
  walk_at "vv"
  refine v_eqS ?_
  walk_at "vv"
  refine v_ifd (fun c => ?_) (fun c => ?_)
  · obtain ⟨dx2, ex2⟩ := ch2.ob
    walk_at "vv"
    refine ⟨x, _, dx2, _, rfl, ex2, T.cl_Chip, T.na_Chip_is_gone, ch_len, ?_⟩
    rw [put_g]
    have k3 : TK H2 (upd H2 x (.ins T.C_Chip dx2 (chF l lk n true))) := TK.mutI ex2
    have ch3 : ChAt K T.C_Chip x l lk (upd H2 x (.ins T.C_Chip dx2 (chF l lk n true))) P (im.set i ⟨decide (kd = "fails"), er, pg⟩) os n true := by
      obtain ⟨bs2, eb2, tb2⟩ := ch2.bl
      exact ⟨⟨dx2, upd_same⟩, ⟨bs2, by rw [upd_ne nxl.symm]; exact eb2, tb2.tk k3⟩, ch2.lu.tk k3, ch2.ok⟩
    exact (q _ true (f2.trans Fr2.x) ch3).1 c rfl
  · walk_at "vv"
    refine v_eqS ?_
    exact (q H2 g f2 ch2).2 c rfl
def spo_Chip_erase (K : PySem.W.Frag) (cs : Cds) (C_Chip C_PowerCut C_InvalidNumber C_InvalidPage : Addr) : Sp := spx2 fun s b H Q E => (∃ (x l lk : Addr) (P : Nat) (im : List Bk) (os : List Oc) (n : Nat) (g : Bool) (i : Nat), s = .ref x ∧ b = .int i ∧ ChAt K C_Chip x l lk H P im os n g ∧ n < 100 ∧ i < im.length ∧ ∀ (r : Option Bool) (im' : List Bk) (n' : Nat) (g' : Bool) (H' : Hp), Stp im os n g i (2 ^ (522 * P) - 1) (fun k => k.er + 1) pgE r im' n' g' → Fr2 x l H H' → ChAt K C_Chip x l lk H' P im' os n' g' → (r = none → E (.ref C_PowerCut) none H') ∧ ∀ t, r = some t → Q (.bl t) H') ∨ (∃ (x l lk : Addr) (P : Nat) (im : List Bk) (os : List Oc) (n : Nat) (g : Bool), s = .ref x ∧ ChAt K C_Chip x l lk H P im os n g ∧ Out b 0 ((im.length : Int) - 1) ∧ Rz C_InvalidNumber E H b)
abbrev sp_Chip_erase (K : PySem.W.Frag) (cs : Cds) (C_Chip C_PowerCut C_InvalidNumber C_InvalidPage : Addr) : Sp := spo_Chip_erase K cs C_Chip C_PowerCut C_InvalidNumber C_InvalidPage
theorem ok_Chip_erase (T : Txt K mg base) : FnOk P w K mg base (L2.CX P w) 6 T.f_Chip_erase T.fd_Chip_erase ["self", "block"] (sp_Chip_erase K T.cs T.C_Chip T.C_PowerCut T.C_InvalidNumber T.C_InvalidPage) := by
  refine T.F_Chip_erase.okX sc_Chip_erase lenx2 (fun cdv A outer s H vs Q E hr h => ?_)
  obtain ⟨a0, a1, rfl, h⟩ := h
  refine ⟨_, (pss_cons (ps_expr (pe_meth (pv 0) T.cl_Chip T.m_Chip_require_block_index (ok_Chip_require_block_index T) (hr.mono (by decide)) T.bi_Chip_require_block_index .nil (passes_call (E := E) (takes_of rfl rfl rfl rfl) (fun _ _ _ _ h => h)) (pa_cons (pv 1) pa_nil)))
    (pss_cons (ps_expr (pe_meth0 (pv 0) T.cl_Chip T.m_Chip_require_power (ok_Chip_require_power T) (hr.mono (by decide)) T.bi_Chip_require_power .nil (passes_call (E := E) (takes_of rfl rfl rfl rfl) (fun _ _ _ _ h => h))))
    (pss_cons (ps_asg (pe_ix ix_list (pe_fld (pv 0) rfl) (pv 1) (fun _ _ => rfl)) (pg_tup (by rfl) (pgs_cons (pg_name (i := 2) sc_Chip_erase.nd rfl (.inl rfl)) (pgs_cons (pg_name (i := 3) sc_Chip_erase.nd rfl (.inl rfl)) (pgs_cons (pg_name (i := 4) sc_Chip_erase.nd rfl (.inl rfl)) pgs_nil)))))
    (pss_cons (ps_if (pt_val (pv 2)) (pss_one (ps_ret pe_bl)) pss_nil)
    (pss_cons (ps_asg (pe_meth (pv 0) T.cl_Chip T.m_Chip_next_outcome (ok_Chip_next_outcome T) (hr.mono (by decide)) T.bi_Chip_next_outcome .nil (passes_call (E := E) (takes_of rfl rfl rfl rfl) (fun _ _ _ _ h => h)) (pa_cons (pe_op op_sub (pe_op op_shlW pe_int (pe_op op_mul (pe_glob (v := .int 522) rfl T.c_WIDTH ⟨_, rfl⟩) (pe_callB cv_len (by rfl) T.b_len PySem.boot_len (pa_cons (pv 4) pa_nil)))) pe_int) pa_nil)) (pg_tup (by rfl) (pgs_cons (pg_name (i := 5) sc_Chip_erase.nd rfl (.inl rfl)) (pgs_cons (pg_name (i := 6) sc_Chip_erase.nd rfl (.inr rfl)) pgs_nil))))
    (pss_cons (ps_set (i := 7) sc_Chip_erase.nd rfl (.inl rfl) (pe_callTy cv_tuple (by rfl) T.b_tuple (by decide +kernel) (pa_cons (pe_lc (own := [("index", 8), ("old", 9)]) (g := gTup K 2 (gCons (gName 8) (gCons (gName 9) gNil))) (tt := tYes) (by rfl) sc_Chip_erase.nd (pi_enq (by rfl) T.b_enumerate (pa_cons (pv 4) pa_nil)) (blkOk_by (own := [("index", 8), ("old", 9)]) (N := N_Chip_erase) (sc := defScope s_Chip_erase) (by decide +kernel)) (fun _ _ _ _ _ => (pg_tup (by rfl) (pgs_cons (pg_name (i := 8) sc_Chip_erase.nd rfl (.inl rfl)) (pgs_cons (pg_name (i := 9) sc_Chip_erase.nd rfl (.inl rfl)) pgs_nil)))) (fun _ _ _ _ _ => pts_nil) (fun _ _ _ _ _ => (pe_call (ok_erased T) (hr.mono (by decide)) (by rfl) T.g_erased T.F_erased.kp T.bi_erased .nil passF (pa_cons (pv 9) (pa_cons (pe_op op_shr (pv 6) (pe_op op_mul (pe_glob (v := .int 522) rfl T.c_WIDTH ⟨_, rfl⟩) (pv 8))) pa_nil))))) pa_nil)))
    (pss_one (ps_ret (pe_meth (pv 0) T.cl_Chip T.m_Chip_settle (ok_Chip_settle T) (hr.mono (by decide)) T.bi_Chip_settle .nil (passes_call (E := E) (takes_of rfl rfl rfl rfl) (fun _ _ _ _ h => h)) (pa_cons (pv 1) (pa_cons (pv 5) (pa_cons (pe_op op_add (pv 3) pe_int) (pa_cons (pv 7) pa_nil))))))))))))), ?_⟩
  rw [show L2.start N_Chip_erase [a0, a1] = [some a0, some a1, none, none, none, none, none, none, none, none] from rfl]
  rcases h with h | ⟨x, l, lk, P, im, os, n, g, rfl, ch, ou, r⟩
  case inr =>
    obtain ⟨dx, ex⟩ := ch.ob
    walk_at "vv"
    refine ⟨x, dx, _, rfl, ex, ch_no (by decide +kernel) (by decide +kernel) (by decide +kernel) (by decide +kernel), ?_⟩
    walk_at "vv"
    exact x2 ⟨x, l, lk, P, im, os, n, g, rfl, ch, .inr ⟨ou, r⟩⟩
  obtain ⟨x, l, lk, P, im, os, n, g, i, rfl, rfl, ch, hn, hi, q⟩ := h
  obtain ⟨dx, ex⟩ := ch.ob
  walk_at "vv"
  refine ⟨x, dx, _, rfl, ex, ch_no (by decide +kernel) (by decide +kernel) (by decide +kernel) (by decide +kernel), ?_⟩
  walk_at "vv"
  refine x2 ⟨x, l, lk, P, im, os, n, g, rfl, ch, .inl ⟨i, rfl, hi, ?_⟩⟩
  walk_at "vv"
  refine ⟨x, dx, _, rfl, ex, ch_no (by decide +kernel) (by decide +kernel) (by decide +kernel) (by decide +kernel), ?_⟩
  walk_at "vv"
  refine ⟨_, rfl, x, l, lk, P, im, os, n, g, rfl, ch, fun hg => (q none im n g H (.gone hg) Fr2.refl ch).1 rfl, fun hg => ?_⟩
  obtain ⟨bs, pb, qb, eb, tb, hl, hbi, e1, e2, gp, her⟩ := ch.blk hi
  have him : im[i]? = some im[i] := List.getElem?_eq_getElem hi
  generalize im[i] = k at e1 e2 gp her him
  walk_at "vv"
  refine ⟨x, _, dx, _, _, rfl, ex, T.cl_Chip, T.na_Chip_blocks, ch_bl, ?_⟩
  walk_at "vv"
  refine v_ixL (sqL_of eb) (atI_nat hbi) ?_
  refine v_gtup e1 rfl ?_
  walk_at "vv"
  refine v_ifb (fun c => ?_) (fun c => ?_)
  · walk_at "vv"
    exact (q (some false) im n g H (.bad hg him c) Fr2.refl ch).2 false rfl
  walk_at "vv"
  refine ⟨x, dx, _, rfl, ex, ch_no (by decide +kernel) (by decide +kernel) (by decide +kernel) (by decide +kernel), ?_⟩
  walk_at "vv"
  refine v_lenT e2 ?_
  walk_at "vv"
  rw [List.length_map, gp.1, show (522 : Int) * (P : Int) = ((522 * P : Nat) : Int) by omega]
  have hP12 := ch.ok.2.2.2.1
  refine v_I (small_shl (n := 0) (by omega)) ?_
  walk_at "vv"
  rw [full_of]
  refine c2 ⟨x, l, lk, P, im, os, n, g, 2 ^ (522 * P) - 1, rfl, rfl, ch, hn, fun po H1 eo f1 ch1 => ?_⟩
  have k1 : TK H H1 := tk_fr2 ch f1
  refine v_gtup eo rfl ?_
  walk_at "vv"
  generalize hmk : (outc os n (2 ^ (522 * P) - 1)).2 = mk at eo ⊢
  have e21 := k1.seq e2
  refine v_iEnq ?_
  walk_at "vv"
  refine ⟨qb, _, rfl, e21, fun D hD => ?_⟩
  refine lc_enq (xs := k.pg.map vN) (fun j H2 => H2 D = some (.lst (((List.range j).map fun a => k.pg.getD a 0 ||| ((mk / 2 ^ (522 * a)) &&& FL)).map vN)) ∧ Same H1 H2) ⟨upd_same, same_new hD⟩ (fun j H2 _ h => Same.seqT h.2 e21) ?_ ?_
  · rintro j y H2 Tq H3 hy ⟨hD2, s2⟩ hT s3 eT
    obtain ⟨v, hv, rfl⟩ := vN_get hy
    have hj : j < k.pg.length := (List.getElem?_eq_some_iff.mp hv).1
    refine v_gtup (sqT_of eT) rfl ?_
    walk_at "vv"
    refine ⟨rfl, ?_⟩
    walk_at "vv"
    rw [show (522 : Int) * (j : Int) = ((522 * j : Nat) : Int) by omega]
    refine v_I (show (0 : Int) ≤ ((522 * j : Nat) : Int) by omega) ?_
    rw [shrN]
    walk_at "vv"
    refine c2 ⟨v, mk / 2 ^ (522 * j), rfl, rfl, gp.2 v (List.mem_of_getElem? hv), ?_⟩
    have hD : k.pg.getD j 0 = v := by rw [List.getD_eq_getElem?_getD, hv]; rfl
    refine ⟨_, s3 _ _ hD2, by rw [List.length_map, List.length_map, List.length_range]; exact small1000 (by have := gp.1; omega), ?_, same_own (fun b o e => s3 _ _ (s2 _ _ e)) (by assumption)⟩
    rw [upd_same, List.range_succ, List.map_append, List.map_append, ← hD]
    rfl
  · rintro H2 ⟨hD2, s2⟩
    rw [List.length_map] at hD2
    walk_at "vv"
    refine a_tupL (sqL_of hD2) fun t5 H3 ht5 s3 et5 => ?_
    have s13 : Same H1 H3 := fun b o e => s3 _ _ (s2 _ _ e)
    obtain ⟨dx1, ex1⟩ := (ch1.same s13).ob
    walk_at "vv"
    refine ⟨x, dx1, _, rfl, ex1, ch_no (by decide +kernel) (by decide +kernel) (by decide +kernel) (by decide +kernel), ?_⟩
    walk_at "vv"
    rw [show ((k.er : Int) + 1) = ((k.er + 1 : Nat) : Int) by omega]
    have epg : ((List.range k.pg.length).map fun a => k.pg.getD a 0 ||| ((mk / 2 ^ (522 * a)) &&& FL)) = pgE k mk := rfl
    rw [epg] at et5
    refine ⟨_, _, _, _, _, rfl, x, l, lk, P, im, os, n + 1, g, i, k.er + 1, (outc os n (2 ^ (522 * P) - 1)).1, t5, _, rfl, rfl, rfl, rfl, rfl, ch1.same s13, hi, sqT_of et5, gp_erase gp, by omega, fun H7 g7 f7 ch7 => ?_⟩
    have st := Stp.run (n := n) (os := os) (dm := 2 ^ (522 * P) - 1) (erf := fun k => k.er + 1) (pgf := pgE) hg him c
    rw [hmk] at st
    have fr := (f1.trans (Fr2.same s13)).trans f7
    generalize (outc os n (2 ^ (522 * P) - 1)).1 = kd at st ch7 ⊢
    refine ⟨fun hc h7 => ?_, fun hc h7 => ?_⟩
    · rw [show decide (kd = "cut") = true from decide_eq_true hc, show stepR kd = none by unfold stepR; rw [if_pos hc]] at st
      exact (q none _ _ true H7 st fr (h7 ▸ ch7)).1 rfl
    · rw [show decide (kd = "cut") = false from decide_eq_false hc, show stepR kd = some (decide (kd = "done")) by unfold stepR; rw [if_neg hc]] at st
      refine (q _ _ _ false H7 st fr ?_).2 _ rfl
      rw [h7, hg] at ch7
      exact ch7
def spo_Chip_image (K : PySem.W.Frag) (cs : Cds) (C_Chip C_PowerCut C_InvalidNumber C_InvalidPage : Addr) : Sp := sp1 fun s H Q => ∃ (x l lk : Addr) (P : Nat) (im : List Bk) (os : List Oc) (n : Nat) (g : Bool), s = .ref x ∧ ChAt K C_Chip x l lk H P im os n g ∧ ∀ p H', Same H H' → TD K H' (.ref p) (.tup (im.map Bk.d)) → Q (.ref p) H'
abbrev sp_Chip_image (K : PySem.W.Frag) (cs : Cds) (C_Chip C_PowerCut C_InvalidNumber C_InvalidPage : Addr) : Sp := spo_Chip_image K cs C_Chip C_PowerCut C_InvalidNumber C_InvalidPage
theorem ok_Chip_image (T : Txt K mg base) : FnOk P w K mg base (L2.CX P w) 1 T.f_Chip_image T.fd_Chip_image ["self"] (sp_Chip_image K T.cs T.C_Chip T.C_PowerCut T.C_InvalidNumber T.C_InvalidPage) := by
  refine T.F_Chip_image.okX sc_Chip_image len1 (fun cdv A outer s H vs Q E hr h => ?_)
  obtain ⟨a0, rfl, h⟩ := h
  refine ⟨_, (pss_one (ps_ret (pe_callTy cv_tuple (by rfl) T.b_tuple (by decide +kernel) (pa_cons (pe_fld (pv 0) rfl) pa_nil)))), ?_⟩
  rw [show L2.start N_Chip_image [a0] = [some a0] from rfl]
  obtain ⟨x, l, lk, P, im, os, n, g, rfl, ch, q⟩ := h
  obtain ⟨dx, ex⟩ := ch.ob
  obtain ⟨bs, eb, tb⟩ := ch.bl
  walk_at "vv"
  refine ⟨x, _, dx, _, _, rfl, ex, T.cl_Chip, T.na_Chip_blocks, ch_bl, ?_⟩
  walk_at "vv"
  refine a_tupL (sqL_of eb) fun t H1 ht s1 e1 => ?_
  exact q t H1 s1 (.tup (sqT_of e1) (tb.tk (TK.same s1)))
def spo_Chip_operations (K : PySem.W.Frag) (cs : Cds) (C_Chip C_PowerCut C_InvalidNumber C_InvalidPage : Addr) : Sp := sp1 fun s H Q => ∃ (x l lk : Addr) (P : Nat) (im : List Bk) (os : List Oc) (n : Nat) (g : Bool), s = .ref x ∧ ChAt K C_Chip x l lk H P im os n g ∧ Q (.int (n : Int)) H
abbrev sp_Chip_operations (K : PySem.W.Frag) (cs : Cds) (C_Chip C_PowerCut C_InvalidNumber C_InvalidPage : Addr) : Sp := spo_Chip_operations K cs C_Chip C_PowerCut C_InvalidNumber C_InvalidPage
theorem ok_Chip_operations (T : Txt K mg base) : FnOk P w K mg base (L2.CX P w) 1 T.f_Chip_operations T.fd_Chip_operations ["self"] (sp_Chip_operations K T.cs T.C_Chip T.C_PowerCut T.C_InvalidNumber T.C_InvalidPage) := by
  refine T.F_Chip_operations.okX sc_Chip_operations len1 (fun cdv A outer s H vs Q E hr h => ?_)
  obtain ⟨a0, rfl, h⟩ := h
  refine ⟨_, (pss_one (ps_ret (pe_fld (pv 0) rfl))), ?_⟩
  rw [show L2.start N_Chip_operations [a0] = [some a0] from rfl]
  obtain ⟨x, l, lk, P, im, os, n, g, rfl, ch, q⟩ := h
  obtain ⟨dx, ex⟩ := ch.ob
  walk_at "vv"
  refine ⟨x, _, dx, _, _, rfl, ex, T.cl_Chip, T.na_Chip_begun, ch_n, ?_⟩
  exact q
def spo_Chip_is_cut (K : PySem.W.Frag) (cs : Cds) (C_Chip C_PowerCut C_InvalidNumber C_InvalidPage : Addr) : Sp := sp1 fun s H Q => ∃ (x l lk : Addr) (P : Nat) (im : List Bk) (os : List Oc) (n : Nat) (g : Bool), s = .ref x ∧ ChAt K C_Chip x l lk H P im os n g ∧ Q (.bl g) H
abbrev sp_Chip_is_cut (K : PySem.W.Frag) (cs : Cds) (C_Chip C_PowerCut C_InvalidNumber C_InvalidPage : Addr) : Sp := spo_Chip_is_cut K cs C_Chip C_PowerCut C_InvalidNumber C_InvalidPage
theorem ok_Chip_is_cut (T : Txt K mg base) : FnOk P w K mg base (L2.CX P w) 1 T.f_Chip_is_cut T.fd_Chip_is_cut ["self"] (sp_Chip_is_cut K T.cs T.C_Chip T.C_PowerCut T.C_InvalidNumber T.C_InvalidPage) := by
  refine T.F_Chip_is_cut.okX sc_Chip_is_cut len1 (fun cdv A outer s H vs Q E hr h => ?_)
  obtain ⟨a0, rfl, h⟩ := h
  refine ⟨_, (pss_one (ps_ret (pe_fld (pv 0) rfl))), ?_⟩
  rw [show L2.start N_Chip_is_cut [a0] = [some a0] from rfl]
  obtain ⟨x, l, lk, P, im, os, n, g, rfl, ch, q⟩ := h
  obtain ⟨dx, ex⟩ := ch.ob
  walk_at "vv"
  refine ⟨x, _, dx, _, _, rfl, ex, T.cl_Chip, T.na_Chip_is_gone, ch_g, ?_⟩
  exact q
def spo_Chip_size (K : PySem.W.Frag) (cs : Cds) (C_Chip C_PowerCut C_InvalidNumber C_InvalidPage : Addr) : Sp := sp1 fun s H Q => ∃ (x l lk : Addr) (P : Nat) (im : List Bk) (os : List Oc) (n : Nat) (g : Bool), s = .ref x ∧ ChAt K C_Chip x l lk H P im os n g ∧ ∀ p H', Same H H' → TD K H' (.ref p) (.tup [.int (im.length : Int), .int (P : Int)]) → Q (.ref p) H'
abbrev sp_Chip_size (K : PySem.W.Frag) (cs : Cds) (C_Chip C_PowerCut C_InvalidNumber C_InvalidPage : Addr) : Sp := spo_Chip_size K cs C_Chip C_PowerCut C_InvalidNumber C_InvalidPage
theorem ok_Chip_size (T : Txt K mg base) : FnOk P w K mg base (L2.CX P w) 1 T.f_Chip_size T.fd_Chip_size ["self"] (sp_Chip_size K T.cs T.C_Chip T.C_PowerCut T.C_InvalidNumber T.C_InvalidPage) := by
  refine T.F_Chip_size.okX sc_Chip_size len1 (fun cdv A outer s H vs Q E hr h => ?_)
  obtain ⟨a0, rfl, h⟩ := h
  refine ⟨_, (pss_one (ps_ret (pe_tup (pa_cons (pe_callB cv_len (by rfl) T.b_len PySem.boot_len (pa_cons (pe_fld (pv 0) rfl) pa_nil)) (pa_cons (pe_callB cv_len (by rfl) T.b_len PySem.boot_len (pa_cons (pe_ix ix_tup (pe_ix ix_list (pe_fld (pv 0) rfl) pe_int (fun _ _ => rfl)) pe_int (fun _ _ => rfl)) pa_nil)) pa_nil))))), ?_⟩
  rw [show L2.start N_Chip_size [a0] = [some a0] from rfl]
  obtain ⟨x, l, lk, P, im, os, n, g, rfl, ch, q⟩ := h
  obtain ⟨dx, ex⟩ := ch.ob
  obtain ⟨bs, pb, qb, eb, tb, hl, hbi, e1, e2, gp, her⟩ := ch.blk (i := 0) (by have := ch.ok.1; omega)
  walk_at "vv"
  refine ⟨x, _, dx, _, _, rfl, ex, T.cl_Chip, T.na_Chip_blocks, ch_bl, ?_⟩
  walk_at "vv"
  refine v_lenL (sqL_of eb) ?_
  walk_at "vv"
  refine ⟨x, _, dx, _, _, rfl, ex, T.cl_Chip, T.na_Chip_blocks, ch_bl, ?_⟩
  walk_at "vv"
  refine v_ixL (sqL_of eb) (atI_nat (j := 0) hbi) ?_
  walk_at "vv"
  refine v_ixT e1 (atI_nat (j := 2) rfl) ?_
  walk_at "vv"
  refine v_lenT e2 ?_
  walk_at "vv"
  rw [List.length_map, gp.1, hl]
  refine a_tup (by simp) fun p H1 hp s1 ep => ?_
  exact q p H1 s1 (.tup (sqT_of ep) (.cons (.int _) (.cons (.int _) .nil)))
def spo_Chip_require_page_index (K : PySem.W.Frag) (cs : Cds) (C_Chip C_PowerCut C_InvalidNumber C_InvalidPage : Addr) : Sp := spx3 fun s b p H Q E => ∃ (x l lk : Addr) (P : Nat) (im : List Bk) (os : List Oc) (n : Nat) (g : Bool), s = .ref x ∧ ChAt K C_Chip x l lk H P im os n g ∧ ((∃ i j : Nat, b = .int i ∧ p = .int j ∧ i < im.length ∧ j < P ∧ Q .non H) ∨ (∃ i : Nat, b = .int i ∧ i < im.length ∧ Out p 0 ((P : Int) - 1) ∧ Rz C_InvalidNumber E H p))
abbrev sp_Chip_require_page_index (K : PySem.W.Frag) (cs : Cds) (C_Chip C_PowerCut C_InvalidNumber C_InvalidPage : Addr) : Sp := spo_Chip_require_page_index K cs C_Chip C_PowerCut C_InvalidNumber C_InvalidPage
theorem ok_Chip_require_page_index (T : Txt K mg base) : FnOk P w K mg base (L2.CX P w) 5 T.f_Chip_require_page_index T.fd_Chip_require_page_index ["self", "block", "page"] (sp_Chip_require_page_index K T.cs T.C_Chip T.C_PowerCut T.C_InvalidNumber T.C_InvalidPage) := by
  refine T.F_Chip_require_page_index.okX sc_Chip_require_page_index lenx3 (fun cdv A outer s H vs Q E hr h => ?_)
  obtain ⟨a0, a1, a2, rfl, h⟩ := h
  refine ⟨_, (pss_cons (ps_expr (pe_meth (pv 0) T.cl_Chip T.m_Chip_require_block_index (ok_Chip_require_block_index T) (hr.mono (by decide)) T.bi_Chip_require_block_index .nil (passes_call (E := E) (takes_of rfl rfl rfl rfl) (fun _ _ _ _ h => h)) (pa_cons (pv 1) pa_nil)))
    (pss_one (ps_expr (pe_call (ok_require_between T) (hr.mono (by decide)) (by rfl) T.g_require_between T.F_require_between.kp T.bi_require_between .nil (passes_call (E := E) (takes_of rfl rfl rfl rfl) (fun _ _ _ _ h => h)) (pa_cons (pv 2) (pa_cons pe_int (pa_cons (pe_op op_sub (pe_callB cv_len (by rfl) T.b_len PySem.boot_len (pa_cons (pe_ix ix_tup (pe_ix ix_list (pe_fld (pv 0) rfl) pe_int (fun _ _ => rfl)) pe_int (fun _ _ => rfl)) pa_nil)) pe_int) pa_nil))))))), ?_⟩
  rw [show L2.start N_Chip_require_page_index [a0, a1, a2] = [some a0, some a1, some a2] from rfl]
  obtain ⟨x, l, lk, P, im, os, n, g, rfl, ch, q⟩ := h
  obtain ⟨dx, ex⟩ := ch.ob
  obtain ⟨bs, p0, q0, eb, tb, hl, h0, e0, e1, gp, _⟩ := ch.blk (i := 0) (by have := ch.ok.1; omega)
  have rest : ∀ {v : V}, ((∃ j : Nat, v = .int j ∧ j < P ∧ Q .non H) ∨ (Out v 0 ((P : Int) - 1) ∧ Rz T.C_InvalidNumber E H v)) → sp_require_between K T.cs T.C_Chip T.C_PowerCut T.C_InvalidNumber T.C_InvalidPage ([v, .int 0, .int ((P : Int) - 1)] ++ []) H (fun v H' => Q .non H') E := fun {v} q => by
    rcases q with ⟨j, rfl, hj, q⟩ | ⟨ou, q⟩
    · exact x3 (.inl ⟨j, 0, (P : Int) - 1, rfl, rfl, rfl, by omega, by omega, q⟩)
    · exact x3 (.inr ⟨0, (P : Int) - 1, ou, rfl, rfl, q⟩)
  obtain ⟨i, rfl, hi, q⟩ : ∃ i : Nat, a1 = .int i ∧ i < im.length ∧ ((∃ j : Nat, a2 = .int j ∧ j < P ∧ Q .non H) ∨ (Out a2 0 ((P : Int) - 1) ∧ Rz T.C_InvalidNumber E H a2)) := by
    rcases q with ⟨i, j, rfl, rfl, hi, hj, q⟩ | ⟨i, rfl, hi, ou, q⟩
    · exact ⟨i, rfl, hi, .inl ⟨j, rfl, hj, q⟩⟩
    · exact ⟨i, rfl, hi, .inr ⟨ou, q⟩⟩
  walk_at "vv"
  refine ⟨x, dx, _, rfl, ex, ch_no (by decide +kernel) (by decide +kernel) (by decide +kernel) (by decide +kernel), ?_⟩
  walk_at "vv"
  refine x2 ⟨x, l, lk, P, im, os, n, g, rfl, ch, .inl ⟨i, rfl, hi, ?_⟩⟩
  walk_at "vv"
  refine ⟨x, _, dx, _, _, rfl, ex, T.cl_Chip, T.na_Chip_blocks, ch_bl, ?_⟩
  walk_at "vv"
  refine v_ixL (sqL_of eb) (atI_nat (j := 0) h0) ?_
  walk_at "vv"
  refine v_ixT e0 rfl ?_
  walk_at "vv"
  refine v_lenT e1 ?_
  walk_at "vv"
  rw [List.length_map, gp.1]
  exact rest q
def spo_Chip_read (K : PySem.W.Frag) (cs : Cds) (C_Chip C_PowerCut C_InvalidNumber C_InvalidPage : Addr) : Sp := spx3 fun s b p H Q E => (∃ (x l lk : Addr) (P : Nat) (im : List Bk) (os : List Oc) (n : Nat) (g : Bool) (i j : Nat), s = .ref x ∧ b = .int i ∧ p = .int j ∧ ChAt K C_Chip x l lk H P im os n g ∧ i < im.length ∧ j < P ∧ (g = true → E (.ref C_PowerCut) none H) ∧ (g = false → ∀ k w, im[i]? = some k → k.pg[j]? = some w → Q (vN w) H)) ∨ (∃ (x l lk : Addr) (P : Nat) (im : List Bk) (os : List Oc) (n : Nat) (g : Bool), s = .ref x ∧ b = .int (0 : Nat) ∧ ChAt K C_Chip x l lk H P im os n g ∧ Out p 0 ((P : Int) - 1) ∧ Rz C_InvalidNumber E H p)
abbrev sp_Chip_read (K : PySem.W.Frag) (cs : Cds) (C_Chip C_PowerCut C_InvalidNumber C_InvalidPage : Addr) : Sp := spo_Chip_read K cs C_Chip C_PowerCut C_InvalidNumber C_InvalidPage
theorem ok_Chip_read (T : Txt K mg base) : FnOk P w K mg base (L2.CX P w) 6 T.f_Chip_read T.fd_Chip_read ["self", "block", "page"] (sp_Chip_read K T.cs T.C_Chip T.C_PowerCut T.C_InvalidNumber T.C_InvalidPage) := by
  refine T.F_Chip_read.okX sc_Chip_read lenx3 (fun cdv A outer s H vs Q E hr h => ?_)
  obtain ⟨a0, a1, a2, rfl, h⟩ := h
  refine ⟨_, (pss_cons (ps_expr (pe_meth (pv 0) T.cl_Chip T.m_Chip_require_page_index (ok_Chip_require_page_index T) (hr.mono (by decide)) T.bi_Chip_require_page_index .nil (passes_call (E := E) (takes_of rfl rfl rfl rfl) (fun _ _ _ _ h => h)) (pa_cons (pv 1) (pa_cons (pv 2) pa_nil))))
    (pss_cons (ps_expr (pe_meth0 (pv 0) T.cl_Chip T.m_Chip_require_power (ok_Chip_require_power T) (hr.mono (by decide)) T.bi_Chip_require_power .nil (passes_call (E := E) (takes_of rfl rfl rfl rfl) (fun _ _ _ _ h => h))))
    (pss_one (ps_ret (pe_ix ix_tup (pe_ix ix_tup (pe_ix ix_list (pe_fld (pv 0) rfl) (pv 1) (fun _ _ => rfl)) pe_int (fun _ _ => rfl)) (pv 2) (fun _ _ => rfl)))))), ?_⟩
  rw [show L2.start N_Chip_read [a0, a1, a2] = [some a0, some a1, some a2] from rfl]
  rcases h with h | ⟨x, l, lk, P, im, os, n, g, rfl, rfl, ch, ou, r⟩
  case inr =>
    obtain ⟨dx, ex⟩ := ch.ob
    have h5 := ch.ok.1
    walk_at "vv"
    refine ⟨x, dx, _, rfl, ex, ch_no (by decide +kernel) (by decide +kernel) (by decide +kernel) (by decide +kernel), ?_⟩
    walk_at "vv"
    exact x3 ⟨x, l, lk, P, im, os, n, g, rfl, ch, .inr ⟨0, rfl, by omega, ou, r⟩⟩
  obtain ⟨x, l, lk, P, im, os, n, g, i, j, rfl, rfl, rfl, ch, hi, hj, q1, q2⟩ := h
  obtain ⟨dx, ex⟩ := ch.ob
  walk_at "vv"
  refine ⟨x, dx, _, rfl, ex, ch_no (by decide +kernel) (by decide +kernel) (by decide +kernel) (by decide +kernel), ?_⟩
  walk_at "vv"
  refine x3 ⟨x, l, lk, P, im, os, n, g, rfl, ch, .inl ⟨i, j, rfl, rfl, hi, hj, ?_⟩⟩
  walk_at "vv"
  refine ⟨x, dx, _, rfl, ex, ch_no (by decide +kernel) (by decide +kernel) (by decide +kernel) (by decide +kernel), ?_⟩
  walk_at "vv"
  refine ⟨_, rfl, x, l, lk, P, im, os, n, g, rfl, ch, fun hg => q1 hg, fun hg => ?_⟩
  obtain ⟨bs, pb, qb, eb, tb, hl, hbi, e1, e2, gp, her⟩ := ch.blk hi
  have him : im[i]? = some im[i] := List.getElem?_eq_getElem hi
  generalize im[i] = k at e1 e2 gp her him
  have hw : k.pg[j]? = some (k.pg[j]'(by have := gp.1; omega)) := List.getElem?_eq_getElem _
  walk_at "vv"
  refine ⟨x, _, dx, _, _, rfl, ex, T.cl_Chip, T.na_Chip_blocks, ch_bl, ?_⟩
  walk_at "vv"
  refine v_ixL (sqL_of eb) (atI_nat hbi) ?_
  walk_at "vv"
  refine v_ixT e1 (atI_nat (j := 2) rfl) ?_
  walk_at "vv"
  refine v_ixT e2 (atI_nat (by rw [List.getElem?_map, hw]; rfl)) ?_
  exact q2 hg _ _ him hw
def spo_programmed (K : PySem.W.Frag) (cs : Cds) (C_Chip C_PowerCut C_InvalidNumber C_InvalidPage : Addr) : Sp := sp3 fun o w m H Q => ∃ a b c : Nat, o = .int a ∧ w = .int b ∧ m = .int c ∧ a < MX ∧ b < MX ∧ Q (.int (a &&& (b ||| c) : Nat)) H
abbrev sp_programmed (K : PySem.W.Frag) (cs : Cds) (C_Chip C_PowerCut C_InvalidNumber C_InvalidPage : Addr) : Sp := spo_programmed K cs C_Chip C_PowerCut C_InvalidNumber C_InvalidPage
theorem ok_programmed (T : Txt K mg base) : FnOk P w K mg base (L2.CX P w) 5 T.f_programmed T.fd_programmed ["old", "word", "mask"] (sp_programmed K T.cs T.C_Chip T.C_PowerCut T.C_InvalidNumber T.C_InvalidPage) := by
  refine T.F_programmed.okX sc_programmed len3 (fun cdv A outer s H vs Q E hr h => ?_)
  obtain ⟨a0, a1, a2, rfl, h⟩ := h
  refine ⟨_, (pss_cons (ps_expr (pe_call (ok_require_page T) (hr.mono (by decide)) (by rfl) T.g_require_page T.F_require_page.kp T.bi_require_page .nil (passes_call (E := E) (takes_of rfl rfl rfl rfl) (fun _ _ _ _ h => h)) (pa_cons (pv 0) pa_nil)))
    (pss_cons (ps_expr (pe_call (ok_require_page T) (hr.mono (by decide)) (by rfl) T.g_require_page T.F_require_page.kp T.bi_require_page .nil (passes_call (E := E) (takes_of rfl rfl rfl rfl) (fun _ _ _ _ h => h)) (pa_cons (pv 1) pa_nil)))
    (pss_cons (ps_expr (pe_call (ok_require_from T) (hr.mono (by decide)) (by rfl) T.g_require_from T.F_require_from.kp T.bi_require_from .nil (passes_call (E := E) (takes_of rfl rfl rfl rfl) (fun _ _ _ _ h => h)) (pa_cons (pv 2) (pa_cons pe_int pa_nil))))
    (pss_one (ps_ret (pe_op op_and (pv 0) (pe_op op_or (pv 1) (pv 2)))))))), ?_⟩
  rw [show L2.start N_programmed [a0, a1, a2] = [some a0, some a1, some a2] from rfl]
  obtain ⟨a, b, c, rfl, rfl, rfl, ha, hb, q⟩ := h
  walk_at "vv"
  refine x1 (.inl ⟨a, rfl, ha, ?_⟩)
  walk_at "vv"
  refine x1 (.inl ⟨b, rfl, hb, ?_⟩)
  walk_at "vv"
  refine c2 ⟨c, 0, rfl, rfl, by omega, ?_⟩
  walk_at "vv"
  rw [bO, bA]
  exact q
def spo_Chip_program (K : PySem.W.Frag) (cs : Cds) (C_Chip C_PowerCut C_InvalidNumber C_InvalidPage : Addr) : Sp := spx4 fun s b p w H Q E => (∃ (x l lk : Addr) (P : Nat) (im : List Bk) (os : List Oc) (n : Nat) (g : Bool) (i j wd : Nat), s = .ref x ∧ b = .int i ∧ p = .int j ∧ w = .int wd ∧ ChAt K C_Chip x l lk H P im os n g ∧ n < 100 ∧ i < im.length ∧ j < P ∧ wd < MX ∧ ∀ (r : Option Bool) (im' : List Bk) (n' : Nat) (g' : Bool) (H' : Hp), Stp im os n g i 0 Bk.er (pgP j wd) r im' n' g' → Fr2 x l H H' → ChAt K C_Chip x l lk H' P im' os n' g' → (r = none → E (.ref C_PowerCut) none H') ∧ ∀ t, r = some t → Q (.bl t) H') ∨ (∃ (x l lk : Addr) (P : Nat) (im : List Bk) (os : List Oc) (n : Nat) (g : Bool), s = .ref x ∧ b = .int (0 : Nat) ∧ ChAt K C_Chip x l lk H P im os n g ∧ ((Out p 0 ((P : Int) - 1) ∧ Rz C_InvalidNumber E H p) ∨ (p = .int (0 : Nat) ∧ ∃ i : Int, w = .int i ∧ (MX : Int) ≤ i ∧ Rz C_InvalidPage E H w)))
abbrev sp_Chip_program (K : PySem.W.Frag) (cs : Cds) (C_Chip C_PowerCut C_InvalidNumber C_InvalidPage : Addr) : Sp := spo_Chip_program K cs C_Chip C_PowerCut C_InvalidNumber C_InvalidPage
theorem ok_Chip_program (T : Txt K mg base) : FnOk P w K mg base (L2.CX P w) 6 T.f_Chip_program T.fd_Chip_program ["self", "block", "page", "word"] (sp_Chip_program K T.cs T.C_Chip T.C_PowerCut T.C_InvalidNumber T.C_InvalidPage) := by
  refine T.F_Chip_program.okX sc_Chip_program lenx4 (fun cdv A outer s H vs Q E hr h => ?_)
  obtain ⟨a0, a1, a2, a3, rfl, h⟩ := h
  refine ⟨_, (pss_cons (ps_expr (pe_meth (pv 0) T.cl_Chip T.m_Chip_require_page_index (ok_Chip_require_page_index T) (hr.mono (by decide)) T.bi_Chip_require_page_index .nil (passes_call (E := E) (takes_of rfl rfl rfl rfl) (fun _ _ _ _ h => h)) (pa_cons (pv 1) (pa_cons (pv 2) pa_nil))))
    (pss_cons (ps_expr (pe_call (ok_require_page T) (hr.mono (by decide)) (by rfl) T.g_require_page T.F_require_page.kp T.bi_require_page .nil (passes_call (E := E) (takes_of rfl rfl rfl rfl) (fun _ _ _ _ h => h)) (pa_cons (pv 3) pa_nil)))
    (pss_cons (ps_expr (pe_meth0 (pv 0) T.cl_Chip T.m_Chip_require_power (ok_Chip_require_power T) (hr.mono (by decide)) T.bi_Chip_require_power .nil (passes_call (E := E) (takes_of rfl rfl rfl rfl) (fun _ _ _ _ h => h))))
    (pss_cons (ps_asg (pe_ix ix_list (pe_fld (pv 0) rfl) (pv 1) (fun _ _ => rfl)) (pg_tup (by rfl) (pgs_cons (pg_name (i := 4) sc_Chip_program.nd rfl (.inl rfl)) (pgs_cons (pg_name (i := 5) sc_Chip_program.nd rfl (.inl rfl)) (pgs_cons (pg_name (i := 6) sc_Chip_program.nd rfl (.inl rfl)) pgs_nil)))))
    (pss_cons (ps_if (pt_val (pv 4)) (pss_one (ps_ret pe_bl)) pss_nil)
    (pss_cons (ps_asg (pe_meth (pv 0) T.cl_Chip T.m_Chip_next_outcome (ok_Chip_next_outcome T) (hr.mono (by decide)) T.bi_Chip_next_outcome .nil (passes_call (E := E) (takes_of rfl rfl rfl rfl) (fun _ _ _ _ h => h)) (pa_cons pe_int pa_nil)) (pg_tup (by rfl) (pgs_cons (pg_name (i := 7) sc_Chip_program.nd rfl (.inl rfl)) (pgs_cons (pg_name (i := 8) sc_Chip_program.nd rfl (.inl rfl)) pgs_nil))))
    (pss_cons (ps_set (i := 9) sc_Chip_program.nd rfl (.inl rfl) (pe_call (ok_programmed T) (hr.mono (by decide)) (by rfl) T.g_programmed T.F_programmed.kp T.bi_programmed .nil (passes_call (E := E) (takes_of rfl rfl rfl rfl) (fun _ _ _ _ h => h)) (pa_cons (pe_ix ix_tup (pv 6) (pv 2) (fun _ _ => rfl)) (pa_cons (pv 3) (pa_cons (pv 8) pa_nil)))))
    (pss_one (ps_ret (pe_meth (pv 0) T.cl_Chip T.m_Chip_settle (ok_Chip_settle T) (hr.mono (by decide)) T.bi_Chip_settle .nil (passes_call (E := E) (takes_of rfl rfl rfl rfl) (fun _ _ _ _ h => h)) (pa_cons (pv 1) (pa_cons (pv 7) (pa_cons (pv 5) (pa_cons (pe_op op_catA (pe_op op_catA (pe_slice sl_tupA (pv 6) po_none (po_some (pv 2))) (pe_tup (pa_cons (pv 9) pa_nil))) (pe_slice sl_tupA (pv 6) (po_some (pe_op op_add (pv 2) pe_int)) po_none)) pa_nil)))))))))))))), ?_⟩
  rw [show L2.start N_Chip_program [a0, a1, a2, a3] = [some a0, some a1, some a2, some a3, none, none, none, none, none, none] from rfl]
  rcases h with h | ⟨x, l, lk, P, im, os, n, g, rfl, rfl, ch, h⟩
  case inr =>
    obtain ⟨dx, ex⟩ := ch.ob
    have h5 := ch.ok.1
    have p5 := ch.ok.2.2.1
    walk_at "vv"
    refine ⟨x, dx, _, rfl, ex, ch_no (by decide +kernel) (by decide +kernel) (by decide +kernel) (by decide +kernel), ?_⟩
    walk_at "vv"
    rcases h with ⟨ou, r⟩ | ⟨rfl, i, rfl, hi, r⟩
    · exact x3 ⟨x, l, lk, P, im, os, n, g, rfl, ch, .inr ⟨0, rfl, by omega, ou, r⟩⟩
    · refine x3 ⟨x, l, lk, P, im, os, n, g, rfl, ch, .inl ⟨0, 0, rfl, rfl, by omega, by omega, ?_⟩⟩
      walk_at "vv"
      exact x1 (.inr ⟨i, rfl, hi, r⟩)
  obtain ⟨x, l, lk, P, im, os, n, g, i, j, wd, rfl, rfl, rfl, rfl, ch, hn, hi, hj, hw, q⟩ := h
  obtain ⟨dx, ex⟩ := ch.ob
  have noM : ∀ {m : PySem.Str}, (m == "_blocks") = false → (m == "_luck") = false → (m == "_begun") = false → (m == "_is_gone") = false → ∀ {n g}, (chF l lk n g).lookup m = none := fun h1 h2 h3 h4 => ch_no h1 h2 h3 h4
  walk_at "vv"
  refine ⟨x, dx, _, rfl, ex, ch_no (by decide +kernel) (by decide +kernel) (by decide +kernel) (by decide +kernel), ?_⟩
  walk_at "vv"
  refine x3 ⟨x, l, lk, P, im, os, n, g, rfl, ch, .inl ⟨i, j, rfl, rfl, hi, hj, ?_⟩⟩
  walk_at "vv"
  refine x1 (.inl ⟨wd, rfl, hw, ?_⟩)
  walk_at "vv"
  refine ⟨x, dx, _, rfl, ex, ch_no (by decide +kernel) (by decide +kernel) (by decide +kernel) (by decide +kernel), ?_⟩
  walk_at "vv"
  refine ⟨_, rfl, x, l, lk, P, im, os, n, g, rfl, ch, fun hg => (q none im n g H (.gone hg) Fr2.refl ch).1 rfl, fun hg => ?_⟩
  obtain ⟨bs, pb, qb, eb, tb, hl, hbi, e1, e2, gp, her⟩ := ch.blk hi
  have him : im[i]? = some im[i] := List.getElem?_eq_getElem hi
  generalize im[i] = k at e1 e2 gp her him
  have hP12 := ch.ok.2.2.2.1
  have hlen := gp.1
  walk_at "vv"
  refine ⟨x, _, dx, _, _, rfl, ex, T.cl_Chip, T.na_Chip_blocks, ch_bl, ?_⟩
  walk_at "vv"
  refine v_ixL (sqL_of eb) (atI_nat hbi) ?_
  refine v_gtup e1 rfl ?_
  walk_at "vv"
  refine v_ifb (fun c => ?_) (fun c => ?_)
  · walk_at "vv"
    exact (q (some false) im n g H (.bad hg him c) Fr2.refl ch).2 false rfl
  walk_at "vv"
  refine ⟨x, dx, _, rfl, ex, ch_no (by decide +kernel) (by decide +kernel) (by decide +kernel) (by decide +kernel), ?_⟩
  walk_at "vv"
  refine c2 ⟨x, l, lk, P, im, os, n, g, 0, rfl, rfl, ch, hn, fun po H1 eo f1 ch1 => ?_⟩
  have k1 : TK H H1 := tk_fr2 ch f1
  refine v_gtup eo rfl ?_
  walk_at "vv"
  have e21 := k1.seq e2
  have hj2 : j < k.pg.length := by rw [gp.1]; exact hj
  have hpj : k.pg[j]? = some k.pg[j] := List.getElem?_eq_getElem hj2
  have hD : k.pg.getD j 0 = k.pg[j] := by rw [List.getD_eq_getElem?_getD, hpj]; rfl
  refine v_ixT e21 (atI_nat (by rw [List.getElem?_map, hpj]; rfl)) ?_
  walk_at "vv"
  refine c3 ⟨k.pg[j], wd, (outc os n 0).2, rfl, rfl, rfl, gp.2 _ (List.getElem_mem hj2), hw, ?_⟩
  rw [← hD]
  walk_at "vv"
  obtain ⟨dx1, ex1⟩ := ch1.ob
  refine ⟨x, dx1, _, rfl, ex1, ch_no (by decide +kernel) (by decide +kernel) (by decide +kernel) (by decide +kernel), ?_⟩
  walk_at "vv"
  refine a_slA e21 fun t1 H2 s2 et1 => ?_
  walk_at "vv"
  refine a_tup (by simp) fun t2 H3 hp3 s3 et2 => ?_
  have et1' := Same.seqT s3 et1
  rw [cut_hi] at et1'
  refine a_catA et1' (sqT_of et2) (by simp; omega) fun t3 H4 s4 et3 => ?_
  walk_at "vv"
  have e24 := Same.seqT s4 (Same.seqT s3 (Same.seqT s2 e21))
  rw [show ((j : Int) + 1) = ((j + 1 : Nat) : Int) by omega]
  refine a_slA e24 fun t4 H5 s5 et4 => ?_
  rw [cut_lo _ _ (by rw [List.length_map]; omega)] at et4
  refine a_catA (Same.seqT s5 et3) et4 (by simp; omega) fun t5 H6 s6 et5 => ?_
  rw [set_cut _ _ _ (by rw [List.length_map]; exact hj2), ← List.map_set] at et5
  have s16 : Same H1 H6 := fun b o e => s6 _ _ (s5 _ _ (s4 _ _ (s3 _ _ (s2 _ _ e))))
  walk_at "vv"
  refine ⟨_, _, _, _, _, rfl, x, l, lk, P, im, os, n + 1, g, i, k.er, (outc os n 0).1, t5, _, rfl, rfl, rfl, rfl, rfl, ch1.same s16, hi, et5, gp_prog gp hj, by omega, fun H7 g7 f7 ch7 => ?_⟩
  have st := Stp.run (n := n) (os := os) (dm := 0) (erf := Bk.er) (pgf := pgP j wd) hg him c
  have fr := (f1.trans (Fr2.same s16)).trans f7
  refine ⟨fun hc h7 => ?_, fun hc h7 => ?_⟩
  · rw [show decide ((outc os n 0).1 = "cut") = true from decide_eq_true hc, show stepR (outc os n 0).1 = none by unfold stepR; rw [if_pos hc]] at st
    exact (q none _ _ true H7 st fr (h7 ▸ ch7)).1 rfl
  · rw [show decide ((outc os n 0).1 = "cut") = false from decide_eq_false hc, show stepR (outc os n 0).1 = some (decide ((outc os n 0).1 = "done")) by unfold stepR; rw [if_neg hc]] at st
    refine (q _ _ _ false H7 st fr ?_).2 _ rfl
    rw [h7, hg] at ch7
    exact ch7
def spo_Ltold (K : PySem.W.Frag) (cs : Cds) (C_Chip C_PowerCut C_InvalidNumber C_InvalidPage : Addr) : Sp := spx2 fun c d H Q E => (∃ (x l lk : Addr) (P : Nat) (im : List Bk) (os : List Oc) (n : Nat) (g : Bool) (dp : Addr) (de : De), c = .ref x ∧ d = .ref dp ∧ ChAt K C_Chip x l lk H P im os n g ∧ n < 100 ∧ TD K H (.ref dp) de.d ∧ de.ok im.length P ∧ ∀ (p : Addr) (vs : List V) (ds : List D) (im' : List Bk) (n' : Nat) (g' : Bool) (H' : Hp), de.run P im os n g ds im' n' g' → Fr2 x l H H' → ChAt K C_Chip x l lk H' P im' os n' g' → H p = none → H' p = some (.lst vs) → TDs K H' vs ds → Q (.ref p) H') ∨ (∃ (x l lk : Addr) (P : Nat) (im : List Bk) (os : List Oc) (n : Nat) (g : Bool) (dp : Addr) (wd : Wd), c = .ref x ∧ d = .ref dp ∧ ChAt K C_Chip x l lk H P im os n g ∧ SqT K H dp wd.vs ∧ wd.ok im.length P ∧ Rz (if wd.isP then C_InvalidPage else C_InvalidNumber) E H wd.v)
abbrev sp_Ltold (K : PySem.W.Frag) (cs : Cds) (C_Chip C_PowerCut C_InvalidNumber C_InvalidPage : Addr) : Sp := spo_Ltold K cs C_Chip C_PowerCut C_InvalidNumber C_InvalidPage
theorem ok_Ltold (T : Txt K mg base) : FnOk P w K mg base (L2.CX P w) 7 T.f_Ltold T.fd_Ltold ["_law_chip", "_law_deed_here"] (sp_Ltold K T.cs T.C_Chip T.C_PowerCut T.C_InvalidNumber T.C_InvalidPage) := by
  refine T.F_Ltold.okX sc_Ltold lenx2 (fun cdv A outer s H vs Q E hr h => ?_)
  obtain ⟨a0, a1, rfl, h⟩ := h
  refine ⟨_, (pss_one (ps_try1X (Eo := E) rfl rfl (by rfl) T.gC_PowerCut (by decide) (takes_of (E := E) rfl rfl rfl rfl) (fun EX pn xe hpx => (pss_cons (ps_if (pt_cmpR op_eq (pe_ix (show IxR _ (rIxT K) from ix_tup) (pv 1) pe_int (fun _ _ => rfl)) pe_str (nomark _)) (pss_one (ps_ret (pe_lst (pa_cons pe_str (pa_cons (pe_meth0 (pv 0) T.cl_Chip T.m_Chip_image (ok_Chip_image T) (hr.mono (by decide)) T.bi_Chip_image .nil hpx) pa_nil))))) pss_nil)
      (pss_cons (ps_if (pt_cmpR op_eq (pe_ix (show IxR _ (rIxT K) from ix_tup) (pv 1) pe_int (fun _ _ => rfl)) pe_str (nomark _)) (pss_one (ps_ret (pe_lst (pa_cons pe_str (pa_cons (pe_meth0 (pv 0) T.cl_Chip T.m_Chip_operations (ok_Chip_operations T) (hr.mono (by decide)) T.bi_Chip_operations .nil hpx) (pa_cons (pe_meth0 (pv 0) T.cl_Chip T.m_Chip_is_cut (ok_Chip_is_cut T) (hr.mono (by decide)) T.bi_Chip_is_cut .nil hpx) (pa_cons (pe_meth0 (pv 0) T.cl_Chip T.m_Chip_size (ok_Chip_size T) (hr.mono (by decide)) T.bi_Chip_size .nil hpx) pa_nil))))))) pss_nil)
      (pss_cons (ps_if (pt_cmpR op_eq (pe_ix (show IxR _ (rIxT K) from ix_tup) (pv 1) pe_int (fun _ _ => rfl)) pe_str (nomark _)) (pss_one (ps_ret (pe_lst (pa_cons pe_str (pa_cons (pe_meth (pv 0) T.cl_Chip T.m_Chip_read (ok_Chip_read T) (hr.mono (by decide)) T.bi_Chip_read .nil hpx (pa_cons (pe_ix (show IxR _ (rIxT K) from ix_tup) (pv 1) pe_int (fun _ _ => rfl)) (pa_cons (pe_ix (show IxR _ (rIxT K) from ix_tup) (pv 1) pe_int (fun _ _ => rfl)) pa_nil))) pa_nil))))) pss_nil)
      (pss_cons (ps_if (pt_cmpR op_eq (pe_ix (show IxR _ (rIxT K) from ix_tup) (pv 1) pe_int (fun _ _ => rfl)) pe_str (nomark _)) (pss_one (ps_ret (pe_lst (pa_cons pe_str (pa_cons (pe_meth (pv 0) T.cl_Chip T.m_Chip_program (ok_Chip_program T) (hr.mono (by decide)) T.bi_Chip_program .nil hpx (pa_cons (pe_ix (show IxR _ (rIxT K) from ix_tup) (pv 1) pe_int (fun _ _ => rfl)) (pa_cons (pe_ix (show IxR _ (rIxT K) from ix_tup) (pv 1) pe_int (fun _ _ => rfl)) (pa_cons (pe_ix (show IxR _ (rIxT K) from ix_tup) (pv 1) pe_int (fun _ _ => rfl)) pa_nil)))) pa_nil))))) pss_nil)
      (pss_one (ps_ret (pe_lst (pa_cons pe_str (pa_cons (pe_meth (pv 0) T.cl_Chip T.m_Chip_erase (ok_Chip_erase T) (hr.mono (by decide)) T.bi_Chip_erase .nil hpx (pa_cons (pe_ix (show IxR _ (rIxT K) from ix_tup) (pv 1) pe_int (fun _ _ => rfl)) pa_nil)) pa_nil)))))))))) (fun a pn => (pss_one (ps_ret (pe_lst (pa_cons pe_str pa_nil))))))), ?_⟩
  rw [show L2.start N_Ltold [a0, a1] = [some a0, some a1] from rfl]
  rcases h with h | ⟨x, l, lk, P, im, os, n, g, dp, wd, rfl, rfl, ch, e, hok, r⟩
  case inr =>
    obtain ⟨dx, ex⟩ := ch.ob
    refine v_try1X T.ex_PowerCut fun EX hE hX => ?_
    cases wd with
    | er v =>
      have o2 := hok
      walk_at "vv"
      refine v_ixT e rfl ?_
      walk_at "vv"
      refine v_eqS ?_
      rw [show decide (("erase" : PySem.Str) = "seen") = false from by decide +kernel]
      walk_at "vv"
      refine v_ixT e rfl ?_
      walk_at "vv"
      refine v_eqS ?_
      rw [show decide (("erase" : PySem.Str) = "many") = false from by decide +kernel]
      walk_at "vv"
      refine v_ixT e rfl ?_
      walk_at "vv"
      refine v_eqS ?_
      rw [show decide (("erase" : PySem.Str) = "read") = false from by decide +kernel]
      walk_at "vv"
      refine v_ixT e rfl ?_
      walk_at "vv"
      refine v_eqS ?_
      rw [show decide (("erase" : PySem.Str) = "program") = false from by decide +kernel]
      walk_at "vv"
      refine ⟨x, dx, _, rfl, ex, ch_no (by decide +kernel) (by decide +kernel) (by decide +kernel) (by decide +kernel), ?_⟩
      walk_at "vv"
      refine v_ixT e rfl ?_
      walk_at "vv"
      exact ⟨_, _, rfl, .inr ⟨x, l, lk, P, im, os, n, g, rfl, ch, o2, fun d H2 hd s e => hX _ _ _ T.ap_InvalidNumber_PowerCut (r d H2 hd s e)⟩⟩
    | rd j =>
      walk_at "vv"
      refine v_ixT e rfl ?_
      walk_at "vv"
      refine v_eqS ?_
      rw [show decide (("read" : PySem.Str) = "seen") = false from by decide +kernel]
      walk_at "vv"
      refine v_ixT e rfl ?_
      walk_at "vv"
      refine v_eqS ?_
      rw [show decide (("read" : PySem.Str) = "many") = false from by decide +kernel]
      walk_at "vv"
      refine v_ixT e rfl ?_
      walk_at "vv"
      refine ⟨x, dx, _, rfl, ex, ch_no (by decide +kernel) (by decide +kernel) (by decide +kernel) (by decide +kernel), ?_⟩
      walk_at "vv"
      refine v_ixT e rfl ?_
      walk_at "vv"
      refine v_ixT e rfl ?_
      exact ⟨_, _, _, rfl, .inr ⟨x, l, lk, P, im, os, n, g, rfl, rfl, ch, hok, fun d H2 hd s e => hX _ _ _ T.ap_InvalidNumber_PowerCut (r d H2 hd s e)⟩⟩
    | pr v w =>
      have o2 := hok
      walk_at "vv"
      refine v_ixT e rfl ?_
      walk_at "vv"
      refine v_eqS ?_
      rw [show decide (("program" : PySem.Str) = "seen") = false from by decide +kernel]
      walk_at "vv"
      refine v_ixT e rfl ?_
      walk_at "vv"
      refine v_eqS ?_
      rw [show decide (("program" : PySem.Str) = "many") = false from by decide +kernel]
      walk_at "vv"
      refine v_ixT e rfl ?_
      walk_at "vv"
      refine v_eqS ?_
      rw [show decide (("program" : PySem.Str) = "read") = false from by decide +kernel]
      walk_at "vv"
      refine v_ixT e rfl ?_
      walk_at "vv"
      refine ⟨x, dx, _, rfl, ex, ch_no (by decide +kernel) (by decide +kernel) (by decide +kernel) (by decide +kernel), ?_⟩
      walk_at "vv"
      refine v_ixT e rfl ?_
      walk_at "vv"
      refine v_ixT e rfl ?_
      walk_at "vv"
      refine v_ixT e rfl ?_
      exact ⟨_, _, _, _, rfl, .inr ⟨x, l, lk, P, im, os, n, g, rfl, rfl, ch, .inl ⟨o2, fun d H2 hd s e => hX _ _ _ T.ap_InvalidNumber_PowerCut (r d H2 hd s e)⟩⟩⟩
    | pw w =>
      walk_at "vv"
      refine v_ixT e rfl ?_
      walk_at "vv"
      refine v_eqS ?_
      rw [show decide (("program" : PySem.Str) = "seen") = false from by decide +kernel]
      walk_at "vv"
      refine v_ixT e rfl ?_
      walk_at "vv"
      refine v_eqS ?_
      rw [show decide (("program" : PySem.Str) = "many") = false from by decide +kernel]
      walk_at "vv"
      refine v_ixT e rfl ?_
      walk_at "vv"
      refine v_eqS ?_
      rw [show decide (("program" : PySem.Str) = "read") = false from by decide +kernel]
      walk_at "vv"
      refine v_ixT e rfl ?_
      walk_at "vv"
      refine ⟨x, dx, _, rfl, ex, ch_no (by decide +kernel) (by decide +kernel) (by decide +kernel) (by decide +kernel), ?_⟩
      walk_at "vv"
      refine v_ixT e rfl ?_
      walk_at "vv"
      refine v_ixT e rfl ?_
      walk_at "vv"
      refine v_ixT e rfl ?_
      exact ⟨_, _, _, _, rfl, .inr ⟨x, l, lk, P, im, os, n, g, rfl, rfl, ch, .inr ⟨rfl, w, rfl, hok, fun d H2 hd s e => hX _ _ _ T.ap_InvalidPage_PowerCut (r d H2 hd s e)⟩⟩⟩
  obtain ⟨x, l, lk, P, im, os, n, g, dp, de, rfl, rfl, ch, hn, hd, hok, q⟩ := h
  obtain ⟨dx, ex⟩ := ch.ob
  have fin : ∀ {r : Addr} {vs : List V} {ds : List D} {im' : List Bk} {n' : Nat} {g' : Bool} {HA HB : Hp}, de.run P im os n g ds im' n' g' → Fr2 x l H HA → ChAt K T.C_Chip x l lk HA P im' os n' g' → HA r = none → Same HA HB → HB r = some (.lst vs) → TDs K HB vs ds → Q (.ref r) HB := fun {r vs ds im' n' g' HA HB} st fr cA hr s e t => by
    obtain ⟨dA, eA⟩ := cA.ob
    obtain ⟨bA, eB, _⟩ := cA.bl
    refine q r vs ds im' n' g' HB st (fr.trans (Fr2.same s)) (cA.same s) ?_ e t
    have r1 : r ≠ x := fun z => by rw [z, eA] at hr; cases hr
    have r2 : r ≠ l := fun z => by rw [z, eB] at hr; cases hr
    cases z : H r with
    | none => rfl
    | some o => rw [fr r o r1 r2 z] at hr; cases hr
  refine v_try1X T.ex_PowerCut fun EX hE hX => ?_
  cases de with
  | seen =>
    cases hd with
    | tup e t =>
    cases t with
    | cons t1 t =>
    cases t
    cases t1
    walk_at "vv"
    refine v_ixT e rfl ?_
    walk_at "vv"
    refine ⟨x, dx, _, rfl, ex, ch_no (by decide +kernel) (by decide +kernel) (by decide +kernel) (by decide +kernel), ?_⟩
    walk_at "vv"
    refine c1 ⟨x, l, lk, P, im, os, n, g, rfl, ch, fun p H1 s1 t1 => ?_⟩
    walk_at "vv"
    refine a_lst (by simp) fun r0 H2 hr2 s2 er => ?_
    exact fin .seen (Fr2.same s1) (ch.same s1) hr2 s2 er (.cons (.str _) (.cons (t1.tk (TK.same s2)) .nil))
  | many =>
    cases hd with
    | tup e t =>
    cases t with
    | cons t1 t =>
    cases t
    cases t1
    walk_at "vv"
    refine v_ixT e rfl ?_
    walk_at "vv"
    refine v_eqS ?_
    rw [show decide (("many" : PySem.Str) = "seen") = false from by decide +kernel]
    walk_at "vv"
    refine v_ixT e rfl ?_
    walk_at "vv"
    refine ⟨x, dx, _, rfl, ex, ch_no (by decide +kernel) (by decide +kernel) (by decide +kernel) (by decide +kernel), ?_⟩
    walk_at "vv"
    refine c1 ⟨x, l, lk, P, im, os, n, g, rfl, ch, ?_⟩
    walk_at "vv"
    refine ⟨x, dx, _, rfl, ex, ch_no (by decide +kernel) (by decide +kernel) (by decide +kernel) (by decide +kernel), ?_⟩
    walk_at "vv"
    refine c1 ⟨x, l, lk, P, im, os, n, g, rfl, ch, ?_⟩
    walk_at "vv"
    refine ⟨x, dx, _, rfl, ex, ch_no (by decide +kernel) (by decide +kernel) (by decide +kernel) (by decide +kernel), ?_⟩
    walk_at "vv"
    refine c1 ⟨x, l, lk, P, im, os, n, g, rfl, ch, fun p H1 s1 t1 => ?_⟩
    walk_at "vv"
    refine a_lst (by simp) fun r0 H2 hr2 s2 er => ?_
    exact fin .many (Fr2.same s1) (ch.same s1) hr2 s2 er (.cons (.str _) (.cons (.int _) (.cons (.bl _) (.cons (t1.tk (TK.same s2)) .nil))))
  | read b p =>
    cases hd with
    | tup e t =>
    cases t with
    | cons t1 t =>
    cases t with
    | cons t2 t =>
    cases t with
    | cons t3 t =>
    cases t
    cases t1
    cases t2
    cases t3
    walk_at "vv"
    refine v_ixT e rfl ?_
    walk_at "vv"
    refine v_eqS ?_
    rw [show decide (("read" : PySem.Str) = "seen") = false from by decide +kernel]
    walk_at "vv"
    refine v_ixT e rfl ?_
    walk_at "vv"
    refine v_eqS ?_
    rw [show decide (("read" : PySem.Str) = "many") = false from by decide +kernel]
    walk_at "vv"
    refine v_ixT e rfl ?_
    walk_at "vv"
    refine ⟨x, dx, _, rfl, ex, ch_no (by decide +kernel) (by decide +kernel) (by decide +kernel) (by decide +kernel), ?_⟩
    walk_at "vv"
    refine v_ixT e rfl ?_
    walk_at "vv"
    refine v_ixT e rfl ?_
    refine ⟨_, _, _, rfl, .inl ⟨x, l, lk, P, im, os, n, g, b, p, rfl, rfl, rfl, ch, hok.1, hok.2, fun hg => hE _ _ fun σ' => ?_, fun hg k w hk hw => ?_⟩⟩
    · walk_at "vv"
      refine a_lst (by simp) fun r0 H2 hr2 s2 er => ?_
      exact fin (.rgone hg) Fr2.refl ch hr2 s2 er (.cons (.str _) .nil)
    · walk_at "vv"
      refine a_lst (by simp) fun r0 H2 hr2 s2 er => ?_
      exact fin (.read hg hk hw) Fr2.refl ch hr2 s2 er (.cons (.str _) (.cons (.int _) .nil))
  | prog b p w =>
    cases hd with
    | tup e t =>
    cases t with
    | cons t1 t =>
    cases t with
    | cons t2 t =>
    cases t with
    | cons t3 t =>
    cases t with
    | cons t4 t =>
    cases t
    cases t1
    cases t2
    cases t3
    cases t4
    walk_at "vv"
    refine v_ixT e rfl ?_
    walk_at "vv"
    refine v_eqS ?_
    rw [show decide (("program" : PySem.Str) = "seen") = false from by decide +kernel]
    walk_at "vv"
    refine v_ixT e rfl ?_
    walk_at "vv"
    refine v_eqS ?_
    rw [show decide (("program" : PySem.Str) = "many") = false from by decide +kernel]
    walk_at "vv"
    refine v_ixT e rfl ?_
    walk_at "vv"
    refine v_eqS ?_
    rw [show decide (("program" : PySem.Str) = "read") = false from by decide +kernel]
    walk_at "vv"
    refine v_ixT e rfl ?_
    walk_at "vv"
    refine ⟨x, dx, _, rfl, ex, ch_no (by decide +kernel) (by decide +kernel) (by decide +kernel) (by decide +kernel), ?_⟩
    walk_at "vv"
    refine v_ixT e rfl ?_
    walk_at "vv"
    refine v_ixT e rfl ?_
    walk_at "vv"
    refine v_ixT e rfl ?_
    refine ⟨_, _, _, _, rfl, .inl ⟨x, l, lk, P, im, os, n, g, b, p, w, rfl, rfl, rfl, rfl, ch, hn, hok.1, hok.2.1, hok.2.2, fun r im' n' g' H' st fr ch' => ⟨fun hr => hE _ _ fun σ' => ?_, fun t hr => ?_⟩⟩⟩
    · subst hr
      walk_at "vv"
      refine a_lst (by simp) fun r0 H2 hr2 s2 er => ?_
      exact fin (.prog st) fr ch' hr2 s2 er (.cons (.str _) .nil)
    · subst hr
      walk_at "vv"
      refine a_lst (by simp) fun r0 H2 hr2 s2 er => ?_
      exact fin (.prog st) fr ch' hr2 s2 er (.cons (.str _) (.cons (.bl _) .nil))
  | erase b =>
    cases hd with
    | tup e t =>
    cases t with
    | cons t1 t =>
    cases t with
    | cons t2 t =>
    cases t
    cases t1
    cases t2
    walk_at "vv"
    refine v_ixT e rfl ?_
    walk_at "vv"
    refine v_eqS ?_
    rw [show decide (("erase" : PySem.Str) = "seen") = false from by decide +kernel]
    walk_at "vv"
    refine v_ixT e rfl ?_
    walk_at "vv"
    refine v_eqS ?_
    rw [show decide (("erase" : PySem.Str) = "many") = false from by decide +kernel]
    walk_at "vv"
    refine v_ixT e rfl ?_
    walk_at "vv"
    refine v_eqS ?_
    rw [show decide (("erase" : PySem.Str) = "read") = false from by decide +kernel]
    walk_at "vv"
    refine v_ixT e rfl ?_
    walk_at "vv"
    refine v_eqS ?_
    rw [show decide (("erase" : PySem.Str) = "program") = false from by decide +kernel]
    walk_at "vv"
    refine ⟨x, dx, _, rfl, ex, ch_no (by decide +kernel) (by decide +kernel) (by decide +kernel) (by decide +kernel), ?_⟩
    walk_at "vv"
    refine v_ixT e rfl ?_
    refine ⟨_, _, rfl, .inl ⟨x, l, lk, P, im, os, n, g, b, rfl, rfl, ch, hn, hok, fun r im' n' g' H' st fr ch' => ⟨fun hr => hE _ _ fun σ' => ?_, fun t hr => ?_⟩⟩⟩
    · subst hr
      walk_at "vv"
      refine a_lst (by simp) fun r0 H2 hr2 s2 er => ?_
      exact fin (.erase st) fr ch' hr2 s2 er (.cons (.str _) .nil)
    · subst hr
      walk_at "vv"
      refine a_lst (by simp) fun r0 H2 hr2 s2 er => ?_
      exact fin (.erase st) fr ch' hr2 s2 er (.cons (.str _) (.cons (.bl _) .nil))
def spo_Lrefused (K : PySem.W.Frag) (cs : Cds) (C_Chip C_PowerCut C_InvalidNumber C_InvalidPage : Addr) : Sp := sp2 fun c d H Q => ∃ (x l lk : Addr) (P : Nat) (im : List Bk) (os : List Oc) (n : Nat) (g : Bool) (dp : Addr) (wd : Wd), c = .ref x ∧ d = .ref dp ∧ ChAt K C_Chip x l lk H P im os n g ∧ SqT K H dp wd.vs ∧ wd.ok im.length P ∧ ∀ (p : Addr) (H' : Hp), Same H H' → H p = none → H' p = some (.lst [.str wd.word, wd.v]) → Q (.ref p) H'
abbrev sp_Lrefused (K : PySem.W.Frag) (cs : Cds) (C_Chip C_PowerCut C_InvalidNumber C_InvalidPage : Addr) : Sp := spo_Lrefused K cs C_Chip C_PowerCut C_InvalidNumber C_InvalidPage
theorem ok_Lrefused (T : Txt K mg base) : FnOk P w K mg base (L2.CX P w) 8 T.f_Lrefused T.fd_Lrefused ["_law_chip", "_law_deed_here"] (sp_Lrefused K T.cs T.C_Chip T.C_PowerCut T.C_InvalidNumber T.C_InvalidPage) := by
  refine T.F_Lrefused.okX sc_Lrefused len2 (fun cdv A outer s H vs Q E hr h => ?_)
  obtain ⟨a0, a1, rfl, h⟩ := h
  refine ⟨_, (pss_cons (ps_tryN rfl rfl sc_Lrefused.nd (takes_of (E := E) rfl rfl rfl rfl) (fun W pn xe tk => (pss_one (ps_expr (pe_callSD (E := fun σ cl d H => W cl d σ H) (ok_Ltold T) (hr.mono (by decide)) (by rfl) T.g_Ltold T.F_Ltold.kp T.bi_Ltold .nil (fun σ => passAtV tk σ) (pa_cons (pv 0) (pa_cons (pv 1) pa_nil)))))) (NmOk.cons (c := .ref T.C_InvalidNumber) (i := 2) ⟨by rfl, by decide, .inl T.gC_InvalidNumber⟩ rfl rfl (fun a o cl d pn hz hu => (pss_one (ps_ret (pe_lst (pa_cons pe_str (pa_cons (pe_xf T.er_InvalidNumber.xf T.er_InvalidNumber.no hz hu (pv 2)) pa_nil)))))) (NmOk.cons (c := .ref T.C_InvalidPage) (i := 2) ⟨by rfl, by decide, .inl T.gC_InvalidPage⟩ rfl rfl (fun a o cl d pn hz hu => (pss_one (ps_ret (pe_lst (pa_cons pe_str (pa_cons (pe_xf T.er_InvalidPage.xf T.er_InvalidPage.no hz hu (pv 2)) pa_nil)))))) NmOk.nil)))
    (pss_one (ps_ret (pe_lst pa_nil)))), ?_⟩
  rw [show L2.start N_Lrefused [a0, a1] = [some a0, some a1, none] from rfl]
  obtain ⟨x, l, lk, P, im, os, n, g, dp, wd, rfl, rfl, ch, hd, hok, q⟩ := h
  refine v_tryN fun W hW => ?_
  walk_at "vv"
  refine v_callS ?_
  walk_at "vv"
  refine x2 (.inr ⟨x, l, lk, P, im, os, n, g, dp, wd, rfl, rfl, ch, hd, hok, fun d H2 hd2 s e => hW _ _ _ _ ?_⟩)
  have fin : ∀ {r : Addr} {H3 : Hp}, H2 r = none → Same H2 H3 → H3 r = some (.lst [.str wd.word, wd.v]) → Q (.ref r) H3 := fun {r H3} hr s3 e3 => by
    refine q r H3 (fun b o z => s3 _ _ (s _ _ z)) ?_ e3
    cases z : H r with
    | none => rfl
    | some o => rw [s _ _ z] at hr; cases hr
  cases hp : wd.isP with
  | true =>
    rw [show Wd.word wd = "page" from by unfold Wd.word; rw [if_pos hp]] at fin
    refine wNm_miss T.ap_InvalidPage_InvalidNumber (wNm_hit T.er_InvalidPage.one fun a ha => ?_)
    walk_at "vv"
    refine v_xf (v := wd.v) ?_ (fun m ⟨v, e, q⟩ => ⟨v, e, m _ _ q⟩)
    walk_at "vv"
    refine ⟨rfl, e, ?_⟩
    walk_at "vv"
    exact a_lst (by simp) fun r H3 hr s3 e3 => fin hr s3 e3
  | false =>
    rw [show Wd.word wd = "number" from by unfold Wd.word; rw [if_neg (by rw [hp]; exact Bool.false_ne_true)]] at fin
    refine wNm_hit T.er_InvalidNumber.one fun a ha => ?_
    walk_at "vv"
    refine v_xf (v := wd.v) ?_ (fun m ⟨v, e, q⟩ => ⟨v, e, m _ _ q⟩)
    walk_at "vv"
    refine ⟨rfl, e, ?_⟩
    walk_at "vv"
    exact a_lst (by simp) fun r H3 hr s3 e3 => fin hr s3 e3
def spo_Lnext (K : PySem.W.Frag) (cs : Cds) (C_Chip C_PowerCut C_InvalidNumber C_InvalidPage : Addr) : Sp := sp1 fun v H Q => ∃ (B R lk : Addr) (os : List Oc) (n : Nat) (g : Bool), v = .ref B ∧ H B = some (.lst [.ref R, .ref lk, vN (min n os.length), vN n, .bl g]) ∧ n ≤ 1000 ∧ os.length ≤ 1000 ∧ TD K H (.ref lk) (.tup (os.map Oc.d)) ∧ ∀ (p : Addr) (H' : Hp), SqT K H' p [.str (outc os n 0).1, .int ((outc os n 0).2 : Int)] → Sx B H H' → H' B = some (.lst [.ref R, .ref lk, vN (min (n + 1) os.length), vN (n + 1), .bl g]) → Q (.ref p) H'
abbrev sp_Lnext (K : PySem.W.Frag) (cs : Cds) (C_Chip C_PowerCut C_InvalidNumber C_InvalidPage : Addr) : Sp := spo_Lnext K cs C_Chip C_PowerCut C_InvalidNumber C_InvalidPage
theorem ok_Lnext (T : Txt K mg base) : FnOk P w K mg base (L2.CX P w) 1 T.f_Lnext T.fd_Lnext ["_law_plain_here"] (sp_Lnext K T.cs T.C_Chip T.C_PowerCut T.C_InvalidNumber T.C_InvalidPage) := by
  refine T.F_Lnext.okX sc_Lnext len1 (fun cdv A outer s H vs Q E hr h => ?_)
  obtain ⟨a0, rfl, h⟩ := h
  refine ⟨_, (pss_cons (ps_asg (pe_op op_add (pe_ix ix_list (pv 0) pe_int (fun _ _ => rfl)) pe_int) (pg_sub (pv 0) pe_int set_list))
    (pss_cons (ps_if (pt_cmpR op_ge (pe_ix ix_list (pv 0) pe_int (fun _ _ => rfl)) (pe_callB cv_len (by rfl) T.b_len PySem.boot_len (pa_cons (pe_ix ix_list (pv 0) pe_int (fun _ _ => rfl)) pa_nil)) (nomark _)) (pss_one (ps_ret (pe_tup (pa_cons pe_str (pa_cons pe_int pa_nil))))) pss_nil)
    (pss_cons (ps_asg (pe_op op_add (pe_ix ix_list (pv 0) pe_int (fun _ _ => rfl)) pe_int) (pg_sub (pv 0) pe_int set_list))
    (pss_cons (ps_set (i := 1) sc_Lnext.nd rfl (.inl rfl) (pe_ix ix_tup (pe_ix ix_list (pv 0) pe_int (fun _ _ => rfl)) (pe_op op_sub (pe_ix ix_list (pv 0) pe_int (fun _ _ => rfl)) pe_int) (fun _ _ => rfl)))
    (pss_one (ps_ret (pe_ifExp (pt_cmpR op_eq (pe_callB cv_len (by rfl) T.b_len PySem.boot_len (pa_cons (pv 1) pa_nil)) pe_int (nomark _)) (pv 1) (pe_tup (pa_cons pe_str (pa_cons pe_int pa_nil)))))))))), ?_⟩
  rw [show L2.start N_Lnext [a0] = [some a0, none] from rfl]
  obtain ⟨B, R, lk, os, n, g, rfl, hB, hn, ho, hlu, q⟩ := h
  cases id hlu with
  | @tup _ ls _ el tl =>
  have ll : ls.length = os.length := by rw [tl.len, List.length_map]
  have nel : ∀ {o : HO}, TK H (upd H B o) := fun {o} => TK.mutL hB
  walk_at "vv"
  refine v_ixL (sqL_of hB) rfl ?_
  walk_at "vv"
  refine v_setL hB rfl ?_
  walk_at "vv"
  refine v_ixL (sqL_of upd_same) rfl ?_
  walk_at "vv"
  refine v_ixL (sqL_of upd_same) rfl ?_
  walk_at "vv"
  refine v_lenT (nel.seq el) ?_
  walk_at "vv"
  rw [ll]
  refine v_ifd (fun c => ?_) (fun c => ?_)
  · walk_at "vv"
    refine a_tup (by simp) fun p H1 hp s1 e1 => ?_
    have hn2 : os.length ≤ n := by omega
    have e : outc os n 0 = (("done" : PySem.Str), 0) := by unfold outc; rw [List.getElem?_eq_none hn2]
    refine q p H1 (by rw [e]; exact sqT_of e1) (Sx.mut.trans (Sx.of s1)) (s1 _ _ ?_)
    rw [upd_same, Nat.min_eq_right hn2, Nat.min_eq_right (show os.length ≤ n + 1 by omega)]
    rfl
  · have hlt : n < os.length := by omega
    rw [Nat.min_eq_left (Nat.le_of_lt hlt)]
    walk_at "vv"
    refine v_ixL (sqL_of upd_same) rfl ?_
    walk_at "vv"
    refine v_setL upd_same rfl ?_
    walk_at "vv"
    refine v_ixL (sqL_of upd_same) rfl ?_
    walk_at "vv"
    refine v_ixL (sqL_of upd_same) rfl ?_
    walk_at "vv"
    have hx : os[n]? = some os[n] := List.getElem?_eq_getElem hlt
    have k2 : TK H (upd (upd H B (HO.lst ([V.ref R, V.ref lk, vN n, vN n, V.bl g].set (Int.toNat 3) (V.int (↑n + 1))))) B (.lst (([V.ref R, V.ref lk, vN n, vN n, V.bl g].set (Int.toNat 3) (V.int (↑n + 1))).set (Int.toNat 2) (V.int (↑n + 1))))) := nel.trans (TK.mutL upd_same)
    obtain ⟨v, hv, tv⟩ := (tl.tk k2).at (i := n) (d := (os[n]).d) (by rw [List.getElem?_map, hx]; rfl)
    rw [show (n : Int) + 1 - 1 = ((n : Nat) : Int) by omega]
    refine v_ixT (k2.seq el) (atI_nat hv) ?_
    walk_at "vv"
    have hB2 : (upd (upd H B (HO.lst ([V.ref R, V.ref lk, vN n, vN n, V.bl g].set (Int.toNat 3) (V.int (↑n + 1))))) B (.lst (([V.ref R, V.ref lk, vN n, vN n, V.bl g].set (Int.toNat 3) (V.int (↑n + 1))).set (Int.toNat 2) (V.int (↑n + 1))))) B = some (.lst [.ref R, .ref lk, vN (min (n + 1) os.length), vN (n + 1), .bl g]) := by
      rw [upd_same, Nat.min_eq_left (show n + 1 ≤ os.length by omega)]
      rfl
    have sx2 : Sx B H (upd (upd H B (HO.lst ([V.ref R, V.ref lk, vN n, vN n, V.bl g].set (Int.toNat 3) (V.int (↑n + 1))))) B (.lst (([V.ref R, V.ref lk, vN n, vN n, V.bl g].set (Int.toNat 3) (V.int (↑n + 1))).set (Int.toNat 2) (V.int (↑n + 1))))) := Sx.mut.trans Sx.mut
    generalize (upd (upd H B (HO.lst ([V.ref R, V.ref lk, vN n, vN n, V.bl g].set (Int.toNat 3) (V.int (↑n + 1))))) B (.lst (([V.ref R, V.ref lk, vN n, vN n, V.bl g].set (Int.toNat 3) (V.int (↑n + 1))).set (Int.toNat 2) (V.int (↑n + 1))))) = H2 at k2 tv hB2 sx2 ⊢
    have two : ∀ (w : PySem.Str) (m : Nat), TD K H2 v (.tup [.str w, .int (m : Int)]) → ∃ p, v = .ref p ∧ SqT K H2 p [.str w, .int (m : Int)] := fun w m h => by
      cases h with
      | tup e t =>
      cases t with
      | cons t1 t =>
      cases t with
      | cons t2 t =>
      cases t
      cases t1
      cases t2
      exact ⟨_, rfl, e⟩
    cases hos : os[n] with
    | done =>
      rw [hos] at tv hx
      have e : outc os n 0 = (("done" : PySem.Str), 0) := by unfold outc; rw [hx]
      cases tv with
      | tup e1 t1 =>
      refine v_lenT e1 ?_
      rw [t1.len]
      walk_at "vv"
      rw [show decide ((([D.str "done"].length : Nat) : Int) = 2) = false from rfl]
      walk_at "vv"
      refine a_tup (by simp) fun p H3 hp s3 e3 => ?_
      exact q p H3 (by rw [e]; exact sqT_of e3) (sx2.trans (Sx.of s3)) (s3 _ _ hB2)
    | cut m =>
      rw [hos] at tv hx
      have e : outc os n 0 = (("cut" : PySem.Str), m) := by unfold outc; rw [hx]
      obtain ⟨p, rfl, e1⟩ := two _ _ tv
      refine v_lenT e1 ?_
      walk_at "vv"
      rw [show decide ((([V.str "cut", V.int (m : Int)].length : Nat) : Int) = 2) = true from rfl]
      walk_at "vv"
      exact q p H2 (by rw [e]; exact e1) sx2 hB2
    | fails m =>
      rw [hos] at tv hx
      have e : outc os n 0 = (("fails" : PySem.Str), m) := by unfold outc; rw [hx]
      obtain ⟨p, rfl, e1⟩ := two _ _ tv
      refine v_lenT e1 ?_
      walk_at "vv"
      rw [show decide ((([V.str "fails", V.int (m : Int)].length : Nat) : Int) = 2) = true from rfl]
      walk_at "vv"
      exact q p H2 (by rw [e]; exact e1) sx2 hB2
def spo_Lseen (K : PySem.W.Frag) (cs : Cds) (C_Chip C_PowerCut C_InvalidNumber C_InvalidPage : Addr) : Sp := sp1 fun v H Q => ∃ (B R lk : Addr) (rows : List (Addr × Addr)) (im : List Bk) (os : List Oc) (n : Nat) (g : Bool), v = .ref B ∧ PlAt K B R lk rows H im os n g ∧ im.length ≤ 12 ∧ (∀ k ∈ im, k.pg.length ≤ 12) ∧ ∀ p H', TD K H' (.ref p) (.tup (im.map Bk.d)) → Same H H' → Q (.ref p) H'
abbrev sp_Lseen (K : PySem.W.Frag) (cs : Cds) (C_Chip C_PowerCut C_InvalidNumber C_InvalidPage : Addr) : Sp := spo_Lseen K cs C_Chip C_PowerCut C_InvalidNumber C_InvalidPage
theorem ok_Lseen (T : Txt K mg base) : FnOk P w K mg base (L2.CX P w) 1 T.f_Lseen T.fd_Lseen ["_law_plain_here"] (sp_Lseen K T.cs T.C_Chip T.C_PowerCut T.C_InvalidNumber T.C_InvalidPage) := by
  refine T.F_Lseen.okX sc_Lseen len1 (fun cdv A outer s H vs Q E hr h => ?_)
  obtain ⟨a0, rfl, h⟩ := h
  refine ⟨_, (pss_one (ps_ret (pe_callTy cv_tuple (by rfl) T.b_tuple (by decide +kernel) (pa_cons (pe_lc (own := [("_law_each", 1)]) (g := gName 1) (tt := tYes) (by rfl) sc_Lseen.nd (pi_list (pe_ix ix_list (pv 0) pe_int (fun _ _ => rfl))) (blkOk_by (own := [("_law_each", 1)]) (N := N_Lseen) (sc := defScope s_Lseen) (by decide +kernel)) (fun _ _ _ _ _ => pg_name (i := 1) sc_Lseen.nd rfl (Or.inl rfl)) (fun _ _ _ _ _ => pts_nil) (fun _ _ _ _ _ => (pe_tup (pa_cons (pe_ix (show IxR _ (rIxL K) from ix_list) (pv 1) pe_int (fun _ _ => rfl)) (pa_cons (pe_ix (show IxR _ (rIxL K) from ix_list) (pv 1) pe_int (fun _ _ => rfl)) (pa_cons (pe_callTy (show CallR _ (.type "tuple") (rTupOf K) from cv_tuple) (by rfl) T.b_tuple (by decide +kernel) (pa_cons (pe_ix (show IxR _ (rIxL K) from ix_list) (pv 1) pe_int (fun _ _ => rfl)) pa_nil)) pa_nil)))))) pa_nil)))), ?_⟩
  rw [show L2.start N_Lseen [a0] = [some a0, none] from rfl]
  obtain ⟨B, R, lk, rows, im, os, n, g, rfl, pl, hl, hp12, q⟩ := h
  walk_at "vv"
  refine v_ixL (sqL_of pl.b) rfl ?_
  walk_at "vv"
  refine ⟨⟨_, sqL_of pl.r⟩, fun D hD => ?_⟩
  refine lc_list (xs := rows.map fun z => V.ref z.1) (fun i H' => (∃ vs, H' D = some (.lst vs) ∧ TDs K H' vs ((im.take i).map Bk.d)) ∧ Same H H') ⟨⟨[], upd_same, .nil⟩, same_new hD⟩ (fun i H' _ h => sqL_of (h.2 _ _ pl.r)) ?_ ?_
  · rintro i x H1 hx ⟨⟨vs, hv, tv⟩, s1⟩
    rw [List.getElem?_map] at hx
    obtain ⟨z, hz, rfl⟩ := Option.map_eq_some_iff.mp hx
    have hi : i < im.length := by
      have := (List.getElem?_eq_some_iff.mp hz).1
      have := pl.len
      omega
    have hk : im[i]? = some im[i] := List.getElem?_eq_getElem hi
    obtain ⟨e1, e2⟩ := pl.each i z _ hz hk
    refine ⟨rfl, ?_⟩
    walk_at "vv"
    refine v_ixL (sqL_of (s1 _ _ e1)) rfl ?_
    walk_at "vv"
    refine v_ixL (sqL_of (s1 _ _ e1)) rfl ?_
    walk_at "vv"
    refine v_ixL (sqL_of (s1 _ _ e1)) rfl ?_
    walk_at "vv"
    refine a_tupL (sqL_of (s1 _ _ e2)) fun t H2 ht s2 et => ?_
    walk_at "vv"
    refine a_tup (by simp) fun p H3 hp s3 ep => ?_
    have hv3 := s3 _ _ (s2 _ _ hv)
    have kk : TK H3 (upd H3 D (.lst (vs ++ [.ref p]))) := TK.mutL hv3
    have k1 : TK H1 (upd H3 D (.lst (vs ++ [.ref p]))) := ((TK.same s2).trans (TK.same s3)).trans kk
    have tb : TD K (upd H3 D (.lst (vs ++ [.ref p]))) (.ref p) (im[i]).d := td_mk (kk.seq (sqT_of ep)) (((TK.same s3).trans kk).seq (sqT_of et))
    refine ⟨vs, hv3, ?_, ⟨vs ++ [.ref p], upd_same, ?_⟩, same_own (fun b o e => s3 _ _ (s2 _ _ (s1 _ _ e))) hD⟩
    · rw [tv.len, List.length_map, List.length_take]
      exact small1000 (by omega)
    · rw [List.take_add_one, hk, List.map_append]
      exact (tv.tk k1).app (.cons tb .nil)
  · rintro H1 ⟨⟨vs, hv, tv⟩, s1⟩
    walk_at "vv"
    refine a_tupL (sqL_of hv) fun p H2 hp s2 ep => ?_
    rw [List.length_map, pl.len, List.take_length] at tv
    exact q p H2 (.tup (sqT_of ep) (tv.tk (TK.same s2))) fun b o e => s2 _ _ (s1 _ _ e)
def spo_Ldue (K : PySem.W.Frag) (cs : Cds) (C_Chip C_PowerCut C_InvalidNumber C_InvalidPage : Addr) : Sp := sp2 fun p d H Q => ∃ (B R lk : Addr) (rows : List (Addr × Addr)) (im : List Bk) (os : List Oc) (n : Nat) (g : Bool) (P : Nat) (dp : Addr) (de : De), p = .ref B ∧ d = .ref dp ∧ PlAt K B R lk rows H im os n g ∧ GI P im n ∧ n < 100 ∧ os.length ≤ 1000 ∧ TD K H (.ref dp) de.d ∧ de.ok im.length P ∧ ∀ (p : Addr) (vs : List V) (ds : List D) (im' : List Bk) (n' : Nat) (g' : Bool) (H' : Hp), de.run P im os n g ds im' n' g' → FrP B rows H H' → PlAt K B R lk rows H' im' os n' g' → H p = none → H' p = some (.lst vs) → TDs K H' vs ds → Q (.ref p) H'
abbrev sp_Ldue (K : PySem.W.Frag) (cs : Cds) (C_Chip C_PowerCut C_InvalidNumber C_InvalidPage : Addr) : Sp := spo_Ldue K cs C_Chip C_PowerCut C_InvalidNumber C_InvalidPage
theorem ok_Ldue (T : Txt K mg base) : FnOk P w K mg base (L2.CX P w) 2 T.f_Ldue T.fd_Ldue ["_law_plain_here", "_law_deed_here"] (sp_Ldue K T.cs T.C_Chip T.C_PowerCut T.C_InvalidNumber T.C_InvalidPage) := by
  refine T.F_Ldue.okX sc_Ldue len2 (fun cdv A outer s H vs Q E hr h => ?_)
  obtain ⟨a0, a1, rfl, h⟩ := h
  refine ⟨_, (pss_cons (ps_if (pt_cmpR op_eq (pe_ix ix_tup (pv 1) pe_int (fun _ _ => rfl)) pe_str (nomark _)) (pss_one (ps_ret (pe_lst (pa_cons pe_str (pa_cons (pe_call (ok_Lseen T) (hr.mono (by decide)) (by rfl) T.g_Lseen T.F_Lseen.kp T.bi_Lseen .nil (passes_call (E := E) (takes_of rfl rfl rfl rfl) (fun _ _ _ _ h => h)) (pa_cons (pv 0) pa_nil)) pa_nil))))) pss_nil)
    (pss_cons (ps_if (pt_cmpR op_eq (pe_ix ix_tup (pv 1) pe_int (fun _ _ => rfl)) pe_str (nomark _)) (pss_one (ps_ret (pe_lst (pa_cons pe_str (pa_cons (pe_ix ix_list (pv 0) pe_int (fun _ _ => rfl)) (pa_cons (pe_ix ix_list (pv 0) pe_int (fun _ _ => rfl)) (pa_cons (pe_tup (pa_cons (pe_callB cv_len (by rfl) T.b_len PySem.boot_len (pa_cons (pe_ix ix_list (pv 0) pe_int (fun _ _ => rfl)) pa_nil)) (pa_cons (pe_callB cv_len (by rfl) T.b_len PySem.boot_len (pa_cons (pe_ix ix_list (pe_ix ix_list (pe_ix ix_list (pv 0) pe_int (fun _ _ => rfl)) pe_int (fun _ _ => rfl)) pe_int (fun _ _ => rfl)) pa_nil)) pa_nil))) pa_nil))))))) pss_nil)
    (pss_cons (ps_if (pt_val (pe_ix ix_list (pv 0) pe_int (fun _ _ => rfl))) (pss_one (ps_ret (pe_lst (pa_cons pe_str pa_nil)))) pss_nil)
    (pss_cons (ps_par (i := 2) (j := 3) (by rfl) sc_Ldue.nd rfl rfl (by decide) rfl rfl (pa_cons (pe_ix ix_list (pe_ix ix_list (pv 0) pe_int (fun _ _ => rfl)) (pe_ix ix_tup (pv 1) pe_int (fun _ _ => rfl)) (fun _ _ => rfl)) (pa_cons (pe_op op_sub (pe_op op_shl pe_int pe_int) pe_int) pa_nil)) (by rfl))
    (pss_cons (ps_if (pt_cmpR op_eq (pe_ix ix_tup (pv 1) pe_int (fun _ _ => rfl)) pe_str (nomark _)) (pss_one (ps_ret (pe_lst (pa_cons pe_str (pa_cons (pe_ix ix_list (pe_ix ix_list (pv 2) pe_int (fun _ _ => rfl)) (pe_ix ix_tup (pv 1) pe_int (fun _ _ => rfl)) (fun _ _ => rfl)) pa_nil))))) pss_nil)
    (pss_cons (ps_if (pt_val (pe_ix ix_list (pv 2) pe_int (fun _ _ => rfl))) (pss_one (ps_ret (pe_lst (pa_cons pe_str (pa_cons pe_bl pa_nil))))) pss_nil)
    (pss_cons (ps_asg (pe_call (ok_Lnext T) (hr.mono (by decide)) (by rfl) T.g_Lnext T.F_Lnext.kp T.bi_Lnext .nil (passes_call (E := E) (takes_of rfl rfl rfl rfl) (fun _ _ _ _ h => h)) (pa_cons (pv 0) pa_nil)) (pg_tup (by rfl) (pgs_cons (pg_name (i := 4) sc_Ldue.nd rfl (.inl rfl)) (pgs_cons (pg_name (i := 5) sc_Ldue.nd rfl (.inl rfl)) pgs_nil))))
    (pss_cons (ps_if (pt_cmpR op_eq (pe_ix ix_tup (pv 1) pe_int (fun _ _ => rfl)) pe_str (nomark _)) (pss_one (ps_asg (pe_op op_and (pe_ix ix_list (pe_ix ix_list (pv 2) pe_int (fun _ _ => rfl)) (pe_ix ix_tup (pv 1) pe_int (fun _ _ => rfl)) (fun _ _ => rfl)) (pe_op op_or (pe_ix ix_tup (pv 1) pe_int (fun _ _ => rfl)) (pv 5))) (pg_sub (pe_ix ix_list (pv 2) pe_int (fun _ _ => rfl)) (pe_ix ix_tup (pv 1) pe_int (fun _ _ => rfl)) set_list))) (pss_cons (ps_asg (pe_op op_add (pe_ix ix_list (pv 2) pe_int (fun _ _ => rfl)) pe_int) (pg_sub (pv 2) pe_int set_list))
      (pss_one (ps_for (passes_of rfl) rfl (pi_range1 rfl T.b_range (pa_cons (pe_callB cv_len (by rfl) T.b_len PySem.boot_len (pa_cons (pe_ix ix_list (pv 2) pe_int (fun _ _ => rfl)) pa_nil)) pa_nil)) (pg_name (i := 6) sc_Ldue.nd rfl (.inl rfl))
        (pss_one (ps_asg (pe_ifExp (pt_cmpR op_eq (pv 4) pe_str (nomark _)) (pv 3) (pe_op op_and (pe_op op_or (pe_ix ix_list (pe_ix ix_list (pv 2) pe_int (fun _ _ => rfl)) (pv 6) (fun _ _ => rfl)) (pe_op op_shr (pv 5) (pe_op op_mul pe_int (pv 6)))) (pv 3))) (pg_sub (pe_ix ix_list (pv 2) pe_int (fun _ _ => rfl)) (pv 6) set_list)))))))
    (pss_cons (ps_if (pt_cmpR op_eq (pv 4) pe_str (nomark _)) (pss_cons (ps_asg pe_bl (pg_sub (pv 0) pe_int set_list))
      (pss_one (ps_ret (pe_lst (pa_cons pe_str pa_nil))))) pss_nil)
    (pss_cons (ps_asg (pe_cmpR op_eq (pv 4) pe_str (nomark _)) (pg_sub (pv 2) pe_int set_list))
    (pss_one (ps_ret (pe_lst (pa_cons pe_str (pa_cons (pe_cmpR op_eq (pv 4) pe_str (nomark _)) pa_nil))))))))))))))), ?_⟩
  rw [show L2.start N_Ldue [a0, a1] = [some a0, some a1, none, none, none, none, none] from rfl]
  obtain ⟨B, R, lk, rows, im, os, n, g, P, dp, de, rfl, rfl, pl, gi, hn, ho, hd, hok, q⟩ := h
  have fin : ∀ {r : Addr} {vs : List V} {ds : List D} {im' : List Bk} {n' : Nat} {g' : Bool} {HA HB : Hp}, de.run P im os n g ds im' n' g' → FrP B rows H HA → PlAt K B R lk rows HA im' os n' g' → HA r = none → Same HA HB → HB r = some (.lst vs) → TDs K HB vs ds → Q (.ref r) HB := fun {r vs ds im' n' g' HA HB} st fr pA hr s e t =>
    q r vs ds im' n' g' HB st (fr.trans (FrP.same s)) (pA.same s) (FrP.fresh fr pA hr) e t
  have h5 := gi.1
  have h12 := gi.2.1
  have hP12 := gi.2.2.2.1
  have hrow : ∀ {i : Nat}, i < im.length → ∃ z, rows[i]? = some z := fun {i} hi => ⟨_, List.getElem?_eq_getElem (by rw [pl.len]; exact hi)⟩
  cases de with
  | seen =>
    cases hd with
    | tup e t =>
    cases t with
    | cons t1 t =>
    cases t
    cases t1
    walk_at "vv"
    refine v_ixT e rfl ?_
    walk_at "vv"
    refine c1 ⟨B, R, lk, rows, im, os, n, g, rfl, pl, h12, fun k hk => by rw [(gi.2.2.2.2.2 k hk).1.1]; exact hP12, fun p H1 t1 s1 => ?_⟩
    walk_at "vv"
    refine a_lst (by simp) fun r0 H2 hr2 s2 er => ?_
    exact fin .seen (FrP.same s1) (pl.same s1) hr2 s2 er (.cons (.str _) (.cons (t1.tk (TK.same s2)) .nil))
  | many =>
    cases hd with
    | tup e t =>
    cases t with
    | cons t1 t =>
    cases t
    cases t1
    walk_at "vv"
    refine v_ixT e rfl ?_
    walk_at "vv"
    refine v_eqS ?_
    rw [show decide (("many" : PySem.Str) = "seen") = false from by decide +kernel]
    walk_at "vv"
    refine v_ixT e rfl ?_
    walk_at "vv"
    refine v_ixL (sqL_of pl.b) rfl ?_
    walk_at "vv"
    refine v_ixL (sqL_of pl.b) rfl ?_
    walk_at "vv"
    refine v_ixL (sqL_of pl.b) rfl ?_
    walk_at "vv"
    refine v_lenL (sqL_of pl.r) ?_
    walk_at "vv"
    refine v_ixL (sqL_of pl.b) rfl ?_
    walk_at "vv"
    obtain ⟨z, hz⟩ := hrow (i := 0) (by omega)
    obtain ⟨e1, e2⟩ := pl.each 0 z _ hz (List.getElem?_eq_getElem (by omega))
    refine v_ixL (sqL_of pl.r) (atI_nat (j := 0) (by rw [List.getElem?_map, hz]; rfl)) ?_
    walk_at "vv"
    refine v_ixL (sqL_of e1) rfl ?_
    walk_at "vv"
    refine v_lenL (sqL_of e2) ?_
    walk_at "vv"
    rw [List.length_map, List.length_map, pl.len, (gi.2.2.2.2.2 _ (List.getElem_mem _)).1.1]
    refine a_tup (by simp) fun p H1 hp s1 ep => ?_
    refine a_lst (by simp) fun r0 H2 hr2 s2 er => ?_
    exact fin .many (FrP.same s1) (pl.same s1) hr2 s2 er (.cons (.str _) (.cons (.int _) (.cons (.bl _) (.cons (.tup (sqT_of (s2 _ _ ep)) (.cons (.int _) (.cons (.int _) .nil))) .nil))))
  | read b p =>
    cases hd with
    | tup e t =>
    cases t with
    | cons t1 t =>
    cases t with
    | cons t2 t =>
    cases t with
    | cons t3 t =>
    cases t
    cases t1
    cases t2
    cases t3
    walk_at "vv"
    refine v_ixT e rfl ?_
    walk_at "vv"
    refine v_eqS ?_
    rw [show decide (("read" : PySem.Str) = "seen") = false from by decide +kernel]
    walk_at "vv"
    refine v_ixT e rfl ?_
    walk_at "vv"
    refine v_eqS ?_
    rw [show decide (("read" : PySem.Str) = "many") = false from by decide +kernel]
    walk_at "vv"
    refine v_ixL (sqL_of pl.b) rfl ?_
    walk_at "vv"
    refine v_ifb (fun cg => ?_) (fun cg => ?_)
    · walk_at "vv"
      refine a_lst (by simp) fun r0 H2 hr2 s2 er => ?_
      exact fin (.rgone cg) (FrP.same fun _ _ z => z) pl hr2 s2 er (.cons (.str _) .nil)
    walk_at "vv"
    obtain ⟨z, hz⟩ := hrow (i := b) hok.1
    have hk : im[b]? = some (im[b]'hok.1) := List.getElem?_eq_getElem hok.1
    obtain ⟨e1, e2⟩ := pl.each b z _ hz hk
    obtain ⟨gp, her⟩ := gi.2.2.2.2.2 _ (List.getElem_mem hok.1)
    generalize (im[b]'hok.1) = k at hk e1 e2 gp her
    refine v_ixL (sqL_of pl.b) rfl ?_
    walk_at "vv"
    refine v_ixT e rfl ?_
    walk_at "vv"
    refine v_ixL (sqL_of pl.r) (atI_nat (by rw [List.getElem?_map, hz]; rfl)) ?_
    walk_at "vv"
    refine v_ixT e rfl ?_
    walk_at "vv"
    have hw : k.pg[p]? = some (k.pg[p]'(by have := gp.1; have := hok.2; omega)) := List.getElem?_eq_getElem _
    refine v_ixL (sqL_of e1) rfl ?_
    walk_at "vv"
    refine v_ixT e rfl ?_
    walk_at "vv"
    refine v_ixL (sqL_of e2) (atI_nat (by rw [List.getElem?_map, hw]; rfl)) ?_
    walk_at "vv"
    refine a_lst (by simp) fun r0 H2 hr2 s2 er => ?_
    exact fin (.read cg hk hw) (FrP.same fun _ _ z => z) pl hr2 s2 er (.cons (.str _) (.cons (.int _) .nil))
  | prog b p w =>
    cases hd with
    | tup e t =>
    cases t with
    | cons t1 t =>
    cases t with
    | cons t2 t =>
    cases t with
    | cons t3 t =>
    cases t with
    | cons t4 t =>
    cases t
    cases t1
    cases t2
    cases t3
    cases t4
    walk_at "vv"
    refine v_ixT e rfl ?_
    walk_at "vv"
    refine v_eqS ?_
    rw [show decide (("program" : PySem.Str) = "seen") = false from by decide +kernel]
    walk_at "vv"
    refine v_ixT e rfl ?_
    walk_at "vv"
    refine v_eqS ?_
    rw [show decide (("program" : PySem.Str) = "many") = false from by decide +kernel]
    walk_at "vv"
    refine v_ixL (sqL_of pl.b) rfl ?_
    walk_at "vv"
    refine v_ifb (fun cg => ?_) (fun cg => ?_)
    · walk_at "vv"
      refine a_lst (by simp) fun r0 H2 hr2 s2 er => ?_
      exact fin (.prog (.gone cg)) (FrP.same fun _ _ z => z) pl hr2 s2 er (.cons (.str _) .nil)
    walk_at "vv"
    obtain ⟨z, hz⟩ := hrow (i := b) hok.1
    have hk : im[b]? = some (im[b]'hok.1) := List.getElem?_eq_getElem hok.1
    obtain ⟨e1, e2⟩ := pl.each b z _ hz hk
    obtain ⟨gp, her⟩ := gi.2.2.2.2.2 _ (List.getElem_mem hok.1)
    generalize (im[b]'hok.1) = k at hk e1 e2 gp her
    refine v_ixL (sqL_of pl.b) rfl ?_
    walk_at "vv"
    refine v_ixT e rfl ?_
    walk_at "vv"
    refine v_ixL (sqL_of pl.r) (atI_nat (by rw [List.getElem?_map, hz]; rfl)) ?_
    walk_at "vv"
    refine v_ixT e rfl ?_
    walk_at "vv"
    refine v_eqS ?_
    rw [show decide (("program" : PySem.Str) = "read") = false from by decide +kernel]
    walk_at "vv"
    refine v_ixL (sqL_of e1) rfl ?_
    walk_at "vv"
    refine v_ifb (fun cb => ?_) (fun cb => ?_)
    · walk_at "vv"
      refine a_lst (by simp) fun r0 H2 hr2 s2 er => ?_
      exact fin (.prog (.bad cg hk cb)) (FrP.same fun _ _ z => z) pl hr2 s2 er (.cons (.str _) (.cons (.bl _) .nil))
    walk_at "vv"
    refine c1 ⟨B, R, lk, os, n, g, rfl, pl.b, by omega, ho, pl.lu, fun po H1 eo sx b1 => ?_⟩
    have p1 := pl.own sx b1
    have k1 : TK H H1 := fun c xs => ⟨fun e => sx _ _ (fun z => by rw [z, pl.b] at e; cases e) e, fun o e => sx _ _ (fun z => by rw [z, pl.b] at e; cases e) e⟩
    have et := k1.seq e
    refine v_gtup eo rfl ?_
    walk_at "vv"
    refine v_ixT et rfl ?_
    walk_at "vv"
    obtain ⟨f1, f2⟩ := p1.each b z k hz hk
    have hm := List.mem_of_getElem? hz
    have hi : b < im.length := hok.1
    have hp : p < k.pg.length := by rw [gp.1]; exact hok.2.1
    have hw : k.pg[p]? = some (k.pg.getD p 0) := by rw [List.getD_eq_getElem?_getD, List.getElem?_eq_getElem hp]; rfl
    refine v_ixL (sqL_of f1) rfl ?_
    walk_at "vv"
    refine v_ixT et rfl ?_
    walk_at "vv"
    refine v_ixL (sqL_of f2) (atI_nat (by rw [List.getElem?_map, hw]; rfl)) ?_
    walk_at "vv"
    refine v_ixT et rfl ?_
    walk_at "vv"
    rw [bO, bA]
    walk_at "vv"
    refine v_ixL (sqL_of f1) rfl ?_
    walk_at "vv"
    refine v_ixT et rfl ?_
    refine v_setL f2 (ixN_n9 (by rw [List.length_map]; exact hp)) ?_
    have p2 := p1.pgs hz (pgP p w k (outc os n 0).2) hk
    rw [show (k.pg.map vN).set p (V.int ((k.pg.getD p 0 &&& (w ||| (outc os n 0).2) : Nat) : Int)) = (pgP p w k (outc os n 0).2).map vN from by
      unfold pgP
      rw [List.map_set]]
    have fr2 := (FrP.sx (rows := rows) sx).trans (FrP.at (H := H1) (o := .lst ((pgP p w k (outc os n 0).2).map vN)) hm).2
    have st := Stp.run (dm := 0) (erf := Bk.er) (pgf := pgP p w) (os := os) (n := n) cg hk cb
    generalize upd H1 z.2 (.lst ((pgP p w k (outc os n 0).2).map vN)) = H2 at p2 fr2 ⊢
    generalize pgP p w k (outc os n 0).2 = pg' at p2 st
    generalize (outc os n 0).1 = kd at st ⊢
    walk_at "vv"
    refine v_eqS ?_
    walk_at "vv"
    refine v_ifd (fun ck => ?_) (fun ck => ?_)
    · subst ck
      walk_at "vv"
      refine v_setL p2.b rfl ?_
      have p3 := p2.own (n' := n + 1) (g' := true) (H' := upd H2 B (.lst ([V.ref R, V.ref lk, vN (min (n + 1) os.length), vN (n + 1), V.bl g].set (Int.toNat 4) (V.bl true)))) Sx.mut (by rw [upd_same]; rfl)
      walk_at "vv"
      refine a_lst (by simp) fun r0 H4 hr4 s4 er => ?_
      rw [decide_eq_false str_cf, decide_eq_true rfl, ← cb] at st
      exact fin (.prog st) (fr2.trans (FrP.sx Sx.mut)) p3 hr4 s4 er (.cons (.str _) .nil)
    · walk_at "vv"
      refine v_eqS ?_
      walk_at "vv"
      have hk2 : (im.set b ⟨k.bad, k.er, pg'⟩)[b]? = some ⟨k.bad, k.er, pg'⟩ := List.getElem?_set_self hi
      refine v_setL (p2.each b z _ hz hk2).1 rfl ?_
      have p3 := p2.row hz (decide (kd = "fails")) k.er hk2
      rw [List.set_set] at p3
      walk_at "vv"
      refine v_eqS ?_
      walk_at "vv"
      refine a_lst (by simp) fun r0 H4 hr4 s4 er => ?_
      unfold stepR at st
      rw [if_neg ck, decide_eq_false ck, ← cg] at st
      exact fin (.prog st) (fr2.trans (FrP.at hm).1) p3 hr4 s4 er (.cons (.str _) (.cons (.bl _) .nil))
  | erase b =>
    cases hd with
    | tup e t =>
    cases t with
    | cons t1 t =>
    cases t with
    | cons t2 t =>
    cases t
    cases t1
    cases t2
    walk_at "vv"
    refine v_ixT e rfl ?_
    walk_at "vv"
    refine v_eqS ?_
    rw [show decide (("erase" : PySem.Str) = "seen") = false from by decide +kernel]
    walk_at "vv"
    refine v_ixT e rfl ?_
    walk_at "vv"
    refine v_eqS ?_
    rw [show decide (("erase" : PySem.Str) = "many") = false from by decide +kernel]
    walk_at "vv"
    refine v_ixL (sqL_of pl.b) rfl ?_
    walk_at "vv"
    refine v_ifb (fun cg => ?_) (fun cg => ?_)
    · walk_at "vv"
      refine a_lst (by simp) fun r0 H2 hr2 s2 er => ?_
      exact fin (.erase (.gone cg)) (FrP.same fun _ _ z => z) pl hr2 s2 er (.cons (.str _) .nil)
    walk_at "vv"
    obtain ⟨z, hz⟩ := hrow (i := b) hok
    have hk : im[b]? = some (im[b]'hok) := List.getElem?_eq_getElem hok
    obtain ⟨e1, e2⟩ := pl.each b z _ hz hk
    obtain ⟨gp, her⟩ := gi.2.2.2.2.2 _ (List.getElem_mem hok)
    generalize (im[b]'hok) = k at hk e1 e2 gp her
    refine v_ixL (sqL_of pl.b) rfl ?_
    walk_at "vv"
    refine v_ixT e rfl ?_
    walk_at "vv"
    refine v_ixL (sqL_of pl.r) (atI_nat (by rw [List.getElem?_map, hz]; rfl)) ?_
    walk_at "vv"
    refine v_ixT e rfl ?_
    walk_at "vv"
    refine v_eqS ?_
    rw [show decide (("erase" : PySem.Str) = "read") = false from by decide +kernel]
    walk_at "vv"
    refine v_ixL (sqL_of e1) rfl ?_
    walk_at "vv"
    refine v_ifb (fun cb => ?_) (fun cb => ?_)
    · walk_at "vv"
      refine a_lst (by simp) fun r0 H2 hr2 s2 er => ?_
      exact fin (.erase (.bad cg hk cb)) (FrP.same fun _ _ z => z) pl hr2 s2 er (.cons (.str _) (.cons (.bl _) .nil))
    walk_at "vv"
    refine c1 ⟨B, R, lk, os, n, g, rfl, pl.b, by omega, ho, pl.lu, fun po H1 eo sx b1 => ?_⟩
    have p1 := pl.own sx b1
    have k1 : TK H H1 := fun c xs => ⟨fun e => sx _ _ (fun z => by rw [z, pl.b] at e; cases e) e, fun o e => sx _ _ (fun z => by rw [z, pl.b] at e; cases e) e⟩
    have et := k1.seq e
    refine v_gtup eo rfl ?_
    walk_at "vv"
    refine v_ixT et rfl ?_
    walk_at "vv"
    refine v_eqS ?_
    rw [show decide (("erase" : PySem.Str) = "program") = false from by decide +kernel]
    obtain ⟨f1, f2⟩ := p1.each b z k hz hk
    have hm := List.mem_of_getElem? hz
    have hi : b < im.length := hok
    obtain ⟨o1, o2⟩ := outc_two os n (2 ^ (522 * P) - 1)
    walk_at "vv"
    refine v_ixL (sqL_of f1) rfl ?_
    walk_at "vv"
    refine v_setL f1 rfl ?_
    have p2 := p1.row hz k.bad (k.er + 1) hk
    rw [show ([V.bl k.bad, V.int (k.er : Int), V.ref z.2].set (Int.toNat 1) (V.int ((k.er : Int) + 1))) = [V.bl k.bad, V.int ((k.er + 1 : Nat) : Int), V.ref z.2] from rfl]
    have fr2 := (FrP.sx (rows := rows) sx).trans (FrP.at (H := H1) (o := .lst [V.bl k.bad, V.int ((k.er + 1 : Nat) : Int), V.ref z.2]) hm).1
    have st := Stp.run (dm := 2 ^ (522 * P) - 1) (erf := fun k => k.er + 1) (pgf := pgE) (os := os) (n := n) cg hk cb
    rw [o1] at st
    generalize (outc os n (2 ^ (522 * P) - 1)).2 = mk at st o2
    generalize (outc os n 0).1 = kd at st o2 ⊢
    generalize (outc os n 0).2 = m0 at o2 ⊢
    generalize upd H1 z.1 (.lst [V.bl k.bad, V.int ((k.er + 1 : Nat) : Int), V.ref z.2]) = H2 at p2 fr2 ⊢
    rw [full_eq]
    have hk2 : (im.set b ⟨k.bad, k.er + 1, k.pg⟩)[b]? = some ⟨k.bad, k.er + 1, k.pg⟩ := List.getElem?_set_self hi
    walk_at "vv"
    refine v_ixL (sqL_of (p2.each b z _ hz hk2).1) rfl ?_
    walk_at "vv"
    refine v_lenL (sqL_of (p2.each b z _ hz hk2).2) ?_
    walk_at "vv"
    rw [List.length_map]
    refine ⟨k.pg.length, rfl, by have := gp.1; omega, by have := gp.1; omega, ?_⟩
    refine for_range (lo := 0) (n := k.pg.length) (fun i σ H' => ∃ y, σ = [some (.ref B), some (.ref dp), some (.ref z.1), some (.int (FL : Int)), some (.str kd), some (.int (m0 : Int)), y] ∧ PlAt K B R lk rows H' (im.set b ⟨k.bad, k.er + 1, eL k mk i⟩) os (n + 1) g ∧ FrP B rows H H') ⟨none, rfl, p2, fr2⟩ ?_ ?_
    · rintro i σ H3 hi2 ⟨y, rfl, p3, fr3⟩
      rw [show (0 : Int) + (i : Int) = (i : Int) from Int.zero_add _]
      have hk3 : (im.set b ⟨k.bad, k.er + 1, eL k mk i⟩)[b]? = some ⟨k.bad, k.er + 1, eL k mk i⟩ := List.getElem?_set_self hi
      obtain ⟨g1, g2⟩ := p3.each b z _ hz hk3
      have ho3 : k.pg.getD i 0 < MX := by
        rw [List.getD_eq_getElem?_getD, List.getElem?_eq_getElem hi2]
        exact gp.2 _ (List.getElem_mem hi2)
      have fin3 : ∀ H', H' = upd H3 z.2 (.lst ((eL k mk (i + 1)).map vN)) → PlAt K B R lk rows H' (im.set b ⟨k.bad, k.er + 1, eL k mk (i + 1)⟩) os (n + 1) g ∧ FrP B rows H H' := by
        rintro _ rfl
        have p4 := p3.pgs hz (eL k mk (i + 1)) hk3
        rw [List.set_set] at p4
        exact ⟨p4, fr3.trans (FrP.at hm).2⟩
      have set3 : ∀ w : Nat, w = k.pg.getD i 0 ||| ((mk / 2 ^ (522 * i)) &&& FL) → upd H3 z.2 (.lst (((eL k mk i).map vN).set i (V.int (w : Int)))) = upd H3 z.2 (.lst ((eL k mk (i + 1)).map vN)) := by
        rintro _ rfl
        rw [← eL_set hi2, List.map_set]
      walk_at "vv"
      refine v_eqS ?_
      refine ⟨_, rfl, ?_⟩
      refine v_ifd (fun ck => ?_) (fun ck => ?_)
      · rw [if_pos ck] at o2
        walk_at "vv"
        refine v_ixL (sqL_of g1) rfl ?_
        walk_at "vv"
        refine v_setL g2 (ixN_n9 (by rw [List.length_map, eL_len (Nat.le_of_lt hi2)]; exact hi2)) ?_
        rw [set3 FL (by rw [o2, er_full ho3 (by rw [← gp.1]; exact hi2)])]
        exact ⟨_, rfl, fin3 _ rfl⟩
      · rw [if_neg ck] at o2
        walk_at "vv"
        refine v_ixL (sqL_of g1) rfl ?_
        walk_at "vv"
        refine v_ixL (sqL_of g2) (atI_nat (by rw [List.getElem?_map, eL_at hi2]; rfl)) ?_
        walk_at "vv"
        rw [show (522 : Int) * (i : Int) = ((522 * i : Nat) : Int) from (Int.natCast_mul 522 i).symm]
        refine v_I (Int.natCast_nonneg _) ?_
        rw [shrN]
        walk_at "vv"
        rw [bO, bA]
        refine v_ixL (sqL_of g1) rfl ?_
        walk_at "vv"
        refine v_setL g2 (ixN_n9 (by rw [List.length_map, eL_len (Nat.le_of_lt hi2)]; exact hi2)) ?_
        rw [set3 _ (by rw [o2, er_some ho3])]
        exact ⟨_, rfl, fin3 _ rfl⟩
    · rintro σ H3 ⟨y, rfl, p3, fr3⟩
      rw [eL_end] at p3
      have hk3 : (im.set b ⟨k.bad, k.er + 1, pgE k mk⟩)[b]? = some ⟨k.bad, k.er + 1, pgE k mk⟩ := List.getElem?_set_self hi
      walk_at "vv"
      refine v_eqS ?_
      walk_at "vv"
      refine v_ifd (fun ck => ?_) (fun ck => ?_)
      · subst ck
        walk_at "vv"
        refine v_setL p3.b rfl ?_
        have p4 := p3.own (n' := n + 1) (g' := true) (H' := upd H3 B (.lst ([V.ref R, V.ref lk, vN (min (n + 1) os.length), vN (n + 1), V.bl g].set (Int.toNat 4) (V.bl true)))) Sx.mut (by rw [upd_same]; rfl)
        walk_at "vv"
        refine a_lst (by simp) fun r0 H4 hr4 s4 er => ?_
        rw [decide_eq_false str_cf, decide_eq_true rfl, ← cb] at st
        exact fin (.erase st) (fr3.trans (FrP.sx Sx.mut)) p4 hr4 s4 er (.cons (.str _) .nil)
      · walk_at "vv"
        refine v_eqS ?_
        walk_at "vv"
        refine v_setL (p3.each b z _ hz hk3).1 rfl ?_
        have p4 := p3.row hz (decide (kd = "fails")) (k.er + 1) hk3
        rw [List.set_set] at p4
        walk_at "vv"
        refine v_eqS ?_
        walk_at "vv"
        refine a_lst (by simp) fun r0 H4 hr4 s4 er => ?_
        unfold stepR at st
        rw [if_neg ck, decide_eq_false ck, ← cg] at st
        exact fin (.erase st) (fr3.trans (FrP.at hm).1) p4 hr4 s4 er (.cons (.str _) (.cons (.bl _) .nil))
theorem gv_first_wrong (T : Txt K mg base) (A : Around) (stk : List Env) (cdv : Value) (q : Str) : Gives2 P w K mg base A stk N_first_wrong "first_wrong" (defScope s_first_wrong) T.f_first_wrong cdv (defBody s_first_wrong) "is_right" q (TTfw K) := by
  intro f C0 s H v0 Q tl gl hgl hst act hco h
  refine ⟨_, (pss_cons (ps_for PassesOwn.never rfl (pi_enq (by rfl) T.b_enumerate (pa_cons (pv 0) pa_nil)) (pg_tup (by rfl) (pgs_cons (pg_name (i := 2) sc_first_wrong.nd rfl (.inl rfl)) (pgs_cons (pg_name (i := 3) sc_first_wrong.nd rfl (.inl rfl)) pgs_nil)))
      (pss_one (ps_if (pt_not (pt_val (act _ _ _ _ (pv 3) rfl))) (pss_one (ps_ret (pv 2))) pss_nil)))
    (pss_one (ps_ret pe_non))), ?_⟩
  rw [show L2.start N_first_wrong [v0, V.ref f] = [some v0, some (.ref f), none, none] from rfl]
  obtain ⟨p, xs, bs, rfl, hT, hb, hx, q⟩ := h
  walk_at "vv"
  refine v_iEnq ?_
  walk_at "vv"
  refine ⟨p, xs, rfl, hT, ?_⟩
  refine for_enq (xs := xs) (fun i σ H' => ∃ y1 y2 : Option V, σ = [some (.ref p), some (.ref f), y1, y2] ∧ Same H H' ∧ fwV 0 bs = fwV i (bs.drop i)) ⟨none, none, rfl, fun _ _ e => e, rfl⟩ ?_ ?_ ?_
  · rintro i σ H' _ ⟨y1, y2, rfl, s1, _⟩
    exact Same.seqT s1 hT
  · rintro i x σ H1 t H2 hi ⟨y1, y2, rfl, s1, hf⟩ ht s2 e2
    have hlt : i < bs.length := by rw [hb]; exact (List.getElem?_eq_some_iff.mp hi).1
    have hbi : bs[i]? = some bs[i] := List.getElem?_eq_getElem hlt
    generalize bs[i] = b at hbi
    have sx : Same H H2 := fun b o e => s2 _ _ (s1 _ _ e)
    refine v_gtup (sqT_of e2) rfl ?_
    walk_at "vv"
    refine ⟨rfl, ?_⟩
    walk_at "vv"
    refine hgl _ _ _ (hst _ _ sx hco) (hx i x b H2 hi hbi sx _ fun H3 s3 => ?_)
    have fs := fw_step hbi
    cases b with
    | true =>
      walk_at "vv"
      exact ⟨_, _, rfl, fun b o e => s3 _ _ (sx _ _ e), hf.trans fs⟩
    | false =>
      walk_at "vv"
      have := q H3 fun b o e => s3 _ _ (sx _ _ e)
      rw [hf, fs] at this
      exact this
  · rintro σ H1 ⟨y1, y2, rfl, s1, hf⟩
    dsimp only
    walk_at "vv"
    have := q H1 s1
    rw [hf, ← hb, List.drop_length] at this
    exact this
def spo_is_row (K : PySem.W.Frag) (cs : Cds) (C_Chip C_PowerCut C_InvalidNumber C_InvalidPage : Addr) : Sp := sp1 fun v H Q => ∃ (p : Addr) (xs : List V), v = .ref p ∧ SqT K H p xs ∧ 5 ≤ xs.length ∧ xs.length ≤ 12 ∧ Q (.bl true) H
abbrev sp_is_row (K : PySem.W.Frag) (cs : Cds) (C_Chip C_PowerCut C_InvalidNumber C_InvalidPage : Addr) : Sp := spo_is_row K cs C_Chip C_PowerCut C_InvalidNumber C_InvalidPage
theorem ok_is_row (T : Txt K mg base) : FnOk P w K mg base (L2.CX P w) 1 T.f_is_row T.fd_is_row ["value"] (sp_is_row K T.cs T.C_Chip T.C_PowerCut T.C_InvalidNumber T.C_InvalidPage) := by
  refine T.F_is_row.okX sc_is_row len1 (fun cdv A outer s H vs Q E hr h => ?_)
  obtain ⟨a0, rfl, h⟩ := h
  refine ⟨_, (pss_one (ps_ret (pe_and (pe_callB call_isi (by rfl) T.b_isinstance (by decide +kernel) (pa_cons (pv 0) (pa_cons (pe_bltn (v := .ty "tuple") (by rfl) T.b_tuple (by decide +kernel) rfl) pa_nil))) (pe_one (pe_chain op_le op_le (pe_glob (v := .int 5) rfl T.c_LEAST ⟨_, rfl⟩) (pe_callB cv_len (by rfl) T.b_len PySem.boot_len (pa_cons (pv 0) pa_nil)) (pe_glob (v := .int 12) rfl T.c_MOST ⟨_, rfl⟩)))))), ?_⟩
  rw [show L2.start N_is_row [a0] = [some a0] from rfl]
  obtain ⟨p, xs, rfl, hT, h5, h12, q⟩ := h
  walk_at "vv"
  refine v_isTup hT ?_
  walk_at "vv"
  refine v_lenT hT ?_
  walk_at "vv"
  refine v_ifd (fun _ => ?_) (fun c => absurd (by omega) c)
  walk_at "vv"
  rw [decide_eq_true (show (xs.length : Int) ≤ 12 by omega)]
  exact q
def spo_is_block (K : PySem.W.Frag) (cs : Cds) (C_Chip C_PowerCut C_InvalidNumber C_InvalidPage : Addr) : Sp := sp1 fun v H Q => ∃ (b : Bk) (P : Nat), TD K H v b.d ∧ GP P b.pg ∧ 5 ≤ P ∧ P ≤ 12 ∧ ∀ H', Same H H' → Q (.bl true) H'
abbrev sp_is_block (K : PySem.W.Frag) (cs : Cds) (C_Chip C_PowerCut C_InvalidNumber C_InvalidPage : Addr) : Sp := spo_is_block K cs C_Chip C_PowerCut C_InvalidNumber C_InvalidPage
theorem ok_is_block (T : Txt K mg base) : FnOk P w K mg base (L2.CX P w) 5 T.f_is_block T.fd_is_block ["value"] (sp_is_block K T.cs T.C_Chip T.C_PowerCut T.C_InvalidNumber T.C_InvalidPage) := by
  refine T.F_is_block.okX sc_is_block len1 (fun cdv A outer s H vs Q E hr h => ?_)
  obtain ⟨a0, rfl, h⟩ := h
  refine ⟨_, (pss_cons (ps_if (PW.pt (pw_or (pt_not (pt_val (pe_callB call_isi (by rfl) T.b_isinstance (by decide +kernel) (pa_cons (pv 0) (pa_cons (pe_bltn (v := .ty "tuple") (by rfl) T.b_tuple (by decide +kernel) rfl) pa_nil))))) (pw_or1 (pt_cmpR op_ne (pe_callB cv_len (by rfl) T.b_len PySem.boot_len (pa_cons (pv 0) pa_nil)) pe_int (nomark _))))) (pss_one (ps_ret pe_bl)) pss_nil)
    (pss_cons (ps_asg (pv 0) (pg_tup (by rfl) (pgs_cons (pg_name (i := 1) sc_is_block.nd rfl (.inl rfl)) (pgs_cons (pg_name (i := 2) sc_is_block.nd rfl (.inl rfl)) (pgs_cons (pg_name (i := 3) sc_is_block.nd rfl (.inl rfl)) pgs_nil)))))
    (pss_cons (ps_if (PW.pt (pw_or (pt_not (pt_val (pe_callB call_isi (by rfl) T.b_isinstance (by decide +kernel) (pa_cons (pv 1) (pa_cons (pe_bltn (v := .ty "bool") (by rfl) T.b_bool (by decide +kernel) rfl) pa_nil))))) (pw_or1 (pt_not (pt_val (pe_call (ok_is_from T) (hr.mono (by decide)) (by rfl) T.g_is_from T.F_is_from.kp T.bi_is_from .nil (passes_call (E := E) (takes_of rfl rfl rfl rfl) (fun _ _ _ _ h => h)) (pa_cons (pv 2) (pa_cons pe_int pa_nil)))))))) (pss_one (ps_ret pe_bl)) pss_nil)
    (pss_one (ps_ret (pe_and (pe_call (ok_is_row T) (hr.mono (by decide)) (by rfl) T.g_is_row T.F_is_row.kp T.bi_is_row .nil (passes_call (E := E) (takes_of rfl rfl rfl rfl) (fun _ _ _ _ h => h)) (pa_cons (pv 3) pa_nil)) (pe_one (pe_cmpR op_isN (pe_held2 (by rfl) T.g_first_wrong T.F_first_wrong T.bi_first_wrong sc_first_wrong rfl (.inl rfl) (fun cdv q => gv_first_wrong T _ _ cdv q) (ok_is_page T) T.F_is_page.kp T.bi_is_page (hr.mono (by decide)) (pv 3) (pe_glob (v := .ref T.f_is_page) rfl T.g_is_page rfl)) pe_non (nomark _))))))))), ?_⟩
  rw [show L2.start N_is_block [a0] = [some a0, none, none, none] from rfl]
  obtain ⟨b, P, hd, hg, h5, h12, q⟩ := h
  obtain ⟨p, t, rfl, e, e2⟩ := td_blk hd
  walk_at "vv"
  refine v_isTup e ?_
  walk_at "vv"
  refine v_lenT e ?_
  walk_at "vv"
  rw [show decide ((([V.bl b.bad, .int (b.er : Int), .ref t].length : Nat) : Int) ≠ 3) = false from rfl]
  walk_at "vv"
  refine v_gtup e rfl ?_
  walk_at "vv"
  refine d_isBl (M := fun _ => False) (.bl b.bad) ?_
  rw [show D.isBl (.bl b.bad) = true from rfl]
  walk_at "vv"
  refine c2 ⟨b.er, 0, rfl, rfl, ?_⟩
  rw [decide_eq_true (show (0 : Int) ≤ (b.er : Int) by omega)]
  walk_at "vv"
  refine c1 ⟨t, _, rfl, e2, by rw [List.length_map, hg.1]; exact h5, by rw [List.length_map, hg.1]; exact h12, ?_⟩
  walk_at "vv"
  refine ⟨rfl, t, b.pg.map vN, List.replicate b.pg.length true, rfl, e2, by simp, fun i x c H2 hx hb s2 Q' q' => ?_, fun H2 s2 => ?_⟩
  · obtain ⟨n, hn, rfl⟩ := vN_get hx
    obtain rfl : c = true := by rw [List.getElem?_replicate] at hb; split at hb <;> simp_all
    exact ⟨_, rfl, .inl ⟨n, rfl, hg.2 n (List.mem_of_getElem? hn), q' H2 fun _ _ e => e⟩⟩
  · rw [fwV_all]
    refine ⟨rfl, ?_⟩
    rw [decide_eq_true rfl]
    exact q H2 s2
def spo_wrong_block_in (K : PySem.W.Frag) (cs : Cds) (C_Chip C_PowerCut C_InvalidNumber C_InvalidPage : Addr) : Sp := sp1 fun v H Q => ∃ (p : Addr) (im : List Bk) (P : Nat), v = .ref p ∧ TD K H (.ref p) (.tup (im.map Bk.d)) ∧ GI P im 0 ∧ Tb cs H ∧ ∀ H', Ex cs H H' → Q .non H'
abbrev sp_wrong_block_in (K : PySem.W.Frag) (cs : Cds) (C_Chip C_PowerCut C_InvalidNumber C_InvalidPage : Addr) : Sp := spo_wrong_block_in K cs C_Chip C_PowerCut C_InvalidNumber C_InvalidPage
theorem ok_wrong_block_in (T : Txt K mg base) : FnOk P w K mg base (L2.CX P w) 8 T.f_wrong_block_in T.fd_wrong_block_in ["image"] (sp_wrong_block_in K T.cs T.C_Chip T.C_PowerCut T.C_InvalidNumber T.C_InvalidPage) := by
  refine okXC T.FC_wrong_block_in sc_wrong_block_in len1 (fun A outer s H vs Q E hr h => ?_)
  obtain ⟨a0, rfl, h⟩ := h
  refine ⟨_, (pss_one (ps_ret (pe_lamcall2 (gd := False) (a := "block") (k := 5) (T := [(T.P_wrong_block_in, q_wrong_block_in)]) (by rfl) T.g_first_wrong T.F_first_wrong T.bi_first_wrong sc_first_wrong rfl (.inl rfl) (fun cdv => gv_first_wrong T _ _ cdv _) T.TB_wrong_block_in rfl (List.mem_singleton.mpr rfl) (fun p hp _ => by rw [List.mem_singleton.mp hp]; rfl) False.elim (hr.mono (by decide)) (lam1_by (sc := defScope s_wrong_block_in) (by decide +kernel)) (show ("block" : Str) ∉ N_wrong_block_in by decide) rfl (fun _ _ _ _ _ _ => rfl) (pv 0) (fun A outer s H f c' hg0 hr => (pe_and (pe_call (ok_is_block T) (hr.mono (by decide)) (by rfl) T.g_is_block T.F_is_block.kp T.bi_is_block .nil passF (pa_cons (pv 1) pa_nil)) (pe_one (pe_cmpR op_eq (pe_callB (show CallR _ (.builtin "len") (Vc.rLen K) from cv_len) (by rfl) T.b_len PySem.boot_len (pa_cons (pe_ix (show IxR _ (rIxT K) from ix_tup) (pv 1) pe_int (fun _ _ => rfl)) pa_nil)) (pe_callB (show CallR _ (.builtin "len") (Vc.rLen K) from cv_len) (by rfl) T.b_len PySem.boot_len (pa_cons (pe_ix (show IxR _ (rIxT K) from ix_tup) (pe_ix (show IxR _ (rIxT K) from ix_tup) (pv 0) pe_int (fun _ _ => rfl)) pe_int (fun _ _ => rfl)) pa_nil)) (nomark _)))))))), ?_⟩
  rw [show L2.start N_wrong_block_in [a0] = [some a0] from rfl]
  obtain ⟨p, im, P, rfl, hd, hg, tb, q⟩ := h
  cases hd with
  | @tup _ xs _ e t =>
  walk_at "vv"
  refine v_lam ?_
  walk_at "vv"
  refine v_lamE tb fun H1 ex => ?_
  have hl : xs.length = im.length := by rw [t.len, List.length_map]
  refine ⟨p, xs, List.replicate im.length true, rfl, ex.seqT e, by rw [List.length_replicate, hl], fun i x c H2 hx hb s2 Q' q' => ?_, fun H2 s2 => ?_⟩
  · obtain rfl : c = true := by rw [List.getElem?_replicate] at hb; split at hb <;> simp_all
    have tk2 := (TK.ex ex).trans (TK.same s2)
    obtain ⟨d, hd, tx⟩ := t.get hx
    rw [List.getElem?_map] at hd
    obtain ⟨b, hb2, rfl⟩ : ∃ b, im[i]? = some b ∧ d = b.d := by
      cases z : im[i]? with
      | none => rw [z] at hd; cases hd
      | some b => rw [z] at hd; exact ⟨b, rfl, (Option.some.inj hd).symm⟩
    have gb := hg.2.2.2.2.2 b (List.mem_of_getElem? hb2)
    walk_at "vv"
    refine c1 ⟨b, P, tx.tk tk2, gb.1, hg.2.2.1, hg.2.2.2.1, fun H3 s3 => ?_⟩
    have tk3 := tk2.trans (TK.same s3)
    obtain ⟨pb, t2, rfl, e3, e4⟩ := td_blk (tx.tk tk3)
    have h0 : (im.map Bk.d)[0]? = some (im[0]'(by have := hg.1; omega)).d := by rw [List.getElem?_map, List.getElem?_eq_getElem (by have := hg.1; omega)]; rfl
    obtain ⟨x0, hx0, tx0⟩ := t.at h0
    obtain ⟨p0, t0, rfl, e5, e6⟩ := td_blk (tx0.tk tk3)
    walk_at "vv"
    refine v_ixT e3 rfl ?_
    walk_at "vv"
    refine v_lenT e4 ?_
    walk_at "vv"
    refine v_ixT (tk3.seq e) (atI_nat (j := 0) hx0) ?_
    walk_at "vv"
    refine v_ixT e5 rfl ?_
    walk_at "vv"
    refine v_lenT e6 ?_
    walk_at "vv"
    have g0 := hg.2.2.2.2.2 _ (List.getElem_mem (show 0 < im.length by have := hg.1; omega))
    rw [List.length_map, List.length_map, gb.1.1, g0.1.1, decide_eq_true rfl]
    exact q' H3 s3
  · rw [fwV_all]
    exact q H2 (ex.trans (Ex.of s2))
def spo_require_image (K : PySem.W.Frag) (cs : Cds) (C_Chip C_PowerCut C_InvalidNumber C_InvalidPage : Addr) : Sp := sp1 fun v H Q => ∃ (p : Addr) (im : List Bk) (P : Nat), v = .ref p ∧ TD K H (.ref p) (.tup (im.map Bk.d)) ∧ GI P im 0 ∧ Tb cs H ∧ ∀ H', Ex cs H H' → Q .non H'
abbrev sp_require_image (K : PySem.W.Frag) (cs : Cds) (C_Chip C_PowerCut C_InvalidNumber C_InvalidPage : Addr) : Sp := spo_require_image K cs C_Chip C_PowerCut C_InvalidNumber C_InvalidPage
theorem ok_require_image (T : Txt K mg base) : FnOk P w K mg base (L2.CX P w) 9 T.f_require_image T.fd_require_image ["image"] (sp_require_image K T.cs T.C_Chip T.C_PowerCut T.C_InvalidNumber T.C_InvalidPage) := by
  refine T.F_require_image.okX sc_require_image len1 (fun cdv A outer s H vs Q E hr h => ?_)
  obtain ⟨a0, rfl, h⟩ := h
  refine ⟨_, (pss_cons (ps_if (pt_not (pt_val (pe_call (ok_is_row T) (hr.mono (by decide)) (by rfl) T.g_is_row T.F_is_row.kp T.bi_is_row .nil (passes_call (E := E) (takes_of rfl rfl rfl rfl) (fun _ _ _ _ h => h)) (pa_cons (pv 0) pa_nil)))) (pss_one ps_never) pss_nil)
    (pss_cons (ps_set (i := 1) sc_require_image.nd rfl (.inl rfl) (pe_call (ok_wrong_block_in T) (hr.mono (by decide)) (by rfl) T.g_wrong_block_in T.F_wrong_block_in.kp T.bi_wrong_block_in .nil (passes_call (E := E) (takes_of rfl rfl rfl rfl) (fun _ _ _ _ h => h)) (pa_cons (pv 0) pa_nil)))
    (pss_one (ps_if (pt_cmpR op_notN (pv 1) pe_non (nomark _)) (pss_one ps_never) pss_nil)))), ?_⟩
  rw [show L2.start N_require_image [a0] = [some a0, none] from rfl]
  obtain ⟨p, im, P, rfl, hd, hg, tb, q⟩ := h
  cases id hd with
  | @tup _ xs _ e t =>
  have hl : xs.length = im.length := by rw [t.len, List.length_map]
  walk_at "vv"
  refine c1 ⟨p, xs, rfl, e, by rw [hl]; exact hg.1, by rw [hl]; exact hg.2.1, ?_⟩
  walk_at "vv"
  refine c1 ⟨p, im, P, rfl, hd, hg, tb, fun H1 ex => ?_⟩
  walk_at "vv"
  refine ⟨rfl, ?_⟩
  rw [decide_eq_true rfl]
  walk_at "vv"
  exact q H1 ex
def spo_is_outcome (K : PySem.W.Frag) (cs : Cds) (C_Chip C_PowerCut C_InvalidNumber C_InvalidPage : Addr) : Sp := sp1 fun v H Q => ∃ o : Oc, TD K H v o.d ∧ ∀ H', Same H H' → Q (.bl true) H'
abbrev sp_is_outcome (K : PySem.W.Frag) (cs : Cds) (C_Chip C_PowerCut C_InvalidNumber C_InvalidPage : Addr) : Sp := spo_is_outcome K cs C_Chip C_PowerCut C_InvalidNumber C_InvalidPage
theorem ok_is_outcome (T : Txt K mg base) : FnOk P w K mg base (L2.CX P w) 3 T.f_is_outcome T.fd_is_outcome ["value"] (sp_is_outcome K T.cs T.C_Chip T.C_PowerCut T.C_InvalidNumber T.C_InvalidPage) := by
  refine T.F_is_outcome.okX sc_is_outcome len1 (fun cdv A outer s H vs Q E hr h => ?_)
  obtain ⟨a0, rfl, h⟩ := h
  refine ⟨_, (pss_cons (ps_if (PW.pt (pw_or (pt_not (pt_val (pe_callB call_isi (by rfl) T.b_isinstance (by decide +kernel) (pa_cons (pv 0) (pa_cons (pe_bltn (v := .ty "tuple") (by rfl) T.b_tuple (by decide +kernel) rfl) pa_nil))))) (pw_or1 (pt_cmpR op_notIn_seq (pe_callB cv_len (by rfl) T.b_len PySem.boot_len (pa_cons (pv 0) pa_nil)) (pe_tup (pa_cons pe_int (pa_cons pe_int pa_nil))) rfl)))) (pss_one (ps_ret pe_bl)) pss_nil)
    (pss_cons (ps_set (i := 1) sc_is_outcome.nd rfl (.inl rfl) (pe_ix ix_tup (pv 0) pe_int (fun _ _ => rfl)))
    (pss_cons (ps_if (pt_not (pt_val (pe_callB call_isi (by rfl) T.b_isinstance (by decide +kernel) (pa_cons (pv 1) (pa_cons (pe_bltn (v := .ty "str") (by rfl) T.b_str (by decide +kernel) rfl) pa_nil))))) (pss_one (ps_ret pe_bl)) pss_nil)
    (pss_cons (ps_if (pt_cmpR op_eq (pe_callB cv_len (by rfl) T.b_len PySem.boot_len (pa_cons (pv 0) pa_nil)) pe_int (nomark _)) (pss_one (ps_ret (pe_cmpR op_eq (pv 1) pe_str (nomark _)))) pss_nil)
    (pss_one (ps_ret (pe_and (pe_cmpR op_in_seq (pv 1) (pe_tup (pa_cons pe_str (pa_cons pe_str pa_nil))) rfl) (pe_one (pe_call (ok_is_from T) (hr.mono (by decide)) (by rfl) T.g_is_from T.F_is_from.kp T.bi_is_from .nil (passes_call (E := E) (takes_of rfl rfl rfl rfl) (fun _ _ _ _ h => h)) (pa_cons (pe_ix ix_tup (pv 0) pe_int (fun _ _ => rfl)) (pa_cons pe_int pa_nil))))))))))), ?_⟩
  rw [show L2.start N_is_outcome [a0] = [some a0, none] from rfl]
  obtain ⟨o, hd, q⟩ := h
  cases o with
  | done =>
    cases hd with
    | tup e t =>
    cases t with
    | cons a t =>
    cases a
    cases t
    walk_at "vv"
    refine v_isTup e ?_
    walk_at "vv"
    refine v_lenT e ?_
    walk_at "vv"
    refine a_tup (by simp) fun p1 H1 hp1 s1 e1 => ?_
    refine ⟨_, _, rfl, .inr (sqT_of e1), rfl, rfl, ?_⟩
    refine ⟨false, rfl, ?_⟩
    walk_at "vv"
    have e' := Same.seqT s1 e
    refine v_ixT e' rfl ?_
    walk_at "vv"
    refine d_isStr (M := fun _ => False) (.str _) ?_
    rw [show D.isStr (.str ("done" : PySem.Str)) = true from rfl]
    walk_at "vv"
    refine v_lenT e' ?_
    walk_at "vv"
    rw [show decide ((([V.str "done"].length : Nat) : Int) = 1) = true from rfl]
    walk_at "vv"
    exact q H1 s1
  | cut m =>
    cases hd with
    | tup e t =>
    cases t with
    | cons a t =>
    cases t with
    | cons b t =>
    cases a
    cases b
    cases t
    walk_at "vv"
    refine v_isTup e ?_
    walk_at "vv"
    refine v_lenT e ?_
    walk_at "vv"
    refine a_tup (by simp) fun p1 H1 hp1 s1 e1 => ?_
    refine ⟨_, _, rfl, .inr (sqT_of e1), rfl, rfl, ?_⟩
    refine ⟨false, rfl, ?_⟩
    walk_at "vv"
    have e' := Same.seqT s1 e
    refine v_ixT e' rfl ?_
    walk_at "vv"
    refine d_isStr (M := fun _ => False) (.str _) ?_
    rw [show D.isStr (.str ("cut" : PySem.Str)) = true from rfl]
    walk_at "vv"
    refine v_lenT e' ?_
    walk_at "vv"
    rw [show decide ((([V.str "cut", .int (m : Int)].length : Nat) : Int) = 1) = false from rfl]
    walk_at "vv"
    refine a_tup (by simp) fun p2 H2 hp2 s2 e2 => ?_
    refine ⟨_, _, rfl, .inr (sqT_of e2), rfl, rfl, ?_⟩
    refine ⟨true, by decide +kernel, ?_⟩
    walk_at "vv"
    refine v_ixT (Same.seqT s2 e') rfl ?_
    walk_at "vv"
    refine c2 ⟨m, 0, rfl, rfl, ?_⟩
    rw [decide_eq_true (show (0 : Int) ≤ (m : Int) by omega)]
    exact q H2 fun b o z => s2 _ _ (s1 _ _ z)
  | fails m =>
    cases hd with
    | tup e t =>
    cases t with
    | cons a t =>
    cases t with
    | cons b t =>
    cases a
    cases b
    cases t
    walk_at "vv"
    refine v_isTup e ?_
    walk_at "vv"
    refine v_lenT e ?_
    walk_at "vv"
    refine a_tup (by simp) fun p1 H1 hp1 s1 e1 => ?_
    refine ⟨_, _, rfl, .inr (sqT_of e1), rfl, rfl, ?_⟩
    refine ⟨false, rfl, ?_⟩
    walk_at "vv"
    have e' := Same.seqT s1 e
    refine v_ixT e' rfl ?_
    walk_at "vv"
    refine d_isStr (M := fun _ => False) (.str _) ?_
    rw [show D.isStr (.str ("fails" : PySem.Str)) = true from rfl]
    walk_at "vv"
    refine v_lenT e' ?_
    walk_at "vv"
    rw [show decide ((([V.str "fails", .int (m : Int)].length : Nat) : Int) = 1) = false from rfl]
    walk_at "vv"
    refine a_tup (by simp) fun p2 H2 hp2 s2 e2 => ?_
    refine ⟨_, _, rfl, .inr (sqT_of e2), rfl, rfl, ?_⟩
    refine ⟨true, by decide +kernel, ?_⟩
    walk_at "vv"
    refine v_ixT (Same.seqT s2 e') rfl ?_
    walk_at "vv"
    refine c2 ⟨m, 0, rfl, rfl, ?_⟩
    rw [decide_eq_true (show (0 : Int) ≤ (m : Int) by omega)]
    exact q H2 fun b o z => s2 _ _ (s1 _ _ z)
def spo_require_luck (K : PySem.W.Frag) (cs : Cds) (C_Chip C_PowerCut C_InvalidNumber C_InvalidPage : Addr) : Sp := sp1 fun v H Q => ∃ (p : Addr) (os : List Oc), v = .ref p ∧ TD K H (.ref p) (.tup (os.map Oc.d)) ∧ ∀ H', Same H H' → Q .non H'
abbrev sp_require_luck (K : PySem.W.Frag) (cs : Cds) (C_Chip C_PowerCut C_InvalidNumber C_InvalidPage : Addr) : Sp := spo_require_luck K cs C_Chip C_PowerCut C_InvalidNumber C_InvalidPage
theorem ok_require_luck (T : Txt K mg base) : FnOk P w K mg base (L2.CX P w) 5 T.f_require_luck T.fd_require_luck ["luck"] (sp_require_luck K T.cs T.C_Chip T.C_PowerCut T.C_InvalidNumber T.C_InvalidPage) := by
  refine T.F_require_luck.okX sc_require_luck len1 (fun cdv A outer s H vs Q E hr h => ?_)
  obtain ⟨a0, rfl, h⟩ := h
  refine ⟨_, (pss_cons (ps_if (pt_not (pt_val (pe_callB call_isi (by rfl) T.b_isinstance (by decide +kernel) (pa_cons (pv 0) (pa_cons (pe_bltn (v := .ty "tuple") (by rfl) T.b_tuple (by decide +kernel) rfl) pa_nil))))) (pss_one ps_never) pss_nil)
    (pss_cons (ps_set (i := 1) sc_require_luck.nd rfl (.inl rfl) (pe_held2 (by rfl) T.g_first_wrong T.F_first_wrong T.bi_first_wrong sc_first_wrong rfl (.inl rfl) (fun cdv q => gv_first_wrong T _ _ cdv q) (ok_is_outcome T) T.F_is_outcome.kp T.bi_is_outcome (hr.mono (by decide)) (pv 0) (pe_glob (v := .ref T.f_is_outcome) rfl T.g_is_outcome rfl)))
    (pss_one (ps_if (pt_cmpR op_notN (pv 1) pe_non (nomark _)) (pss_one ps_never) pss_nil)))), ?_⟩
  rw [show L2.start N_require_luck [a0] = [some a0, none] from rfl]
  obtain ⟨p, os, rfl, hd, q⟩ := h
  cases hd with
  | @tup _ xs _ e t =>
  have hl : xs.length = os.length := by rw [t.len, List.length_map]
  walk_at "vv"
  refine v_isTup e ?_
  walk_at "vv"
  refine ⟨rfl, p, xs, List.replicate os.length true, rfl, e, by rw [List.length_replicate, hl], fun i x c H2 hx hb s2 Q' q' => ?_, fun H2 s2 => ?_⟩
  · obtain rfl : c = true := by rw [List.getElem?_replicate] at hb; split at hb <;> simp_all
    obtain ⟨d, hd, tx⟩ := t.get hx
    rw [List.getElem?_map] at hd
    obtain ⟨o, ho, rfl⟩ : ∃ o, os[i]? = some o ∧ d = o.d := by
      cases z : os[i]? with
      | none => rw [z] at hd; cases hd
      | some o => rw [z] at hd; exact ⟨o, rfl, (Option.some.inj hd).symm⟩
    exact ⟨_, rfl, o, tx.tk (TK.same s2), fun H3 s3 => q' H3 s3⟩
  · rw [fwV_all]
    walk_at "vv"
    refine ⟨rfl, ?_⟩
    rw [decide_eq_true rfl]
    walk_at "vv"
    exact q H2 s2
def spo_Chip_init (K : PySem.W.Frag) (cs : Cds) (C_Chip C_PowerCut C_InvalidNumber C_InvalidPage : Addr) : Sp := sp3 fun s i k H Q => ∃ (x p lk dx : Addr) (im : List Bk) (P : Nat) (os : List Oc), s = .ref x ∧ i = .ref p ∧ k = .ref lk ∧ H x = some (.ins C_Chip dx []) ∧ TD K H (.ref p) (.tup (im.map Bk.d)) ∧ GI P im 0 ∧ TD K H (.ref lk) (.tup (os.map Oc.d)) ∧ Tb cs H ∧ ∀ (l : Addr) (H' : Hp), (∀ b o, H b = some o → (∀ ps, o ≠ .tbl ps) → b ≠ l) → ChAt K C_Chip x l lk H' P im os 0 false → Sy cs x H H' → Q .non H'
abbrev sp_Chip_init (K : PySem.W.Frag) (cs : Cds) (C_Chip C_PowerCut C_InvalidNumber C_InvalidPage : Addr) : Sp := spo_Chip_init K cs C_Chip C_PowerCut C_InvalidNumber C_InvalidPage
theorem ok_Chip_init (T : Txt K mg base) : FnOk P w K mg base (L2.CX P w) 10 T.f_Chip_init T.fd_Chip_init ["self", "image", "luck"] (sp_Chip_init K T.cs T.C_Chip T.C_PowerCut T.C_InvalidNumber T.C_InvalidPage) := by
  refine T.F_Chip_init.okX sc_Chip_init len3 (fun cdv A outer s H vs Q E hr h => ?_)
  obtain ⟨a0, a1, a2, rfl, h⟩ := h
  refine ⟨_, (pss_cons (ps_expr (pe_call (ok_require_image T) (hr.mono (by decide)) (by rfl) T.g_require_image T.F_require_image.kp T.bi_require_image .nil (passes_call (E := E) (takes_of rfl rfl rfl rfl) (fun _ _ _ _ h => h)) (pa_cons (pv 1) pa_nil)))
    (pss_cons (ps_expr (pe_call (ok_require_luck T) (hr.mono (by decide)) (by rfl) T.g_require_luck T.F_require_luck.kp T.bi_require_luck .nil (passes_call (E := E) (takes_of rfl rfl rfl rfl) (fun _ _ _ _ h => h)) (pa_cons (pv 2) pa_nil)))
    (pss_cons (ps_fld (pv 0) (pe_callTy cv_list (by rfl) T.b_list (by decide +kernel) (pa_cons (pv 1) pa_nil)) rfl)
    (pss_cons (ps_fld (pv 0) (pv 2) rfl)
    (pss_cons (ps_fld (pv 0) pe_int rfl)
    (pss_one (ps_fld (pv 0) pe_bl rfl))))))), ?_⟩
  rw [show L2.start N_Chip_init [a0, a1, a2] = [some a0, some a1, some a2] from rfl]
  obtain ⟨x, p, lk, dx, im, P, os, rfl, rfl, rfl, ex, hd, hg, hlu, tb, q⟩ := h
  walk_at "vv"
  refine c1 ⟨p, im, P, rfl, hd, hg, tb, fun H1 x1 => ?_⟩
  have k1 := TK.ex x1
  have ex1 : H1 x = some (.ins T.C_Chip dx []) := x1.1 _ _ ex fun _ z => nomatch z
  walk_at "vv"
  refine c1 ⟨lk, os, rfl, hlu.tk k1, fun H2 s2 => ?_⟩
  have k2 := k1.trans (TK.same s2)
  have ex2 := s2 _ _ ex1
  walk_at "vv"
  cases id hd with
  | @tup _ xs _ e0 ty =>
  have e := k2.seq e0
  refine v_listT e fun l hl => ?_
  have nxl : x ≠ l := ne_of_none ex2 hl
  have ex3 : upd H2 l (.lst xs) x = some (.ins T.C_Chip dx []) := by rw [upd_ne nxl]; exact ex2
  walk_at "vv"
  refine ⟨x, _, dx, _, rfl, ex3, T.cl_Chip, T.na_Chip_blocks, by decide, ?_⟩
  walk_at "vv"
  refine ⟨x, _, dx, _, rfl, upd_same, T.cl_Chip, T.na_Chip_luck, (by rw [put_0]; show 1 < 1000; decide), ?_⟩
  walk_at "vv"
  refine ⟨x, _, dx, _, rfl, upd_same, T.cl_Chip, T.na_Chip_begun, (by rw [put_0, put_1]; show 2 < 1000; decide), ?_⟩
  walk_at "vv"
  refine ⟨x, _, dx, _, rfl, upd_same, T.cl_Chip, T.na_Chip_is_gone, (by rw [put_0, put_1, put_2]; show 3 < 1000; decide), ?_⟩
  rw [put_0, put_1, put_2, put_3]
  have far : ∀ b o, H b = some o → (∀ ps, o ≠ .tbl ps) → b ≠ l := fun b o eb tb z => by
    have := s2 _ _ (x1.1 _ _ eb tb)
    rw [z, hl] at this
    cases this
  have tb2 : Tb T.cs (upd H2 l (.lst xs)) := ((x1.2 tb).same s2).same (same_new hl)
  have k3 : TK H (upd H2 l (.lst xs)) := k2.trans (TK.same (same_new hl))
  have sy : Sy T.cs x H (upd H2 l (.lst xs)) := ⟨fun b o n e t => by rw [upd_ne (far b o e t)]; exact s2 _ _ (x1.1 _ _ e t), fun _ => tb2⟩
  have ell : upd H2 l (.lst xs) l = some (.lst xs) := upd_same
  generalize upd H2 l (.lst xs) = HA at ex3 tb2 k3 sy ell ⊢
  have step : ∀ (HB : Hp) (fs fs' : List (PySem.Str × V)), HB x = some (.ins T.C_Chip dx fs) → Tb T.cs HB → TK H HB → Sy T.cs x H HB → HB l = some (.lst xs) → (upd HB x (.ins T.C_Chip dx fs')) x = some (.ins T.C_Chip dx fs') ∧ Tb T.cs (upd HB x (.ins T.C_Chip dx fs')) ∧ TK H (upd HB x (.ins T.C_Chip dx fs')) ∧ Sy T.cs x H (upd HB x (.ins T.C_Chip dx fs')) ∧ (upd HB x (.ins T.C_Chip dx fs')) l = some (.lst xs) := fun HB fs fs' h1 h2 h3 h4 h5 =>
    ⟨upd_same, h2.mutI h1, h3.trans (TK.mutI h1), ⟨fun b o n e t => by rw [upd_ne n]; exact h4.1 b o n e t, fun _ => h2.mutI h1⟩, by rw [upd_ne nxl.symm]; exact h5⟩
  obtain ⟨a1, b1, c1, d1, e1⟩ := step HA _ [(("_blocks" : PySem.Str), V.ref l)] ex3 tb2 k3 sy ell
  obtain ⟨a2, b2, c2, d2, e2⟩ := step _ _ [(("_blocks" : PySem.Str), V.ref l), ("_luck", .ref lk)] a1 b1 c1 d1 e1
  obtain ⟨a3, b3, c3, d3, e3⟩ := step _ _ [(("_blocks" : PySem.Str), V.ref l), ("_luck", .ref lk), ("_begun", .int 0)] a2 b2 c2 d2 e2
  obtain ⟨a4, b4, c4, d4, e4⟩ := step _ _ (chF l lk 0 false) a3 b3 c3 d3 e3
  exact q l _ far ⟨⟨dx, a4⟩, ⟨xs, e4, ty.tk c4⟩, hlu.tk c4, hg⟩ d4
def spo_Lround (K : PySem.W.Frag) (cs : Cds) (C_Chip C_PowerCut C_InvalidNumber C_InvalidPage : Addr) : Sp := sp2 fun v f H Q => ∃ (W fp : Addr) (im0 : List Bk) (P M : Nat), v = .ref W ∧ f = .ref fp ∧ Wl [.int 3] H W ∧ TD K H (.ref fp) (.tup (im0.map Bk.d)) ∧ GI P im0 0 ∧ P ≤ 12 ∧ (∀ b ∈ im0, b.er ≤ M) ∧ M + 13 ≤ 500 ∧ Tb cs H ∧ ∀ (p : Addr) (im' : List Bk) (H' : Hp), TD K H' (.ref p) (.tup (im'.map Bk.d)) → GI P im' 0 → (∀ b ∈ im', b.er ≤ M + 13) → Wl [.int 3] H' W → Sy cs W H H' → Q (.ref p) H'
abbrev sp_Lround (K : PySem.W.Frag) (cs : Cds) (C_Chip C_PowerCut C_InvalidNumber C_InvalidPage : Addr) : Sp := spo_Lround K cs C_Chip C_PowerCut C_InvalidNumber C_InvalidPage
theorem ok_Lround (T : Txt K mg base) : FnG P w K mg base 12 T.f_Lround T.fd_Lround ["_law_well_here", "_law_first"] (sp_Lround K T.cs T.C_Chip T.C_PowerCut T.C_InvalidNumber T.C_InvalidPage) := by
  refine okG T.F_Lround sc_Lround len2 (fun cdv A outer s H vs Q hgd hr h => ?_)
  obtain ⟨a0, a1, rfl, h⟩ := h
  refine ⟨_, (pss_cons (ps_par (i := 2) (j := 3) (by rfl) sc_Lround.nd rfl rfl (by decide) rfl rfl (pa_cons (pe_callB cv_len (by rfl) T.b_len PySem.boot_len (pa_cons (pv 1) pa_nil)) (pa_cons (pe_callB cv_len (by rfl) T.b_len PySem.boot_len (pa_cons (pe_ix ix_tup (pe_ix ix_tup (pv 1) pe_int (fun _ _ => rfl)) pe_int (fun _ _ => rfl)) pa_nil)) pa_nil)) (by rfl))
    (pss_cons (ps_set (i := 4) sc_Lround.nd rfl (.inl rfl) (pe_call (ok_Lluck T) (hr.mono (by decide)) (by rfl) T.g_Lluck T.F_Lluck.kp T.bi_Lluck .nil passF (pa_cons (pv 0) (pa_cons (pv 3) (pa_cons pe_int pa_nil)))))
    (pss_cons (ps_asg (pe_tup (pa_cons (pe_make T.mk_Chip (ok_Chip_init T) (hr.mono (by decide)) (by rfl) T.gC_Chip T.bi_Chip_init .nil passF (pa_cons (pv 1) (pa_cons (pv 4) pa_nil))) (pa_cons (pe_make T.mk_Chip (ok_Chip_init T) (hr.mono (by decide)) (by rfl) T.gC_Chip T.bi_Chip_init .nil passF (pa_cons (pv 1) (pa_cons (pe_tup pa_nil) pa_nil))) (pa_cons (pe_call (ok_Lplain T) (hr.mono (by decide)) (by rfl) T.g_Lplain T.F_Lplain.kp T.bi_Lplain .nil passF (pa_cons (pv 1) (pa_cons (pv 4) pa_nil))) pa_nil)))) (pg_tup (by rfl) (pgs_cons (pg_name (i := 5) sc_Lround.nd rfl (.inr rfl)) (pgs_cons (pg_name (i := 6) sc_Lround.nd rfl (.inl rfl)) (pgs_cons (pg_name (i := 7) sc_Lround.nd rfl (.inr rfl)) pgs_nil)))))
    (pss_cons (ps_for PassesOwn.never rfl (pi_range1 rfl T.b_range (pa_cons (pe_op op_add pe_int (pe_call (ok_Ldraw T) (hr.mono (by decide)) (by rfl) T.g_Ldraw T.F_Ldraw.kp T.bi_Ldraw .nil passF (pa_cons (pv 0) (pa_cons pe_int pa_nil)))) pa_nil)) (pg_name (i := 8) sc_Lround.nd rfl (.inl rfl))
      (pss_cons (ps_set (i := 9) sc_Lround.nd rfl (.inl rfl) (pe_call (ok_Ldeed T) (hr.mono (by decide)) (by rfl) T.g_Ldeed T.F_Ldeed.kp T.bi_Ldeed .nil passF (pa_cons (pv 0) (pa_cons (pv 2) (pa_cons (pv 3) pa_nil)))))
      (pss_one (ps_if (pt_cmpR op_ne (pe_callB (cr_repr hgd hr.units) (by rfl) T.b_repr (by decide +kernel) (pa_cons (pe_call (ok_Ltold T) (hr.mono (by decide)) (by rfl) T.g_Ltold T.F_Ltold.kp T.bi_Ltold .nil passF (pa_cons (pv 5) (pa_cons (pv 9) pa_nil))) pa_nil)) (pe_callB (cr_repr hgd hr.units) (by rfl) T.b_repr (by decide +kernel) (pa_cons (pe_call (ok_Ldue T) (hr.mono (by decide)) (by rfl) T.g_Ldue T.F_Ldue.kp T.bi_Ldue .nil passF (pa_cons (pv 7) (pa_cons (pv 9) pa_nil))) pa_nil)) (nomark _)) (pss_one (ps_ret pe_non)) pss_nil))))
    (pss_cons (ps_setLc (i := 11) (own := [("_law_at", 10)]) (g := gName 10) (by rfl) sc_Lround.nd rfl rfl (sw_true rfl rfl rfl (by decide +kernel)) (pi_range1 rfl T.b_range (pa_cons (pv 2) pa_nil)) (blkOk_by (own := [("_law_at", 10)]) (N := N_Lround) (sc := defScope s_Lround) (by decide +kernel)) (fun _ _ _ _ _ => pg_name (i := 10) sc_Lround.nd rfl (Or.inl rfl)) (fun _ _ _ _ _ => pts_one (pt_val (pe_ix (show IxR _ (rIxL K) from ix_list) (pe_ix (show IxR _ (rIxL K) from ix_list) (pe_ix (show IxR _ (rIxL K) from ix_list) (pv 7) pe_int (fun _ _ => rfl)) (pv 10) (fun _ _ => rfl)) pe_int (fun _ _ => rfl)))) (fun _ _ _ _ _ => (pv 10)))
    (pss_cons (ps_set (i := 10) sc_Lround.nd rfl (.inl rfl) (pe_ifExp (pt_cmpR (op_neD hr.units) (pv 11) (pe_lst pa_nil) (nomark _)) (pe_call (ok_Lpick T) (hr.mono (by decide)) (by rfl) T.g_Lpick T.F_Lpick.kp T.bi_Lpick .nil passF (pa_cons (pv 0) (pa_cons (pv 11) pa_nil))) (pe_call (ok_Ldraw T) (hr.mono (by decide)) (by rfl) T.g_Ldraw T.F_Ldraw.kp T.bi_Ldraw .nil passF (pa_cons (pv 0) (pa_cons (pv 2) pa_nil)))))
    (pss_cons (ps_set (i := 12) sc_Lround.nd rfl (.inl rfl) (pe_lst (pa_cons (pe_tup (pa_cons pe_str (pa_cons (pv 10) (pa_cons pe_int (pa_cons (pe_call (ok_Lpage T) (hr.mono (by decide)) (by rfl) T.g_Lpage T.F_Lpage.kp T.bi_Lpage .nil passF (pa_cons (pv 0) pa_nil)) pa_nil))))) (pa_cons (pe_tup (pa_cons pe_str (pa_cons (pv 10) pa_nil))) (pa_cons (pe_tup (pa_cons pe_str (pa_cons (pv 10) (pa_cons (pe_op op_sub (pv 3) pe_int) pa_nil)))) (pa_cons (pe_tup (pa_cons pe_str pa_nil)) (pa_cons (pe_tup (pa_cons pe_str pa_nil)) pa_nil)))))))
    (pss_cons (ps_if (pt_cmpR op_ne (pe_callB (cr_repr hgd hr.units) (by rfl) T.b_repr (by decide +kernel) (pa_cons (pe_lc (own := [("_law_deed_here", 9)]) (g := gName 9) (tt := tYes) (by rfl) sc_Lround.nd (pi_list (pv 12)) (blkOk_by (own := [("_law_deed_here", 9)]) (N := N_Lround) (sc := defScope s_Lround) (by decide +kernel)) (fun _ _ _ _ _ => pg_name (i := 9) sc_Lround.nd rfl (Or.inl rfl)) (fun _ _ _ _ _ => pts_nil) (fun _ _ _ _ _ => (pe_call (ok_Ltold T) (hr.mono (by decide)) (by rfl) T.g_Ltold T.F_Ltold.kp T.bi_Ltold .nil passF (pa_cons (pv 5) (pa_cons (pv 9) pa_nil))))) pa_nil)) (pe_callB (cr_repr hgd hr.units) (by rfl) T.b_repr (by decide +kernel) (pa_cons (pe_lc (own := [("_law_deed_here", 9)]) (g := gName 9) (tt := tYes) (by rfl) sc_Lround.nd (pi_list (pv 12)) (blkOk_by (own := [("_law_deed_here", 9)]) (N := N_Lround) (sc := defScope s_Lround) (by decide +kernel)) (fun _ _ _ _ _ => pg_name (i := 9) sc_Lround.nd rfl (Or.inl rfl)) (fun _ _ _ _ _ => pts_nil) (fun _ _ _ _ _ => (pe_call (ok_Ldue T) (hr.mono (by decide)) (by rfl) T.g_Ldue T.F_Ldue.kp T.bi_Ldue .nil passF (pa_cons (pv 7) (pa_cons (pv 9) pa_nil))))) pa_nil)) (nomark _)) (pss_one (ps_ret pe_non)) pss_nil)
    (pss_cons (ps_set (i := 13) sc_Lround.nd rfl (.inl rfl) (pe_call (ok_Lpick T) (hr.mono (by decide)) (by rfl) T.g_Lpick T.F_Lpick.kp T.bi_Lpick .nil passF (pa_cons (pv 0) (pa_cons (pe_tup (pa_cons (pv 2) (pa_cons (pe_un un_neg pe_int) (pa_cons pe_bl (pa_cons pe_non (pa_cons pe_str pa_nil)))))) pa_nil))))
    (pss_cons (ps_set (i := 14) sc_Lround.nd rfl (.inl rfl) (pe_lst (pa_cons (pe_call (ok_Lrefused T) (hr.mono (by decide)) (by rfl) T.g_Lrefused T.F_Lrefused.kp T.bi_Lrefused .nil passF (pa_cons (pv 5) (pa_cons (pe_tup (pa_cons pe_str (pa_cons (pv 13) pa_nil))) pa_nil))) (pa_cons (pe_call (ok_Lrefused T) (hr.mono (by decide)) (by rfl) T.g_Lrefused T.F_Lrefused.kp T.bi_Lrefused .nil passF (pa_cons (pv 5) (pa_cons (pe_tup (pa_cons pe_str (pa_cons pe_int (pa_cons (pv 3) pa_nil)))) pa_nil))) pa_nil))))
    (pss_cons (ps_set (i := 14) sc_Lround.nd rfl (.inl rfl) (pe_op op_cat (pv 14) (pe_lst (pa_cons (pe_call (ok_Lrefused T) (hr.mono (by decide)) (by rfl) T.g_Lrefused T.F_Lrefused.kp T.bi_Lrefused .nil passF (pa_cons (pv 5) (pa_cons (pe_tup (pa_cons pe_str (pa_cons pe_int (pa_cons (pe_ifExp (pt_cmpR (op_neD hr.units) (pv 13) (pv 2) (nomark _)) (pv 13) (pe_un un_neg pe_int)) (pa_cons (pe_un un_neg pe_int) pa_nil))))) pa_nil))) pa_nil))))
    (pss_cons (ps_set (i := 14) sc_Lround.nd rfl (.inl rfl) (pe_op op_cat (pv 14) (pe_lst (pa_cons (pe_call (ok_Lrefused T) (hr.mono (by decide)) (by rfl) T.g_Lrefused T.F_Lrefused.kp T.bi_Lrefused .nil passF (pa_cons (pv 5) (pa_cons (pe_tup (pa_cons pe_str (pa_cons pe_int (pa_cons pe_int (pa_cons (pe_op op_shl pe_int pe_int) pa_nil))))) pa_nil))) pa_nil))))
    (pss_cons (ps_set (i := 15) sc_Lround.nd rfl (.inl rfl) (pe_ifExp (pt_cmpR (op_neD hr.units) (pv 13) (pv 2) (nomark _)) (pv 13) (pe_un un_neg pe_int)))
    (pss_cons (ps_if (pt_cmpR op_ne (pe_callB (cr_repr hgd hr.units) (by rfl) T.b_repr (by decide +kernel) (pa_cons (pv 14) pa_nil)) (pe_callB (cr_repr hgd hr.units) (by rfl) T.b_repr (by decide +kernel) (pa_cons (pe_lst (pa_cons (pe_lst (pa_cons pe_str (pa_cons (pv 13) pa_nil))) (pa_cons (pe_lst (pa_cons pe_str (pa_cons (pv 3) pa_nil))) (pa_cons (pe_lst (pa_cons pe_str (pa_cons (pv 15) pa_nil))) (pa_cons (pe_lst (pa_cons pe_str (pa_cons (pe_op op_shl pe_int pe_int) pa_nil))) pa_nil))))) pa_nil)) (nomark _)) (pss_one (ps_ret pe_non)) pss_nil)
    (pss_cons (ps_set (i := 16) sc_Lround.nd rfl (.inl rfl) (pe_lst (pa_cons (pe_call (ok_Ltold T) (hr.mono (by decide)) (by rfl) T.g_Ltold T.F_Ltold.kp T.bi_Ltold .nil passF (pa_cons (pv 5) (pa_cons (pe_tup (pa_cons pe_str pa_nil)) pa_nil))) (pa_cons (pe_call (ok_Ltold T) (hr.mono (by decide)) (by rfl) T.g_Ltold T.F_Ltold.kp T.bi_Ltold .nil passF (pa_cons (pv 6) (pa_cons (pe_tup (pa_cons pe_str pa_nil)) pa_nil))) (pa_cons (pe_call (ok_Ltold T) (hr.mono (by decide)) (by rfl) T.g_Ltold T.F_Ltold.kp T.bi_Ltold .nil passF (pa_cons (pv 6) (pa_cons (pe_tup (pa_cons pe_str pa_nil)) pa_nil))) pa_nil)))))
    (pss_cons (ps_if (pt_cmpR op_ne (pe_callB (cr_repr hgd hr.units) (by rfl) T.b_repr (by decide +kernel) (pa_cons (pv 16) pa_nil)) (pe_callB (cr_repr hgd hr.units) (by rfl) T.b_repr (by decide +kernel) (pa_cons (pe_lst (pa_cons (pe_lst (pa_cons pe_str (pa_cons (pe_call (ok_Lseen T) (hr.mono (by decide)) (by rfl) T.g_Lseen T.F_Lseen.kp T.bi_Lseen .nil passF (pa_cons (pv 7) pa_nil)) pa_nil))) (pa_cons (pe_lst (pa_cons pe_str (pa_cons (pv 1) pa_nil))) (pa_cons (pe_lst (pa_cons pe_str (pa_cons pe_int (pa_cons pe_bl (pa_cons (pe_tup (pa_cons (pv 2) (pa_cons (pv 3) pa_nil))) pa_nil))))) pa_nil)))) pa_nil)) (nomark _)) (pss_one (ps_ret pe_non)) pss_nil)
    (pss_one (ps_ret (pe_meth0 (pv 5) T.cl_Chip T.m_Chip_image (ok_Chip_image T) (hr.mono (by decide)) T.bi_Chip_image .nil passF))))))))))))))))))), ?_⟩
  rw [show L2.start N_Lround [a0, a1] = [some a0, some a1, none, none, none, none, none, none, none, none, none, none, none, none, none, none, none] from rfl]
  obtain ⟨W, fp, im0, P, M, rfl, rfl, w, tf, gi, hP12, hM, hM5, tb, q⟩ := h
  cases id tf with
  | @tup _ fs _ ef tfs =>
  have lf : fs.length = im0.length := by rw [tfs.len, List.length_map]
  have h5 := gi.1
  have h5' := gi.1
  have h12 := gi.2.1
  have hP5 := gi.2.2.1
  have hi0 : im0[0]? = some (im0[0]'(by omega)) := List.getElem?_eq_getElem (by omega)
  obtain ⟨v0, hv0, tv0⟩ := tfs.at (i := 0) (d := (im0[0]'(by omega)).d) (by rw [List.getElem?_map, hi0]; rfl)
  obtain ⟨p0, q0, rfl, e0, e0p⟩ := td_blk tv0
  have hP0 : (im0[0]'(by omega)).pg.length = P := (gi.2.2.2.2.2 _ (List.getElem_mem _)).1.1
  walk_at "vv"
  refine v_lenT ef ?_
  walk_at "vv"
  refine v_ixT ef (atI_nat (j := 0) hv0) ?_
  walk_at "vv"
  refine v_ixT e0 (atI_nat (j := 2) rfl) ?_
  walk_at "vv"
  refine v_lenT e0p ?_
  walk_at "vv"
  rw [List.length_map, hP0, lf]
  refine c3 ⟨W, P, 2, rfl, rfl, rfl, by omega, by omega, by decide, by decide, w, fun lk os H2 hos tl s2 w2 => ?_⟩
  walk_at "vv"
  intro x dx hx hdx hne
  have x2 : Sy T.cs W H H2 := Sy.sx w s2
  have tb2 : Tb T.cs H2 := x2.2 tb
  have tf2 := tf.tk (TK.sx w s2)
  have s3 : Same H2 (upd (upd H2 dx (.own x)) x (.ins T.C_Chip dx [])) := fun b o e => by
    rw [upd_ne (fun z => by rw [z, hx] at e; cases e), upd_ne (fun z => by rw [z, hdx] at e; cases e)]
    exact e
  have nxW : x ≠ W := w2.ne hx
  refine c3 ⟨x, fp, lk, dx, im0, P, os, rfl, rfl, rfl, upd_same, tf2.tk (TK.same s3), gi, tl.tk (TK.same s3), tb2.same s3, fun l H4 far ch0 y4 => ⟨rfl, ?_⟩⟩
  have farW : W ≠ l := by
    obtain ⟨a, b, c, eW⟩ := w2
    exact far W _ (s3 _ _ eW) (fun _ z => nomatch z)
  have nl : l ≠ W := farW.symm
  have w4 : Wl [.int 3] H4 W := by
    obtain ⟨a, b, c, eW⟩ := w2
    exact ⟨a, b, c, y4.1 _ _ nxW.symm (s3 _ _ eW) (fun _ z => nomatch z)⟩
  have hx0 : ∀ b o, b ≠ W → H b = some o → (∀ ps, o ≠ .tbl ps) → b ≠ x ∧ b ≠ l := fun b o nW e t => by
    have e2 := x2.1 b o nW e t
    exact ⟨fun z => (by rw [z, hx] at e2; cases e2), far b o (s3 _ _ e2) t⟩
  have x4 : Sy T.cs W H H4 := ⟨fun b o nW e t => y4.1 b o (hx0 b o nW e t).1 (s3 _ _ (x2.1 b o nW e t)) t, fun _ => y4.2 (tb2.same s3)⟩
  have k24 : TK H2 H4 := fun c xs => ⟨fun e => y4.1 _ _ (fun z => by rw [z, hx] at e; cases e) (s3 _ _ e) (fun _ z => nomatch z), fun o e => y4.1 _ _ (fun z => by rw [z, hx] at e; cases e) (s3 _ _ e) (fun _ z => nomatch z)⟩
  have tf4 := tf2.tk k24
  have tl4 := tl.tk k24
  walk_at "vv"
  refine a_tup (by simp) fun lk2 H5 hlk2 s5 e5 => ?_
  have ch5 := ch0.same s5
  have w5 := w4.of s5
  have x5 : Sy T.cs W H H5 := x4.trans (Sy.ex (Ex.of s5))
  have tf5 := tf4.tk (TK.same s5)
  have tl5 := tl4.tk (TK.same s5)
  have tb5 := x5.2 tb
  walk_at "vv"
  intro y dy hy hdy hney
  have s6 : Same H5 (upd (upd H5 dy (.own y)) y (.ins T.C_Chip dy [])) := fun b o e => by
    rw [upd_ne (fun z => by rw [z, hy] at e; cases e), upd_ne (fun z => by rw [z, hdy] at e; cases e)]
    exact e
  have nyW : y ≠ W := w5.ne hy
  refine c3 ⟨y, fp, lk2, dy, im0, P, [], rfl, rfl, rfl, upd_same, tf5.tk (TK.same s6), gi, .tup (sqT_of (s6 _ _ e5)) .nil, tb5.same s6, fun l2 H7 far2 tw0 y7 => ⟨rfl, ?_⟩⟩
  have old7 : ∀ {b o}, H5 b = some o → (∀ ps, o ≠ .tbl ps) → b ≠ y ∧ b ≠ l2 ∧ H7 b = some o := fun {b o} e t => by
    have ny : b ≠ y := fun z => by rw [z, hy] at e; cases e
    exact ⟨ny, far2 b o (s6 _ _ e) t, y7.1 b o ny (s6 _ _ e) t⟩
  have k57 : TK H5 H7 := fun c xs => ⟨fun e => (old7 e (fun _ z => nomatch z)).2.2, fun o e => (old7 e (fun _ z => nomatch z)).2.2⟩
  have w7 : Wl [.int 3] H7 W := by
    obtain ⟨a, b, c, e⟩ := w5
    exact ⟨a, b, c, (old7 e (fun _ z => nomatch z)).2.2⟩
  have old5 : ∀ b o, b ≠ W → H b = some o → (∀ ps, o ≠ .tbl ps) → b ≠ y ∧ b ≠ l2 := fun b o nW e t => by
    have := old7 (x5.1 b o nW e t) t
    exact ⟨this.1, this.2.1⟩
  have x7 : Sy T.cs W H H7 := ⟨fun b o nW e t => (old7 (x5.1 b o nW e t) t).2.2, fun _ => y7.2 (tb5.same s6)⟩
  have ch7 : ChAt K T.C_Chip x l lk H7 P im0 os 0 false := ch5.keep k57 fun b o hb e => by
    rcases hb with rfl | rfl
    · obtain ⟨d5, e5⟩ := ch5.ob
      exact (old7 e (fun ps z => by rw [z, e5] at e; cases e)).2.2
    · obtain ⟨d5, e5, _⟩ := ch5.bl
      exact (old7 e (fun ps z => by rw [z, e5] at e; cases e)).2.2
  have tf7 := tf5.tk k57
  have tl7 := tl5.tk k57
  walk_at "vv"
  refine c2 ⟨fp, lk, im0, os, rfl, rfl, tf7, tl7, h12, fun B R rows H8 new s8 pl0 => ?_⟩
  have apn : ∀ {a : Addr} {o : HO}, H7 a = some o → a ≠ B ∧ a ≠ R ∧ ∀ z ∈ rows, a ≠ z.1 ∧ a ≠ z.2 := fun {a o} e =>
    ⟨fun z => (by rw [z, new.1] at e; cases e), fun z => (by rw [z, new.2.1] at e; cases e), fun z hz => ⟨fun y => (by rw [y, (new.2.2 z hz).1] at e; cases e), fun y => (by rw [y, (new.2.2 z hz).2] at e; cases e)⟩⟩
  have ap : Apart x l W B R rows := fun a h => by
    rcases h with rfl | rfl | rfl
    · obtain ⟨d, e⟩ := ch7.ob
      exact apn e
    · obtain ⟨d, e, _⟩ := ch7.bl
      exact apn e
    · obtain ⟨a, b, c, e⟩ := w7
      exact apn e
  have far9 : Far x l W B rows H := fun b o nW e t => by
    obtain ⟨a, _, c⟩ := apn (x7.1 b o nW e t)
    exact ⟨hx0 b o nW e t, a, c⟩
  have sp : Sep y l2 x l W B R rows := fun b hb => by
    have hx5 : x ≠ y ∧ x ≠ l2 := by
      obtain ⟨d, e⟩ := ch5.ob
      have := old7 e (fun _ z => nomatch z)
      exact ⟨this.1, this.2.1⟩
    have hl5 : l ≠ y ∧ l ≠ l2 := by
      obtain ⟨d, e, _⟩ := ch5.bl
      have := old7 e (fun _ z => nomatch z)
      exact ⟨this.1, this.2.1⟩
    have hW5 : W ≠ y ∧ W ≠ l2 := by
      obtain ⟨a, b, c, e⟩ := w5
      have := old7 e (fun _ z => nomatch z)
      exact ⟨this.1, this.2.1⟩
    rcases hb with rfl | rfl
    · obtain ⟨d, e⟩ := tw0.ob
      exact ⟨⟨hx5.1.symm, hl5.1.symm, hW5.1.symm⟩, apn e⟩
    · obtain ⟨d, e, _⟩ := tw0.bl
      exact ⟨⟨hx5.2.symm, hl5.2.symm, hW5.2.symm⟩, apn e⟩
  have st8 : S10 K T.cs T.C_Chip x l lk W B R fp y l2 lk2 rows P im0 os H H8 im0 0 false im0 0 false := ⟨⟨ch7.same s8, pl0, w7.of s8, x7.trans (Sy.ex (Ex.of s8)), tf7.tk (TK.same s8)⟩, tw0.same s8⟩
  walk_at "vv"
  refine a_tup (by simp) fun pt H9 hpt s9 e9 => ?_
  have st9 := st8.same s9
  refine v_gtup (sqT_of e9) rfl ?_
  walk_at "vv"
  refine c2 ⟨W, 4, rfl, rfl, st9.s.w, by decide, by decide, fun r HA hr sA wA => ?_⟩
  have stA := st9.sx ap nl sp sA wA
  walk_at "vv"
  obtain ⟨m, hm, hm8⟩ : ∃ m : Nat, (4 : Int) + (r : Int) = (m : Int) ∧ m ≤ 7 := ⟨4 + r, by omega, by omega⟩
  rw [hm]
  refine ⟨m, rfl, by omega, by omega, ?_⟩
  refine for_range (lo := 0) (n := m) (fun t σ H' => ∃ (im : List Bk) (n : Nat) (g : Bool) (y8 y9 : Option V), σ = [some (.ref W), some (.ref fp), some (.int (im0.length : Int)), some (.int (P : Int)), some (.ref lk), some (.ref x), some (.ref y), some (.ref B), y8, y9, none, none, none, none, none, none, none] ∧ n ≤ t ∧ im.length = im0.length ∧ (∀ b ∈ im, b.er ≤ M + t) ∧ S10 K T.cs T.C_Chip x l lk W B R fp y l2 lk2 rows P im0 os H H' im n g im n g) ⟨im0, 0, false, none, none, rfl, Nat.le_refl _, rfl, hM, stA⟩ ?_ ?_
  · rintro t σ HB ht ⟨im, n, g, y8, y9, rfl, hn, hlen, her, sb⟩
    rw [Int.zero_add]
    walk_at "vv"
    have g9 := sb.s.ch.ok
    refine c3 ⟨W, im0.length, P, rfl, rfl, rfl, sb.s.w, by omega, by omega, by omega, by omega, fun dp de HC tdd hok sC wC => ?_⟩
    rw [← hlen] at hok
    have sc := sb.sx ap nl sp sC wC
    walk_at "vv"
    refine Vc.x2 (.inl ⟨x, l, lk, P, im, os, n, g, dp, de, rfl, rfl, sc.s.ch, by omega, tdd, hok, fun p vs ds im' n' g' HD run fr ch' hp0 ep tp => ?_⟩)
    have sd := sc.told ap nxW nl far9 sp fr ch'
    have tdd2 := tdd.tk (tk_fr2 sc.s.ch fr)
    walk_at "vv"
    refine v_repr (.lst (sqL_of ep) (TDs.dp _ _ tp)) (told_shw g9 run) ?_
    walk_at "vv"
    refine c2 ⟨B, R, lk, rows, im, os, n, g, P, dp, de, rfl, rfl, sd.s.pl, g9, by omega, by omega, tdd2, hok, fun p2 vs2 ds2 im2 n2 g2 HE run2 frE pl2 hp2 ep2 tp2 => ?_⟩
    obtain ⟨rfl, rfl, rfl, rfl⟩ := run.det run2
    have se := sd.due ap far9 sp frE pl2
    walk_at "vv"
    refine v_repr (.lst (sqL_of ep2) (TDs.dp _ _ tp2)) (told_shw g9 run) ?_
    walk_at "vv"
    obtain ⟨hn1, hl1⟩ := run.step
    have her1 := er_run run her
    exact ⟨im', n', g', _, _, rfl, by omega, by omega, fun b hb => by have := her1 b hb; omega, se⟩
  rintro σ HB ⟨im, n, g, y8, y9, rfl, hn, hlen, her, sb⟩
  have g9 := sb.s.ch.ok
  dsimp only
  walk_at "vv"
  refine ⟨im0.length, rfl, by omega, by omega, fun D hD => ?_⟩
  refine lc_range (lo := 0) (n := im0.length) (fun i H2 => (∃ bs : List Nat, (∀ b ∈ bs, b < im0.length) ∧ bs.length ≤ i ∧ H2 D = some (.lst (bs.map vN))) ∧ Same HB H2) ⟨⟨[], fun b hb => (by simp at hb), Nat.le_refl _, upd_same⟩, same_new hD⟩ ?_ ?_
  · rintro i H2 hi ⟨⟨bs, hbs, hlb, eD⟩, s2⟩
    rw [Int.zero_add]
    have sc := sb.same s2
    obtain ⟨z, hz⟩ : ∃ z, rows[i]? = some z := ⟨_, List.getElem?_eq_getElem (by rw [sc.s.pl.len, hlen]; exact hi)⟩
    obtain ⟨e1, e2⟩ := sc.s.pl.each i z _ hz (List.getElem?_eq_getElem (by omega))
    walk_at "vv"
    refine ⟨rfl, ?_⟩
    walk_at "vv"
    refine v_ixL (sqL_of sc.s.pl.b) rfl ?_
    walk_at "vv"
    refine v_ixL (sqL_of sc.s.pl.r) (atI_nat (by rw [List.getElem?_map, hz]; rfl)) ?_
    walk_at "vv"
    refine v_ixL (sqL_of e1) rfl ?_
    walk_at "vv"
    refine v_ifb (fun cb => ?_) (fun cb => ?_)
    · walk_at "vv"
      refine ⟨_, eD, by rw [List.length_map]; exact small1000 (by omega), ⟨bs ++ [i], fun b hb => ?_, by rw [List.length_append]; exact Nat.add_le_add_right hlb 1, by rw [upd_same, List.map_append]; rfl⟩, same_own s2 hD⟩
      rcases List.mem_append.mp hb with h | h
      · exact hbs b h
      · rw [List.mem_singleton.mp h]; exact hi
    · exact ⟨⟨bs, hbs, by omega, eD⟩, s2⟩
  rintro HC ⟨⟨bs, hbs, hlb, eD⟩, s2⟩
  have sc := sb.same s2
  walk_at "vv"
  refine a_lst (by simp) fun Z HD hZ sD eZ => ?_
  refine ⟨_, _, .lst (sqL_of (sD _ _ eD)) (dp_ints bs), .lst (sqL_of eZ) .nil, shp_l _, rfl, ?_⟩
  rw [eqv_nil_l]
  have sd := sc.same sD
  have eD2 := sD _ _ eD
  have nDW : D ≠ W := fun z => by
    obtain ⟨a, b, c, e⟩ := sb.s.w
    rw [z, e] at hD
    cases hD
  walk_at "vv"
  refine v_joinP (fun v H' => ∃ a : Nat, v = .int a ∧ a < im0.length ∧ Sx W HD H' ∧ Wl [.int 3] H' W) (fun c Q' q' => ?_) (fun c Q' q' => ?_) (fun v HE hv => ?_)
  · walk_at "vv"
    refine c2 ⟨W, im0.length, rfl, rfl, sd.s.w, by omega, by omega, fun a HE ha sE wE => ?_⟩
    exact q' _ _ ⟨a, rfl, ha, sE, wE⟩
  · walk_at "vv"
    refine c2 ⟨W, D, bs.map vN, rfl, rfl, .inl (sqL_of eD2), nDW, sd.s.w, ?_, by rw [List.length_map]; omega, fun v HE hv sE wE => ?_⟩
    · rw [List.length_map]
      cases bs with
      | nil => simp at c
      | cons _ _ => simp
    · obtain ⟨b, hb, rfl⟩ := List.mem_map.mp hv
      exact q' _ _ ⟨b, rfl, hbs b hb, sE, wE⟩
  obtain ⟨at_, rfl, hat, sE, wE⟩ := hv
  have se := sd.sx ap nl sp sE wE
  walk_at "vv"
  refine c1 ⟨W, rfl, se.s.w, fun pw HF hpw sF wF => ?_⟩
  have sf := se.sx ap nl sp sF wF
  walk_at "vv"
  refine a_tup (by simp) fun d1 H11 hd1 s11 e11 => ?_
  walk_at "vv"
  refine a_tup (by simp) fun d2 H12 hd2 s12 e12 => ?_
  walk_at "vv"
  rw [show ((P : Int) - 1) = ((P - 1 : Nat) : Int) by omega]
  refine a_tup (by simp) fun d3 H13 hd3 s13 e13 => ?_
  walk_at "vv"
  refine a_tup (by simp) fun d4 H14 hd4 s14 e14 => ?_
  walk_at "vv"
  refine a_tup (by simp) fun d5 H15 hd5 s15 e15 => ?_
  walk_at "vv"
  refine a_lst (by simp) fun ML H16 hML s16 eML => ?_
  have s15' := ((((sf.same s11).same s12).same s13).same s14).same s15
  have oM := s15'.out hML
  have s16' := s15'.same s16
  obtain ⟨des, hdes⟩ : ∃ des : List De, des = [.prog at_ 0 pw, .erase at_, .read at_ (P - 1), .seen, .many] := ⟨_, rfl⟩
  have tds : ∀ {Hx : Hp}, TK H16 Hx → ∀ (i : Nat) (v : V), [V.ref d1, V.ref d2, V.ref d3, V.ref d4, V.ref d5][i]? = some v → ∃ (dp : Addr) (de : De), v = V.ref dp ∧ des[i]? = some de ∧ TD K Hx (.ref dp) de.d ∧ de.ok im0.length P := fun {Hx} k i v hv => by
    subst hdes
    match i, hv with
    | 0, hv => exact ⟨d1, _, (Option.some.inj hv).symm, rfl, TD.tk (.tup (sqT_of (s16 _ _ (s15 _ _ (s14 _ _ (s13 _ _ (s12 _ _ e11)))))) (.cons (.str _) (.cons (.int _) (.cons (.int ((0 : Nat) : Int)) (.cons (.int _) .nil))))) k, hat, by omega, hpw⟩
    | 1, hv => exact ⟨d2, _, (Option.some.inj hv).symm, rfl, TD.tk (.tup (sqT_of (s16 _ _ (s15 _ _ (s14 _ _ (s13 _ _ e12))))) (.cons (.str _) (.cons (.int _) .nil))) k, hat⟩
    | 2, hv => exact ⟨d3, _, (Option.some.inj hv).symm, rfl, TD.tk (.tup (sqT_of (s16 _ _ (s15 _ _ (s14 _ _ e13)))) (.cons (.str _) (.cons (.int _) (.cons (.int _) .nil)))) k, hat, by omega⟩
    | 3, hv => exact ⟨d4, _, (Option.some.inj hv).symm, rfl, TD.tk (.tup (sqT_of (s16 _ _ (s15 _ _ e14))) (.cons (.str _) .nil)) k, trivial⟩
    | 4, hv => exact ⟨d5, _, (Option.some.inj hv).symm, rfl, TD.tk (.tup (sqT_of (s16 _ _ e15)) (.cons (.str _) .nil)) k, trivial⟩
    | i + 5, hv => simp at hv
  have dl : des.length = 5 := by subst hdes; rfl
  walk_at "vv"
  refine ⟨⟨_, sqL_of eML⟩, fun D1 hD1 => ?_⟩
  have o1 := s16'.out hD1
  have nM1 : ML ≠ D1 := fun z => by rw [z, hD1] at eML; cases eML
  refine lc_list (xs := [V.ref d1, V.ref d2, V.ref d3, V.ref d4, V.ref d5]) (fun i H' => ∃ (ps : List V) (dss : List (List Vc.D)) (im' : List Bk) (n' : Nat) (g' : Bool), S10 K T.cs T.C_Chip x l lk W B R fp y l2 lk2 rows P im0 os H H' im' n' g' im n g ∧ Runs P os im n g (des.take i) dss im' n' g' ∧ n' ≤ n + i ∧ im'.length = im0.length ∧ (∀ b ∈ im', b.er ≤ M + m + i) ∧ H' D1 = some (.lst ps) ∧ ps.length = i ∧ Rss K H' ps dss ∧ (∀ p, V.ref p ∈ ps → p ≠ x ∧ p ≠ l ∧ p ≠ D1) ∧ H' ML = some (.lst [V.ref d1, V.ref d2, V.ref d3, V.ref d4, V.ref d5]) ∧ TK H16 H')
    ⟨[], [], im, n, g, s16'.same (same_new hD1), .nil, Nat.le_refl _, hlen, her, upd_same, rfl, .nil, fun p hp => (by simp at hp), by rw [upd_ne nM1]; exact eML, TK.same (same_new hD1)⟩ (fun i H' _ ⟨ps, dss, im', n', g', h1, h2, h3, h4, h5, h6, h7, h8, h9, h10, h11⟩ => sqL_of h10) ?_ ?_
  · rintro i v HG hv ⟨ps, dss, im', n', g', h1, h2, h3, h4, h5, h6, h7, h8, h9, h10, h11⟩
    obtain ⟨dp, de, rfl, hde, tde, hok⟩ := tds h11 i v hv
    have hi : i < 5 := by rw [← dl]; exact (List.getElem?_eq_some_iff.mp hde).1
    have etk : des.take (i + 1) = des.take i ++ [de] := by rw [List.take_add_one, hde]; rfl
    have gG := h1.s.ch.ok
    walk_at "vv"
    refine ⟨rfl, ?_⟩
    walk_at "vv"
    refine Vc.x2 (.inl ⟨x, l, lk, P, im', os, n', g', dp, de, rfl, rfl, h1.s.ch, by omega, tde, by rw [h4]; exact hok, fun p vs ds im2 n2 g2 HK run fr ch' hp0 ep tp => ?_⟩)
    have k2 := tk_fr2 h1.s.ch fr
    have h1' := h1.told ap nxW nl far9 sp fr ch'
    obtain ⟨⟨ox, ex⟩, ⟨ol, el⟩, _⟩ := h1.ex
    have pn : p ≠ x ∧ p ≠ l ∧ p ≠ D1 := ⟨fun z => (by rw [z, ex] at hp0; cases hp0), fun z => (by rw [z, el] at hp0; cases hp0), fun z => (by rw [z, h6] at hp0; cases hp0)⟩
    have e6 := fr _ _ o1.nx o1.nl h6
    obtain ⟨hn1, hl1⟩ := run.step
    have her1 := er_run run h5
    refine ⟨ps, e6, small1000 (by omega), ps ++ [.ref p], dss ++ [ds], im2, n2, g2, h1'.mut o1 e6, by rw [etk]; exact h2.snoc gG run, by omega, by omega, fun b hb => by have := her1 b hb; omega, upd_same, by rw [List.length_append, h7]; rfl, ?_, ?_, ?_, (h11.trans k2).trans (TK.mutL e6)⟩
    · have r1 := (h8.keep k2 fun p hp o e => fr p o (h9 p hp).1 (h9 p hp).2.1 e).app (.cons ⟨vs, ep, tp⟩ .nil)
      refine r1.keep (TK.mutL e6) fun p' hp' o e => ?_
      rw [upd_ne]
      · exact e
      · rcases List.mem_append.mp hp' with h | h
        · exact (h9 p' h).2.2
        · rw [V.ref.inj (List.mem_singleton.mp h)]; exact pn.2.2
    · intro p' hp'
      rcases List.mem_append.mp hp' with h | h
      · exact h9 p' h
      · rw [V.ref.inj (List.mem_singleton.mp h)]; exact pn
    · rw [upd_ne nM1]
      exact fr _ _ oM.nx oM.nl h10
  rintro HG ⟨ps, dss, im', n', g', h1, h2, h3, h4, h5, h6, h7, h8, h9, h10, h11⟩
  rw [show [V.ref d1, V.ref d2, V.ref d3, V.ref d4, V.ref d5].length = 5 from rfl, show des.take 5 = des from by rw [← dl, List.take_length]] at h2
  rw [show [V.ref d1, V.ref d2, V.ref d3, V.ref d4, V.ref d5].length = 5 from rfl] at h3 h5
  have wsum : (des.map fun d => wt d + 1).sum ≤ 7900 := by
    subst hdes
    show 101 + (101 + (101 + (5001 + (101 + 0)))) ≤ 7900
    decide
  walk_at "vv"
  refine v_repr (.lst (sqL_of h6) h8.dp) (shw_g (fun y hy => ⟨(h2.wd.1 y hy).1, by have := (h2.wd.1 y hy).2; omega⟩) (Nat.le_trans h2.wd.2 wsum)) ?_
  walk_at "vv"
  refine ⟨⟨_, sqL_of h10⟩, fun D2 hD2 => ?_⟩
  have o2 := h1.out hD2
  have nM2 : ML ≠ D2 := fun z => by rw [z, hD2] at h10; cases h10
  refine lc_list (xs := [V.ref d1, V.ref d2, V.ref d3, V.ref d4, V.ref d5]) (fun i H' => ∃ (qs : List V) (ess : List (List Vc.D)) (im2 : List Bk) (n2 : Nat) (g2 : Bool), S10 K T.cs T.C_Chip x l lk W B R fp y l2 lk2 rows P im0 os H H' im' n' g' im2 n2 g2 ∧ Runs P os im n g (des.take i) ess im2 n2 g2 ∧ n2 ≤ n + i ∧ im2.length = im0.length ∧ H' D2 = some (.lst qs) ∧ qs.length = i ∧ Rss K H' qs ess ∧ (∀ p, V.ref p ∈ qs → p ≠ B ∧ (∀ z ∈ rows, p ≠ z.1 ∧ p ≠ z.2) ∧ p ≠ D2) ∧ H' ML = some (.lst [V.ref d1, V.ref d2, V.ref d3, V.ref d4, V.ref d5]) ∧ TK H16 H')
    ⟨[], [], im, n, g, h1.same (same_new hD2), .nil, Nat.le_refl _, hlen, upd_same, rfl, .nil, fun p hp => (by simp at hp), by rw [upd_ne nM2]; exact h10, h11.trans (TK.same (same_new hD2))⟩ (fun i H' _ ⟨qs, ess, im2, n2, g2, j1, j2, j3, j4, j6, j7, j8, j9, j10, j11⟩ => sqL_of j10) ?_ ?_
  · rintro i v HK hv ⟨qs, ess, im2, n2, g2, j1, j2, j3, j4, j6, j7, j8, j9, j10, j11⟩
    obtain ⟨dp, de, rfl, hde, tde, hok⟩ := tds j11 i v hv
    have hi : i < 5 := by rw [← dl]; exact (List.getElem?_eq_some_iff.mp hde).1
    have etk : des.take (i + 1) = des.take i ++ [de] := by rw [List.take_add_one, hde]; rfl
    have gK : GI P im2 n2 := by
      obtain ⟨_, _, _, _, r1, r2⟩ := h2.pre i (by omega)
      obtain ⟨_, rfl, rfl, _⟩ := r1.det j2
      exact r2
    walk_at "vv"
    refine ⟨rfl, ?_⟩
    walk_at "vv"
    refine c2 ⟨B, R, lk, rows, im2, os, n2, g2, P, dp, de, rfl, rfl, j1.s.pl, gK, by omega, by omega, tde, by rw [j4]; exact hok, fun p vs ds im3 n3 g3 HL run fr pl3 hp0 ep tp => ?_⟩
    have k2 := FrP.tk j1.s.pl fr
    have j1' := j1.due ap far9 sp fr pl3
    obtain ⟨_, _, ⟨oB, eB⟩, erw⟩ := j1.ex
    have pn : p ≠ B ∧ (∀ z ∈ rows, p ≠ z.1 ∧ p ≠ z.2) ∧ p ≠ D2 := ⟨fun z => (by rw [z, eB] at hp0; cases hp0), fun z hz => (by
      obtain ⟨⟨o3, e3⟩, ⟨o4, e4⟩⟩ := erw z hz
      exact ⟨fun w => (by rw [w, e3] at hp0; cases hp0), fun w => (by rw [w, e4] at hp0; cases hp0)⟩), fun z => (by rw [z, j6] at hp0; cases hp0)⟩
    have e6 := fr _ _ o2.nB o2.nr j6
    obtain ⟨hn1, hl1⟩ := run.step
    refine ⟨qs, e6, small1000 (by omega), qs ++ [.ref p], ess ++ [ds], im3, n3, g3, j1'.mut o2 e6, by rw [etk]; exact j2.snoc gK run, by omega, by omega, upd_same, by rw [List.length_append, j7]; rfl, ?_, ?_, ?_, (j11.trans k2).trans (TK.mutL e6)⟩
    · have r1 := (j8.keep k2 fun p hp o e => fr p o (j9 p hp).1 (j9 p hp).2.1 e).app (.cons ⟨vs, ep, tp⟩ .nil)
      refine r1.keep (TK.mutL e6) fun p' hp' o e => ?_
      rw [upd_ne]
      · exact e
      · rcases List.mem_append.mp hp' with h | h
        · exact (j9 p' h).2.2
        · rw [V.ref.inj (List.mem_singleton.mp h)]; exact pn.2.2
    · intro p' hp'
      rcases List.mem_append.mp hp' with h | h
      · exact j9 p' h
      · rw [V.ref.inj (List.mem_singleton.mp h)]; exact pn
    · rw [upd_ne nM2]
      exact fr _ _ oM.nB oM.nr j10
  rintro HK ⟨qs, ess, im2, n2, g2, j1, j2, j3, j4, j6, j7, j8, j9, j10, j11⟩
  rw [show [V.ref d1, V.ref d2, V.ref d3, V.ref d4, V.ref d5].length = 5 from rfl, show des.take 5 = des from by rw [← dl, List.take_length]] at j2
  obtain ⟨rfl, rfl, rfl, rfl⟩ := h2.det j2
  walk_at "vv"
  refine v_repr (.lst (sqL_of j6) j8.dp) (shw_g (fun y hy => ⟨(h2.wd.1 y hy).1, by have := (h2.wd.1 y hy).2; omega⟩) (Nat.le_trans h2.wd.2 wsum)) ?_
  have gK := j1.s.ch.ok
  walk_at "vv"
  refine a_tup (by simp) fun t0 H20 ht0 s20 e20 => ?_
  have st20 := j1.same s20
  walk_at "vv"
  have nt0 : t0 ≠ W := (j1.out ht0).nW
  refine c2 ⟨W, t0, [.int (im0.length : Int), .int (-1), .bl true, .non, .str "0"], rfl, rfl, .inr (sqT_of e20), nt0, st20.s.w, by simp, by simp, fun vo H21 hvo s21 w21 => ?_⟩
  have st21 := st20.sx ap nl sp s21 w21
  obtain ⟨od, hdp, hshp, heqv, hout, hwd, hne⟩ := odd_facts (K := K) h5' hvo h12
  walk_at "vv"
  refine a_tup (by simp) fun t1 H22 ht1 s22 e22 => ?_
  have st22 := st21.same s22
  walk_at "vv"
  refine c2 ⟨x, l, lk, P, im', os, n', g', t1, .er vo, rfl, rfl, st22.s.ch, sqT_of e22, by rw [h4]; exact hout, fun p1 H23 s23 hp1 e23 => ?_⟩
  have st23 := st22.same s23
  walk_at "vv"
  refine a_tup (by simp) fun t2 H24 ht2 s24 e24 => ?_
  have st24 := st23.same s24
  walk_at "vv"
  refine c2 ⟨x, l, lk, P, im', os, n', g', t2, .rd P, rfl, rfl, st24.s.ch, sqT_of e24, .inl ⟨_, rfl, by omega⟩, fun p2 H25 s25 hp2 e25 => ?_⟩
  have st25 := st24.same s25
  walk_at "vv"
  refine a_lst (by simp) fun L1 H26 hL1 s26 e26 => ?_
  have st26 := st25.same s26
  walk_at "vv"
  have nd : ∀ {Hx : Hp} {Qx : VK} {ta tb : TE} {σ : L2.St}, (∀ Q' : VK, (Q' vo Hx → ta σ Hx Q')) → (∀ Q' : VK, (Q' (.int (-1)) Hx → tb σ Hx Q')) → Qx (if vo = .int (im0.length : Int) then .int (-1) else vo) Hx → rNeD K vo (.int (im0.length : Int)) Hx fun v H' => ∃ b, v = .bl b ∧ if b = true then ta σ H' Qx else tb σ H' Qx := fun {Hx Qx ta tb σ} ha hb hq => by
    refine ⟨_, _, hdp Hx, .int _, hshp, by simp [SeqAt.shaped, PyData.canLay0, PyData.depth], _, rfl, ?_⟩
    rw [heqv]
    by_cases c : vo = .int (im0.length : Int)
    · rw [decide_eq_true c, if_neg (by simp)]
      rw [if_pos c] at hq
      exact hb _ hq
    · rw [decide_eq_false c, if_pos (by simp)]
      rw [if_neg c] at hq
      exact ha _ hq
  refine nd (fun Q' h => ?_) (fun Q' h => ?_) ?_
  · walk_at "vv"
    exact h
  · walk_at "vv"
    exact h
  obtain ⟨so, hso⟩ : ∃ so : V, so = if vo = .int (im0.length : Int) then .int (-1) else vo := ⟨_, rfl⟩
  rw [← hso]
  have sout : Out so 0 ((P : Int) - 1) := by
    rw [hso]
    by_cases c : vo = .int (im0.length : Int)
    · rw [if_pos c]; exact .inl ⟨_, rfl, by omega⟩
    · rw [if_neg c]; exact hne c P
  obtain ⟨sdat, sdp, swd⟩ : ∃ sdat : PyData, (∀ H, Dp K H so sdat) ∧ (shb sdat = true ∧ nsz sdat ≤ 21 ∧ sdat.depth ≤ 3) := by
    rw [hso]
    by_cases c : vo = .int (im0.length : Int)
    · rw [if_pos c]
      have := leaf_int (i := -1) (by decide +kernel)
      exact ⟨_, fun H => .int _, this.1, by have := this.2.1; omega, by rw [this.2.2]; omega⟩
    · rw [if_neg c]; exact ⟨od, hdp, hwd⟩
  walk_at "vv"
  refine a_tup (by simp) fun t3 H27 ht3 s27 e27 => ?_
  have st27 := st26.same s27
  walk_at "vv"
  refine c2 ⟨x, l, lk, P, im', os, n', g', t3, .pr so (-1), rfl, rfl, st27.s.ch, sqT_of e27, sout, fun p3 H28 s28 hp3 e28 => ?_⟩
  have st28 := st27.same s28
  walk_at "vv"
  refine a_lst (by simp) fun L2 H29 hL2 s29 e29 => ?_
  have st29 := st28.same s29
  walk_at "vv"
  refine a_cat (s29 _ _ (s28 _ _ (s27 _ _ e26))) e29 (by simp) fun L3 H30 hL3 s30 e30 => ?_
  have st30 := st29.same s30
  walk_at "vv"
  rw [sh_eq]
  refine a_tup (by simp) fun t4 H31 ht4 s31 e31 => ?_
  have st31 := st30.same s31
  walk_at "vv"
  refine c2 ⟨x, l, lk, P, im', os, n', g', t4, .pw ((MX : Nat) : Int), rfl, rfl, st31.s.ch, sqT_of e31, Int.le_refl _, fun p4 H32 s32 hp4 e32 => ?_⟩
  have st32 := st31.same s32
  walk_at "vv"
  refine a_lst (by simp) fun L4 H33 hL4 s33 e33 => ?_
  have st33 := st32.same s33
  walk_at "vv"
  refine a_cat (s33 _ _ (s32 _ _ (s31 _ _ e30))) e33 (by simp) fun L5 H34 hL5 s34 e34 => ?_
  have st34 := st33.same s34
  walk_at "vv"
  refine nd (fun Q' h => ?_) (fun Q' h => ?_) ?_
  · walk_at "vv"
    exact h
  · walk_at "vv"
    exact h
  rw [← hso]
  walk_at "vv"
  have c23 : Same H23 H34 := fun b o e => s34 _ _ (s33 _ _ (s32 _ _ (s31 _ _ (s30 _ _ (s29 _ _ (s28 _ _ (s27 _ _ (s26 _ _ (s25 _ _ (s24 _ _ e))))))))))
  have c25 : Same H25 H34 := fun b o e => s34 _ _ (s33 _ _ (s32 _ _ (s31 _ _ (s30 _ _ (s29 _ _ (s28 _ _ (s27 _ _ (s26 _ _ e))))))))
  have c28 : Same H28 H34 := fun b o e => s34 _ _ (s33 _ _ (s32 _ _ (s31 _ _ (s30 _ _ (s29 _ _ e)))))
  have c32 : Same H32 H34 := fun b o e => s34 _ _ (s33 _ _ e)
  have sN : shb (.str ("number" : PySem.Str)) = true ∧ ("number" : PySem.Str).length ≤ 20 := ⟨by decide +kernel, by decide +kernel⟩
  have sP : shb (.str ("page" : PySem.Str)) = true ∧ ("page" : PySem.Str).length ≤ 20 := ⟨by decide +kernel, by decide +kernel⟩
  have wP : shb (.int (P : Int)) = true ∧ nsz (.int (P : Int)) ≤ 21 ∧ (PyData.int (P : Int)).depth ≤ 3 := nat_wd (sml_MX (by omega))
  have wM : shb (.int ((MX : Nat) : Int)) = true ∧ nsz (.int ((MX : Nat) : Int)) ≤ 21 ∧ (PyData.int ((MX : Nat) : Int)).depth ≤ 3 := by
    have := leafN (a := MX) (by have := MX_pos; omega)
    exact ⟨this.1, by have := this.2.1; omega, by rw [this.2.2]; omega⟩
  have WS : Shw (.list [.list [.str "number", od], .list [.str "number", .int (P : Int)], .list [.str "number", sdat], .list [.str "page", .int ((MX : Nat) : Int)]]) := wrong_shw sN sN sN sP hwd wP swd wM
  refine v_repr (d := .list [.list [.str "number", od], .list [.str "number", .int (P : Int)], .list [.str "number", sdat], .list [.str "page", .int ((MX : Nat) : Int)]]) (.lst (sqL_of e34) (.cons (.lst (sqL_of (c23 _ _ e23)) (.cons (.str _) (.cons (hdp _) .nil))) (.cons (.lst (sqL_of (c25 _ _ e25)) (.cons (.str _) (.cons (.int _) .nil))) (.cons (.lst (sqL_of (c28 _ _ e28)) (.cons (.str _) (.cons (sdp _) .nil))) (.cons (.lst (sqL_of (c32 _ _ e32)) (.cons (.str _) (.cons (.int _) .nil))) .nil))))) WS ?_
  walk_at "vv"
  refine a_lst (by simp) fun b1 H35 hb1 s35 e35 => ?_
  walk_at "vv"
  refine a_lst (by simp) fun b2 H36 hb2 s36 e36 => ?_
  walk_at "vv"
  refine a_lst (by simp) fun b3 H37 hb3 s37 e37 => ?_
  walk_at "vv"
  rw [sh_eq]
  refine a_lst (by simp) fun b4 H38 hb4 s38 e38 => ?_
  walk_at "vv"
  refine a_lst (by simp) fun L6 H39 hL6 s39 e39 => ?_
  walk_at "vv"
  have st39 := ((((st34.same s35).same s36).same s37).same s38).same s39
  refine v_repr (d := .list [.list [.str "number", od], .list [.str "number", .int (P : Int)], .list [.str "number", sdat], .list [.str "page", .int ((MX : Nat) : Int)]]) (.lst (sqL_of e39) (.cons (.lst (sqL_of (s39 _ _ (s38 _ _ (s37 _ _ (s36 _ _ e35))))) (.cons (.str _) (.cons (hdp _) .nil))) (.cons (.lst (sqL_of (s39 _ _ (s38 _ _ (s37 _ _ e36)))) (.cons (.str _) (.cons (.int _) .nil))) (.cons (.lst (sqL_of (s39 _ _ (s38 _ _ e37))) (.cons (.str _) (.cons (sdp _) .nil))) (.cons (.lst (sqL_of (s39 _ _ e38)) (.cons (.str _) (.cons (.int _) .nil))) .nil))))) WS ?_
  walk_at "vv"
  refine a_tup (by simp) fun f1 H40 hf1 s40 e40 => ?_
  have st40 := st39.same s40
  walk_at "vv"
  refine Vc.x2 (.inl ⟨x, l, lk, P, im', os, n', g', f1, .seen, rfl, rfl, st40.s.ch, by omega, .tup (sqT_of e40) (.cons (.str _) .nil), trivial, fun r1 vs1 ds1 im1 n1 g1 H41 run1 fr1 ch1 hr1 er1 tr1 => ?_⟩)
  have st41 := st40.told ap nxW nl far9 sp fr1 ch1
  cases run1
  walk_at "vv"
  refine a_tup (by simp) fun f2 H42 hf2 s42 e42 => ?_
  have st42 := st41.same s42
  walk_at "vv"
  refine Vc.x2 (.inl ⟨y, l2, lk2, P, im0, [], 0, false, f2, .seen, rfl, rfl, st42.tw, by omega, .tup (sqT_of e42) (.cons (.str _) .nil), trivial, fun r2 vs2 ds2 im2 n2 g2 H43 run2 fr2 ch2 hr2 er2 tr2 => ?_⟩)
  have far2' : ∀ b o, b ≠ W → H b = some o → (∀ ps, o ≠ .tbl ps) → b ≠ y ∧ b ≠ l2 := old5
  cases run2
  have st43 := st42.twin sp far2' fr2 ch2
  walk_at "vv"
  refine a_tup (by simp) fun f3 H44 hf3 s44 e44 => ?_
  have st44 := st43.same s44
  walk_at "vv"
  refine Vc.x2 (.inl ⟨y, l2, lk2, P, im0, [], 0, false, f3, .many, rfl, rfl, st44.tw, by omega, .tup (sqT_of e44) (.cons (.str _) .nil), trivial, fun r3 vs3 ds3 im3 n3 g3 H45 run3 fr3 ch3 hr3 er3 tr3 => ?_⟩)
  cases run3
  have st45 := st44.twin sp far2' fr3 ch3
  walk_at "vv"
  refine a_lst (by simp) fun LL H46 hLL s46 e46 => ?_
  have st46 := st45.same s46
  walk_at "vv"
  have ne1 : r1 ≠ y ∧ r1 ≠ l2 := by
    obtain ⟨dy2, ey2⟩ := st40.tw.ob
    obtain ⟨bt2, et2, _⟩ := st40.tw.bl
    exact ⟨fun z => (by rw [z, ey2] at hr1; cases hr1), fun z => (by rw [z, et2] at hr1; cases hr1)⟩
  have ne2 : r2 ≠ y ∧ r2 ≠ l2 := by
    obtain ⟨dy2, ey2⟩ := st42.tw.ob
    obtain ⟨bt2, et2, _⟩ := st42.tw.bl
    exact ⟨fun z => (by rw [z, ey2] at hr2; cases hr2), fun z => (by rw [z, et2] at hr2; cases hr2)⟩
  have k23 := tk_fr2 st42.tw fr2
  have k45 := tk_fr2 st44.tw fr3
  have f1' : Rs K H46 r1 _ := ⟨vs1, s46 _ _ (fr3 _ _ ne1.1 ne1.2 (s44 _ _ (fr2 _ _ ne1.1 ne1.2 (s42 _ _ er1)))), ((((tr1.tk (TK.same s42)).tk k23).tk (TK.same s44)).tk k45).tk (TK.same s46)⟩
  have f2' : Rs K H46 r2 _ := ⟨vs2, s46 _ _ (fr3 _ _ ne2.1 ne2.2 (s44 _ _ er2)), ((tr2.tk (TK.same s44)).tk k45).tk (TK.same s46)⟩
  have f3' : Rs K H46 r3 _ := ⟨vs3, s46 _ _ er3, tr3.tk (TK.same s46)⟩
  have LS := last_shw (im := im') (im0 := im0) (P := P) st46.s.ch.ok gi rfl
  refine v_repr (.lst (sqL_of e46) (.cons f1'.dp (.cons f2'.dp (.cons f3'.dp .nil)))) LS ?_
  walk_at "vv"
  refine c1 ⟨B, R, lk, rows, im', os, n', g', rfl, st46.s.pl, st46.s.ch.ok.2.1, fun k hk => by rw [(st46.s.ch.ok.2.2.2.2.2 k hk).1.1]; exact hP12, fun sp1 H47 t47 s47 => ?_⟩
  have st47 := st46.same s47
  walk_at "vv"
  refine a_lst (by simp) fun c1_ H48 hc1 s48 e48 => ?_
  walk_at "vv"
  refine a_lst (by simp) fun c2_ H49 hc2 s49 e49 => ?_
  walk_at "vv"
  refine a_tup (by simp) fun c4_ H50 hc4 s50 e50 => ?_
  walk_at "vv"
  refine a_lst (by simp) fun c3_ H51 hc3 s51 e51 => ?_
  walk_at "vv"
  refine a_lst (by simp) fun c5_ H52 hc5 s52 e52 => ?_
  walk_at "vv"
  have st52 := ((((st47.same s48).same s49).same s50).same s51).same s52
  have g1' : Rs K H52 c1_ [.str "told", .tup (im'.map Bk.d)] := ⟨_, s52 _ _ (s51 _ _ (s50 _ _ (s49 _ _ e48))), .cons (.str _) (.cons (((((t47.tk (TK.same s48)).tk (TK.same s49)).tk (TK.same s50)).tk (TK.same s51)).tk (TK.same s52)) .nil)⟩
  have g2' : Rs K H52 c2_ [.str "told", .tup (im0.map Bk.d)] := ⟨_, s52 _ _ (s51 _ _ (s50 _ _ e49)), .cons (.str _) (.cons st52.s.tf .nil)⟩
  have g3' : Rs K H52 c3_ [.str "told", .int ((0 : Nat) : Int), .bl false, .tup [.int (im0.length : Int), .int (P : Int)]] := ⟨_, s52 _ _ e51, .cons (.str _) (.cons (.int _) (.cons (.bl _) (.cons (.tup (sqT_of (s52 _ _ (s51 _ _ e50))) (.cons (.int _) (.cons (.int _) .nil))) .nil)))⟩
  refine v_repr (.lst (sqL_of e52) (.cons g1'.dp (.cons g2'.dp (.cons g3'.dp .nil)))) LS ?_
  walk_at "vv"
  obtain ⟨dx9, ex9⟩ := st52.s.ch.ob
  refine ⟨x, dx9, _, rfl, ex9, ch_no (by decide +kernel) (by decide +kernel) (by decide +kernel) (by decide +kernel), ?_⟩
  walk_at "vv"
  refine c1 ⟨x, l, lk, P, im', os, n', g', rfl, st52.s.ch, fun rp H53 s53 t53 => ?_⟩
  have ok9 := st52.s.ch.ok
  refine q rp im' H53 t53 ⟨ok9.1, ok9.2.1, ok9.2.2.1, ok9.2.2.2.1, by omega, fun b hb => ⟨(ok9.2.2.2.2.2 b hb).1, by have := h5 b hb; omega⟩⟩ (fun b hb => by have := h5 b hb; omega) (st52.s.w.of s53) (st52.s.sy.trans (Sy.ex (Ex.of s53)))
def spo_Lright (K : PySem.W.Frag) (cs : Cds) (C_Chip C_PowerCut C_InvalidNumber C_InvalidPage : Addr) : Sp := sp1 fun v H Q => ∃ W : Addr, v = .ref W ∧ Wl [.int 3] H W ∧ Tb cs H ∧ ∀ H', Sy cs W H H' → Q (.bl true) H'
abbrev sp_Lright (K : PySem.W.Frag) (cs : Cds) (C_Chip C_PowerCut C_InvalidNumber C_InvalidPage : Addr) : Sp := spo_Lright K cs C_Chip C_PowerCut C_InvalidNumber C_InvalidPage
theorem ok_Lright (T : Txt K mg base) : FnG P w K mg base 13 T.f_Lright T.fd_Lright ["_law_well_here"] (sp_Lright K T.cs T.C_Chip T.C_PowerCut T.C_InvalidNumber T.C_InvalidPage) := by
  refine okG T.F_Lright sc_Lright len1 (fun cdv A outer s H vs Q hgd hr h => ?_)
  obtain ⟨a0, rfl, h⟩ := h
  refine ⟨_, (pss_cons (ps_set (i := 1) sc_Lright.nd rfl (.inl rfl) (pe_call (ok_Limage T) (hr.mono (by decide)) (by rfl) T.g_Limage T.F_Limage.kp T.bi_Limage .nil passF (pa_cons (pv 0) pa_nil)))
    (pss_cons (ps_for PassesOwn.never rfl (pi_range1 rfl T.b_range (pa_cons (pe_op op_add pe_int (pe_call (ok_Ldraw T) (hr.mono (by decide)) (by rfl) T.g_Ldraw T.F_Ldraw.kp T.bi_Ldraw .nil passF (pa_cons (pv 0) (pa_cons pe_int pa_nil)))) pa_nil)) (pg_name (i := 2) sc_Lright.nd rfl (.inl rfl))
      (pss_one (ps_if (pt_cmpR op_notN (pv 1) pe_non (nomark _)) (pss_one (ps_set (i := 1) sc_Lright.nd rfl (.inl rfl) (pe_callG (ok_Lround T) hgd (hr.mono (by decide)) (by rfl) T.g_Lround T.F_Lround.kp T.bi_Lround .nil (pa_cons (pv 0) (pa_cons (pv 1) pa_nil))))) pss_nil)))
    (pss_one (ps_ret (pe_cmpR op_notN (pv 1) pe_non (nomark _)))))), ?_⟩
  rw [show L2.start N_Lright [a0] = [some a0, none, none] from rfl]
  obtain ⟨W, rfl, w, tb, q⟩ := h
  walk_at "vv"
  refine c1 ⟨W, rfl, w, fun fp im0 P H1 hP6 tf gi hM s1 w1 => ?_⟩
  have x1 : Sy T.cs W H H1 := Sy.sx w s1
  walk_at "vv"
  refine c2 ⟨W, 4, rfl, rfl, w1, by decide, by decide, fun r H2 hr s2 w2 => ?_⟩
  walk_at "vv"
  obtain ⟨m, hm, hm4⟩ : ∃ m : Nat, (1 : Int) + (r : Int) = (m : Int) ∧ m ≤ 4 := ⟨1 + r, by omega, by omega⟩
  rw [hm]
  refine ⟨m, rfl, by omega, by omega, ?_⟩
  refine for_range (lo := 0) (n := m) (fun t σ H' => ∃ (p : Addr) (im : List Bk) (y2 : Option V), σ = [some (.ref W), some (.ref p), y2] ∧ TD K H' (.ref p) (.tup (im.map Bk.d)) ∧ GI P im 0 ∧ (∀ b ∈ im, b.er ≤ 7 + 13 * t) ∧ Wl [.int 3] H' W ∧ Sy T.cs W H H') ⟨fp, im0, none, rfl, tf.tk (TK.sx w1 s2), gi, hM, w2, x1.trans (Sy.sx w1 s2)⟩ ?_ ?_
  · rintro t σ H3 ht ⟨p, im, y2, rfl, tf3, gi3, hM3, w3, x3⟩
    walk_at "vv"
    refine ⟨rfl, ?_⟩
    rw [show (!decide (V.ref p = V.non)) = true by simp]
    walk_at "vv"
    refine c2 ⟨W, p, im, P, 7 + 13 * t, rfl, rfl, w3, tf3, gi3, by omega, hM3, by omega, x3.2 tb, fun p' im' H4 t4 g4 hM4 w4 x4 => ?_⟩
    walk_at "vv"
    exact ⟨p', im', _, rfl, t4, g4, fun b hb => by have := hM4 b hb; omega, w4, x3.trans x4⟩
  · rintro σ H3 ⟨p, im, y2, rfl, tf3, gi3, hM3, w3, x3⟩
    dsimp only
    walk_at "vv"
    refine ⟨rfl, ?_⟩
    rw [show (!decide (V.ref p = V.non)) = true by simp]
    exact q H3 x3
def spo_Lwell (K : PySem.W.Frag) (cs : Cds) (C_Chip C_PowerCut C_InvalidNumber C_InvalidPage : Addr) : Sp := sp2 fun s t H Q => ∃ (a : Addr) (ns : List Int) (k : Nat), s = .ref a ∧ t = .int k ∧ SqL K H a (ns.map V.int) ∧ ns.length ≤ 63 ∧ ∀ (W : Addr) (H' : Hp), H W = none → Same H H' → Wl [.int 3] H' W → Q (.ref W) H'
abbrev sp_Lwell (K : PySem.W.Frag) (cs : Cds) (C_Chip C_PowerCut C_InvalidNumber C_InvalidPage : Addr) : Sp := spo_Lwell K cs C_Chip C_PowerCut C_InvalidNumber C_InvalidPage
theorem ok_Lwell (T : Txt K mg base) : FnOk P w K mg base (L2.CX P w) 1 T.f_Lwell T.fd_Lwell ["_law_script", "_law_turn"] (sp_Lwell K T.cs T.C_Chip T.C_PowerCut T.C_InvalidNumber T.C_InvalidPage) := by
  refine T.F_Lwell.okX sc_Lwell len2 (fun cdv A outer s H vs Q E hr h => ?_)
  obtain ⟨a0, a1, rfl, h⟩ := h
  refine ⟨_, (pss_cons (ps_set (i := 2) sc_Lwell.nd rfl (.inl rfl) (pe_op op_add pe_int (pe_op op_mul pe_int (pv 1))))
    (pss_cons (ps_for (passes_of rfl) rfl (pi_list (pe_slice sl_list (pv 0) po_none (po_some pe_int))) (pg_name (i := 3) sc_Lwell.nd rfl (.inl rfl))
      (pss_one (ps_set (i := 2) sc_Lwell.nd rfl (.inl rfl) (pe_op op_modN (pe_callTy cv_int (by rfl) T.b_int (by decide +kernel) (pa_cons (pe_op op_add (pe_op op_add (pe_op op_mul (pv 2) pe_int) (pe_op op_modN (pe_callTy cv_int (by rfl) T.b_int (by decide +kernel) (pa_cons (pv 3) pa_nil)) pe_int)) pe_int) pa_nil)) pe_int))))
    (pss_cons (ps_set (i := 4) sc_Lwell.nd rfl (.inl rfl) (pe_ifExp (pt_cmpR op_lt (pv 1) (pe_callB cv_len (by rfl) T.b_len PySem.boot_len (pa_cons (pv 0) pa_nil)) (nomark _)) (pe_callTy cv_int (by rfl) T.b_int (by decide +kernel) (pa_cons (pe_ix ix_list (pv 0) (pv 1) (fun _ _ => rfl)) pa_nil)) pe_int))
    (pss_cons (ps_set (i := 2) sc_Lwell.nd rfl (.inl rfl) (pe_op op_modN (pe_callTy cv_int (by rfl) T.b_int (by decide +kernel) (pa_cons (pe_op op_add (pe_op op_add (pe_op op_mul (pv 2) pe_int) (pe_op op_mul (pe_op op_modN (pe_callTy cv_int (by rfl) T.b_int (by decide +kernel) (pa_cons (pv 4) pa_nil)) pe_int) pe_int)) pe_int) pa_nil)) pe_int))
    (pss_one (ps_ret (pe_lst (pa_cons (pe_ifExp (PW.pt (pw_or (pt_cmpR op_lt (pv 4) pe_int (nomark _)) (pw_or1 (pt_cmpR op_ge (pv 4) (pe_op op_pow pe_int pe_int) (nomark _))))) (pe_callB cv_abs (by rfl) T.b_abs (by decide +kernel) (pa_cons (pv 4) pa_nil)) pe_int) (pa_cons (pv 2) (pa_cons pe_int (pa_cons pe_int pa_nil))))))))))), ?_⟩
  rw [show L2.start N_Lwell [a0, a1] = [some a0, some a1, none, none, none] from rfl]
  obtain ⟨a, ns, k, rfl, rfl, hS, hl, q⟩ := h
  walk_at "vv"
  refine a_slL hS (fun c H1 hc s1 h1 => ?_)
  walk_at "vv"
  refine ⟨⟨_, sqL_of h1⟩, ?_⟩
  refine for_list (xs := cutV (ns.map V.int) none (some 9)) (fun i σ H' => ∃ (m : Int) (y : Option V), σ = [some (.ref a), some (.int k), some (.int m), y, none] ∧ H' = H1) ⟨_, none, rfl, rfl⟩ ?_ ?_ ?_
  · rintro i σ H' _ ⟨m, y, rfl, rfl⟩
    exact sqL_of h1
  · rintro i x σ H' hx ⟨m, y, rfl, rfl⟩
    obtain ⟨z, rfl⟩ := cut_ints hx
    walk_at "vv"
    exact ⟨_, _, rfl, rfl⟩
  · rintro σ H' ⟨m, y, rfl, rfl⟩
    dsimp only
    walk_at "vv"
    refine v_lenL (s1.seq hS) ?_
    walk_at "vv"
    refine v_joinI (fun c Q' q' => ?_) (fun c Q' q' => ?_) (fun o => ?_)
    · walk_at "vv"
      rw [List.length_map, decide_eq_true_eq] at c
      refine v_ixL (s1.seq hS) (atI_nat (j := k) (by rw [List.getElem?_map, List.getElem?_eq_getElem (by omega)]; rfl)) ?_
      walk_at "vv"
      exact q' _
    · walk_at "vv"
      exact q' _
    · walk_at "vv"
      have fin : ∀ (p : Addr) (o1 o2 : Int), H' p = none → Q (.ref p) (upd H' p (.lst [.int o1, .int o2, .int 0, .int 3])) := fun p o1 o2 hp => q p _ (s1.free hp) (s1.trans (same_new hp)) ⟨_, _, _, upd_same⟩
      refine v_ifd (fun c => ?_) (fun c => ?_)
      · walk_at "vv"
        exact n_lst (by simp) fun p hp => fin p _ _ hp
      · walk_at "vv"
        refine v_ifd (fun c => ?_) (fun c => ?_)
        · walk_at "vv"
          exact n_lst (by simp) fun p hp => fin p _ _ hp
        · walk_at "vv"
          exact n_lst (by simp) fun p hp => fin p _ _ hp
def spo_law (K : PySem.W.Frag) (cs : Cds) : Sp := sp1 fun v H Q => ∃ (a : Addr) (ns : List Int), v = .ref a ∧ SqL K H a (ns.map V.int) ∧ ns.length ≤ 63 ∧ Tb cs H ∧ ∀ H', Q (.bl true) H'
abbrev sp_law (K : PySem.W.Frag) (cs : Cds) : Sp := spo_law K cs
theorem ok_law (T : Txt K mg base) : FnG P w K mg base 14 T.f_law T.fd_law ["_law_script"] (sp_law K T.cs) := by
  refine okG T.F_law sc_law len1 (fun cdv A outer s H vs Q hgd hr h => ?_)
  obtain ⟨a0, rfl, h⟩ := h
  refine ⟨_, (pss_one (ps_ret (pe_callB (cr_all rfl) (by rfl) T.b_all (by decide +kernel) (pa_cons (pe_lc (own := [("_law_turn", 1)]) (g := gName 1) (tt := tYes) (by rfl) sc_law.nd (pi_range1 rfl T.b_range (pa_cons pe_int pa_nil)) (blkOk_by (own := [("_law_turn", 1)]) (N := N_law) (sc := defScope s_law) (by decide +kernel)) (fun _ _ _ _ _ => pg_name (i := 1) sc_law.nd rfl (Or.inl rfl)) (fun _ _ _ _ _ => pts_nil) (fun _ _ _ _ _ => (pe_callG (ok_Lright T) hgd (hr.mono (by decide)) (by rfl) T.g_Lright T.F_Lright.kp T.bi_Lright .nil (pa_cons (pe_call (ok_Lwell T) (hr.mono (by decide)) (by rfl) T.g_Lwell T.F_Lwell.kp T.bi_Lwell .nil passF (pa_cons (pv 0) (pa_cons (pv 1) pa_nil))) pa_nil)))) pa_nil)))), ?_⟩
  rw [show L2.start N_law [a0] = [some a0, none] from rfl]
  obtain ⟨a, ns, rfl, hS, hl, tb, q⟩ := h
  walk_at "vv"
  refine ⟨2, rfl, by decide, by decide, fun D hD => ?_⟩
  refine lc_range (lo := 0) (n := 2) (fun i H2 => H2 D = some (.lst (List.replicate i (.bl true))) ∧ Ex T.cs H H2) ⟨upd_same, Ex.of (same_new hD)⟩ ?_ ?_
  · rintro i H2 hi ⟨hD2, x2⟩
    walk_at "vv"
    refine ⟨rfl, ?_⟩
    walk_at "vv"
    rw [Int.zero_add]
    refine c2 ⟨a, ns, i, rfl, rfl, x2.seqL hS, hl, fun W H3 hW s3 w3 => ?_⟩
    walk_at "vv"
    refine c1 ⟨W, rfl, w3, (x2.2 tb).same s3, fun H4 y4 => ?_⟩
    have x24 : Ex T.cs H2 H4 := ex_sy hW s3 y4
    have hD4 := x24.lst hD2
    have x4 := x2.trans x24
    refine ⟨_, hD4, by rw [List.length_replicate]; exact small1000 (by omega), by rw [upd_same, rep_more], ex_own x4 hD (x4.2 tb) ⟨_, hD4⟩⟩
  · rintro H2 ⟨hD2, x2⟩
    walk_at "vv"
    refine v_allT hD2 ?_
    exact q H2
end
theorem law_start (K : PySem.W.Frag) (cs : Cds) (H : Hp) (a : Addr) (ns : List Int) (hl : ns.length ≤ 63) (hS : SqL K H a (ns.map V.int)) (tb : Tb cs H) : sp_law K cs [.ref a] H (fun v _ => v = .bl true) E0 :=
  ⟨_, rfl, a, ns, rfl, hS, hl, tb, fun _ => rfl⟩

theorem law_at {P : Program} {w : World} {K : PySem.W.Frag} {mg : Str → Option Value} {base : Heap} {fa : Addr} {fd : FuncData} (T : Txt K mg base) (e1 : T.f_law = fa) (e2 : T.fd_law = fd) : FnG P w K mg base 14 fa fd ["_law_script"] (sp_law K T.cs) := by
  subst e1
  subst e2
  exact ok_law T
/-! ### what the top has written -/
theorem all_mk {l : PySem.W.OpenLaw} {w : World} {K : PySem.W.Frag} {h : Heap} {mg : Str → Option Value} {fa : Addr} (X : K.In h) (G : h.Ns mainGlobals mg) (hfa : mg "law" = some (.ref fa))
    {od0 an0 : Option Addr} {sl0 : Array (Option Value)} {oc0 kV0 dc0 pm0 ct0 : Value} {cd0 : Value} {f0 : Addr}
    {od1 an1 : Option Addr} {sl1 : Array (Option Value)} {oc1 kV1 dc1 pm1 ct1 : Value} {cd1 : Value} {f1 : Addr}
    {od2 an2 : Option Addr} {sl2 : Array (Option Value)} {oc2 kV2 dc2 pm2 ct2 : Value} {cd2 : Value} {f2 : Addr}
    {od3 an3 : Option Addr} {sl3 : Array (Option Value)} {oc3 kV3 dc3 pm3 ct3 : Value} {cd3 : Value} {f3 : Addr}
    {od4 an4 : Option Addr} {sl4 : Array (Option Value)} {oc4 kV4 dc4 pm4 ct4 : Value} {cd4 : Value} {f4 : Addr}
    {od5 an5 : Option Addr} {sl5 : Array (Option Value)} {oc5 kV5 dc5 pm5 ct5 : Value} {cd5 : Value} {f5 : Addr}
    {od6 an6 : Option Addr} {sl6 : Array (Option Value)} {oc6 kV6 dc6 pm6 ct6 : Value} {cd6 : Value} {f6 : Addr}
    {od7 an7 : Option Addr} {sl7 : Array (Option Value)} {oc7 kV7 dc7 pm7 ct7 : Value} {cd7 : Value} {f7 : Addr}
    {od8 an8 : Option Addr} {sl8 : Array (Option Value)} {oc8 kV8 dc8 pm8 ct8 : Value} {cd8 : Value} {f8 : Addr}
    {od9 an9 : Option Addr} {sl9 : Array (Option Value)} {oc9 kV9 dc9 pm9 ct9 : Value} {cd9 : Value} {f9 : Addr}
    {od10 an10 : Option Addr} {sl10 : Array (Option Value)} {oc10 kV10 dc10 pm10 ct10 : Value} {cd10 : Value} {f10 : Addr}
    {od11 an11 : Option Addr} {sl11 : Array (Option Value)} {oc11 kV11 dc11 pm11 ct11 : Value} {cd11 : Value} {f11 : Addr}
    {od12 an12 : Option Addr} {sl12 : Array (Option Value)} {oc12 kV12 dc12 pm12 ct12 : Value} {cd12 : Value} {f12 : Addr}
    {od13 an13 : Option Addr} {sl13 : Array (Option Value)} {oc13 kV13 dc13 pm13 ct13 : Value} {cd13 : Value} {f13 : Addr}
    {od14 an14 : Option Addr} {sl14 : Array (Option Value)} {oc14 kV14 dc14 pm14 ct14 : Value} {cd14 : Value} {f14 : Addr}
    {od15 an15 : Option Addr} {sl15 : Array (Option Value)} {oc15 kV15 dc15 pm15 ct15 : Value} {cd15 : Value} {f15 : Addr}
    {od16 an16 : Option Addr} {sl16 : Array (Option Value)} {oc16 kV16 dc16 pm16 ct16 : Value} {cd16 : Value} {f16 : Addr}
    {od17 an17 : Option Addr} {sl17 : Array (Option Value)} {oc17 kV17 dc17 pm17 ct17 : Value} {cd17 : Value} {f17 : Addr}
    {od18 an18 : Option Addr} {sl18 : Array (Option Value)} {oc18 kV18 dc18 pm18 ct18 : Value} {cd18 : Value} {f18 : Addr}
    {od19 an19 : Option Addr} {sl19 : Array (Option Value)} {oc19 kV19 dc19 pm19 ct19 : Value} {cd19 : Value} {f19 : Addr}
    {od20 an20 : Option Addr} {sl20 : Array (Option Value)} {oc20 kV20 dc20 pm20 ct20 : Value} {cd20 : Value} {f20 : Addr}
    {od21 an21 : Option Addr} {sl21 : Array (Option Value)} {oc21 kV21 dc21 pm21 ct21 : Value} {cd21 : Value} {f21 : Addr}
    {od22 an22 : Option Addr} {sl22 : Array (Option Value)} {oc22 kV22 dc22 pm22 ct22 : Value} {cd22 : Value} {f22 : Addr}
    {od23 an23 : Option Addr} {sl23 : Array (Option Value)} {oc23 kV23 dc23 pm23 ct23 : Value} {cd23 : Value} {f23 : Addr}
    {od24 an24 : Option Addr} {sl24 : Array (Option Value)} {oc24 kV24 dc24 pm24 ct24 : Value} {cd24 : Value} {f24 : Addr}
    {od25 an25 : Option Addr} {sl25 : Array (Option Value)} {oc25 kV25 dc25 pm25 ct25 : Value} {cd25 : Value} {f25 : Addr}
    {od26 an26 : Option Addr} {sl26 : Array (Option Value)} {oc26 kV26 dc26 pm26 ct26 : Value} {cd26 : Value} {f26 : Addr}
    {od27 an27 : Option Addr} {sl27 : Array (Option Value)} {oc27 kV27 dc27 pm27 ct27 : Value} {cd27 : Value} {f27 : Addr}
    {od28 an28 : Option Addr} {sl28 : Array (Option Value)} {oc28 kV28 dc28 pm28 ct28 : Value} {cd28 : Value} {f28 : Addr}
    {od29 an29 : Option Addr} {sl29 : Array (Option Value)} {oc29 kV29 dc29 pm29 ct29 : Value} {cd29 : Value} {f29 : Addr}
    {od30 an30 : Option Addr} {sl30 : Array (Option Value)} {oc30 kV30 dc30 pm30 ct30 : Value} {cd30 : Value} {f30 : Addr}
    {od31 an31 : Option Addr} {sl31 : Array (Option Value)} {oc31 kV31 dc31 pm31 ct31 : Value} {cd31 : Value} {f31 : Addr}
    {od32 an32 : Option Addr} {sl32 : Array (Option Value)} {oc32 kV32 dc32 pm32 ct32 : Value} {cd32 : Value} {f32 : Addr}
    {od33 an33 : Option Addr} {sl33 : Array (Option Value)} {oc33 kV33 dc33 pm33 ct33 : Value} {cd33 : Value} {f33 : Addr}
    {od34 an34 : Option Addr} {sl34 : Array (Option Value)} {oc34 kV34 dc34 pm34 ct34 : Value} {cd34 : Value} {f34 : Addr}
    {od35 an35 : Option Addr} {sl35 : Array (Option Value)} {oc35 kV35 dc35 pm35 ct35 : Value} {cd35 : Value} {f35 : Addr}
    {od36 an36 : Option Addr} {sl36 : Array (Option Value)} {oc36 kV36 dc36 pm36 ct36 : Value} {cd36 : Value} {f36 : Addr}
    {od37 an37 : Option Addr} {sl37 : Array (Option Value)} {oc37 kV37 dc37 pm37 ct37 : Value} {cd37 : Value} {f37 : Addr}
    {od38 an38 : Option Addr} {sl38 : Array (Option Value)} {oc38 kV38 dc38 pm38 ct38 : Value} {cd38 : Value} {f38 : Addr}
    {od39 an39 : Option Addr} {sl39 : Array (Option Value)} {oc39 kV39 dc39 pm39 ct39 : Value} {cd39 : Value} {f39 : Addr}
    {od40 an40 : Option Addr} {sl40 : Array (Option Value)} {oc40 kV40 dc40 pm40 ct40 : Value} {cd40 : Value} {f40 : Addr}
    {od41 an41 : Option Addr} {sl41 : Array (Option Value)} {oc41 kV41 dc41 pm41 ct41 : Value} {cd41 : Value} {f41 : Addr}
    {od42 an42 : Option Addr} {sl42 : Array (Option Value)} {oc42 kV42 dc42 pm42 ct42 : Value} {cd42 : Addr} {f42 : Addr}
    {od43 an43 : Option Addr} {sl43 : Array (Option Value)} {oc43 kV43 dc43 pm43 ct43 : Value} {cd43 : Value} {f43 : Addr}
    {od44 an44 : Option Addr} {sl44 : Array (Option Value)} {oc44 kV44 dc44 pm44 ct44 : Value} {cd44 : Value} {f44 : Addr}
    {od45 an45 : Option Addr} {sl45 : Array (Option Value)} {oc45 kV45 dc45 pm45 ct45 : Value} {cd45 : Value} {f45 : Addr}
    {od46 an46 : Option Addr} {sl46 : Array (Option Value)} {oc46 kV46 dc46 pm46 ct46 : Value} {cd46 : Value} {f46 : Addr}
    {od47 an47 : Option Addr} {sl47 : Array (Option Value)} {oc47 kV47 dc47 pm47 ct47 : Value} {cd47 : Value} {f47 : Addr}
    {od48 an48 : Option Addr} {sl48 : Array (Option Value)} {oc48 kV48 dc48 pm48 ct48 : Value} {cd48 : Value} {f48 : Addr}
    {od49 an49 : Option Addr} {sl49 : Array (Option Value)} {oc49 kV49 dc49 pm49 ct49 : Value} {cd49 : Value} {f49 : Addr}
    {od50 an50 : Option Addr} {sl50 : Array (Option Value)} {oc50 kV50 dc50 pm50 ct50 : Value} {cd50 : Value} {f50 : Addr}
    {C_Chip : Addr} (aC_Chip : PySem.W.nsIn K mainGlobals "Chip" = some (some (.ref C_Chip))) (pg_Chip : PySem.W.plainGet K C_Chip Str.empty = true) (hd_Chip : PySem.W.hasDictIn K C_Chip = true) (po_Chip : PySem.W.plainOver K C_Chip = true)
    (sa_Chip : PySem.W.findIn K (.ref C_Chip) "__setattr__" = some (some (.builtin "object.__setattr__"))) (mk_Chip : PySem.W.makesIn K C_Chip = true) (kc_Chip : PySem.W.keepIn K (.ref C_Chip) = true)
    (na_Chip_blocks : PySem.W.findIn K (.ref C_Chip) "_blocks" = some none)
    (na_Chip_luck : PySem.W.findIn K (.ref C_Chip) "_luck" = some none)
    (na_Chip_begun : PySem.W.findIn K (.ref C_Chip) "_begun" = some none)
    (na_Chip_is_gone : PySem.W.findIn K (.ref C_Chip) "_is_gone" = some none)
    {C_PowerCut : Addr} (aC_PowerCut : PySem.W.nsIn K mainGlobals "PowerCut" = some (some (.ref C_PowerCut))) (xi_PowerCut : PySem.W.excIn K C_PowerCut [.type "ValueError", .type "Exception", .type "BaseException", .type "object"] "ValueError.__new__" = true)
    (kc_PowerCut : PySem.W.keepIn K (.ref C_PowerCut) = true) (su_PowerCut : PySem.W.subIn K (.ref C_PowerCut) (.type "BaseException") = some true) (ty_PowerCut : PySem.W.typeIn K (.ref C_PowerCut) = some (.type "type")) (on_PowerCut : PySem.W.exmOne K (.ref C_PowerCut) (.ref C_PowerCut) = some true)
    {C_InvalidNumber : Addr} (aC_InvalidNumber : PySem.W.nsIn K mainGlobals "InvalidNumber" = some (some (.ref C_InvalidNumber))) (xb_InvalidNumber : exB K C_InvalidNumber = true)
    (kc_InvalidNumber : PySem.W.keepIn K (.ref C_InvalidNumber) = true) (su_InvalidNumber : PySem.W.subIn K (.ref C_InvalidNumber) (.type "BaseException") = some true) (ty_InvalidNumber : PySem.W.typeIn K (.ref C_InvalidNumber) = some (.type "type")) (on_InvalidNumber : PySem.W.exmOne K (.ref C_InvalidNumber) (.ref C_InvalidNumber) = some true)
    (sa_InvalidNumber : PySem.W.findIn K (.ref C_InvalidNumber) "__setattr__" = some (some (.builtin "object.__setattr__"))) (ga_InvalidNumber : PySem.W.findIn K (.ref C_InvalidNumber) "__getattribute__" = some (some (.builtin "BaseException.__getattribute__")))
    (gg_InvalidNumber : PySem.W.findIn K (.ref C_InvalidNumber) "__getattr__" = some none) (hd_InvalidNumber : PySem.W.hasDictIn K C_InvalidNumber = true) (nf_InvalidNumber : PySem.W.findIn K (.ref C_InvalidNumber) "given" = some none)
    {C_InvalidPage : Addr} (aC_InvalidPage : PySem.W.nsIn K mainGlobals "InvalidPage" = some (some (.ref C_InvalidPage))) (xb_InvalidPage : exB K C_InvalidPage = true)
    (kc_InvalidPage : PySem.W.keepIn K (.ref C_InvalidPage) = true) (su_InvalidPage : PySem.W.subIn K (.ref C_InvalidPage) (.type "BaseException") = some true) (ty_InvalidPage : PySem.W.typeIn K (.ref C_InvalidPage) = some (.type "type")) (on_InvalidPage : PySem.W.exmOne K (.ref C_InvalidPage) (.ref C_InvalidPage) = some true)
    (sa_InvalidPage : PySem.W.findIn K (.ref C_InvalidPage) "__setattr__" = some (some (.builtin "object.__setattr__"))) (ga_InvalidPage : PySem.W.findIn K (.ref C_InvalidPage) "__getattribute__" = some (some (.builtin "BaseException.__getattribute__")))
    (gg_InvalidPage : PySem.W.findIn K (.ref C_InvalidPage) "__getattr__" = some none) (hd_InvalidPage : PySem.W.hasDictIn K C_InvalidPage = true) (nf_InvalidPage : PySem.W.findIn K (.ref C_InvalidPage) "given" = some none)
    (ap_InvalidNumber_PowerCut : PySem.W.exmOne K (.ref C_InvalidNumber) (.ref C_PowerCut) = some false)
    (ap_InvalidPage_PowerCut : PySem.W.exmOne K (.ref C_InvalidPage) (.ref C_PowerCut) = some false)
    (ap_InvalidPage_InvalidNumber : PySem.W.exmOne K (.ref C_InvalidPage) (.ref C_InvalidNumber) = some false)
    (a0 : PySem.W.nsIn K mainGlobals "_law_draw" = some (some (.ref f0)))    (l0 : K.lookup f0 = some ⟨oc0, od0, .func (PySem.W.fnOf "_law_draw" "_law_draw" (defArgs s_Ldraw) (defBody s_Ldraw) (defScope s_Ldraw) .none kV0 dc0 pm0 an0 cd0 ct0), sl0⟩)
    (c0 : PySem.W.codeIn K cd0 "_law_draw" = true) (k0 : PySem.W.keepIn K (.ref f0) = true)
    (a1 : PySem.W.nsIn K mainGlobals "_law_ones" = some (some (.ref f1)))    (l1 : K.lookup f1 = some ⟨oc1, od1, .func (PySem.W.fnOf "_law_ones" "_law_ones" (defArgs s_Lones) (defBody s_Lones) (defScope s_Lones) .none kV1 dc1 pm1 an1 cd1 ct1), sl1⟩)
    (c1 : PySem.W.codeIn K cd1 "_law_ones" = true) (k1 : PySem.W.keepIn K (.ref f1) = true)
    (a2 : PySem.W.nsIn K mainGlobals "_law_word" = some (some (.ref f2)))    (l2 : K.lookup f2 = some ⟨oc2, od2, .func (PySem.W.fnOf "_law_word" "_law_word" (defArgs s_Lword) (defBody s_Lword) (defScope s_Lword) .none kV2 dc2 pm2 an2 cd2 ct2), sl2⟩)
    (c2 : PySem.W.codeIn K cd2 "_law_word" = true) (k2 : PySem.W.keepIn K (.ref f2) = true)
    (a3 : PySem.W.nsIn K mainGlobals "_law_mask" = some (some (.ref f3)))    (l3 : K.lookup f3 = some ⟨oc3, od3, .func (PySem.W.fnOf "_law_mask" "_law_mask" (defArgs s_Lmask) (defBody s_Lmask) (defScope s_Lmask) .none kV3 dc3 pm3 an3 cd3 ct3), sl3⟩)
    (c3 : PySem.W.codeIn K cd3 "_law_mask" = true) (k3 : PySem.W.keepIn K (.ref f3) = true)
    (a4 : PySem.W.nsIn K mainGlobals "_law_page" = some (some (.ref f4)))    (l4 : K.lookup f4 = some ⟨oc4, od4, .func (PySem.W.fnOf "_law_page" "_law_page" (defArgs s_Lpage) (defBody s_Lpage) (defScope s_Lpage) .none kV4 dc4 pm4 an4 cd4 ct4), sl4⟩)
    (c4 : PySem.W.codeIn K cd4 "_law_page" = true) (k4 : PySem.W.keepIn K (.ref f4) = true)
    (a5 : PySem.W.nsIn K mainGlobals "_law_image" = some (some (.ref f5)))    (l5 : K.lookup f5 = some ⟨oc5, od5, .func (PySem.W.fnOf "_law_image" "_law_image" (defArgs s_Limage) (defBody s_Limage) (defScope s_Limage) .none kV5 dc5 pm5 an5 cd5 ct5), sl5⟩)
    (c5 : PySem.W.codeIn K cd5 "_law_image" = true) (k5 : PySem.W.keepIn K (.ref f5) = true)
    (a6 : PySem.W.nsIn K mainGlobals "_law_outcome" = some (some (.ref f6)))    (l6 : K.lookup f6 = some ⟨oc6, od6, .func (PySem.W.fnOf "_law_outcome" "_law_outcome" (defArgs s_Loutcome) (defBody s_Loutcome) (defScope s_Loutcome) .none kV6 dc6 pm6 an6 cd6 ct6), sl6⟩)
    (c6 : PySem.W.codeIn K cd6 "_law_outcome" = true) (k6 : PySem.W.keepIn K (.ref f6) = true)
    (a7 : PySem.W.nsIn K mainGlobals "_law_luck" = some (some (.ref f7)))    (l7 : K.lookup f7 = some ⟨oc7, od7, .func (PySem.W.fnOf "_law_luck" "_law_luck" (defArgs s_Lluck) (defBody s_Lluck) (defScope s_Lluck) .none kV7 dc7 pm7 an7 cd7 ct7), sl7⟩)
    (c7 : PySem.W.codeIn K cd7 "_law_luck" = true) (k7 : PySem.W.keepIn K (.ref f7) = true)
    (a8 : PySem.W.nsIn K mainGlobals "_law_pick" = some (some (.ref f8)))    (l8 : K.lookup f8 = some ⟨oc8, od8, .func (PySem.W.fnOf "_law_pick" "_law_pick" (defArgs s_Lpick) (defBody s_Lpick) (defScope s_Lpick) .none kV8 dc8 pm8 an8 cd8 ct8), sl8⟩)
    (c8 : PySem.W.codeIn K cd8 "_law_pick" = true) (k8 : PySem.W.keepIn K (.ref f8) = true)
    (a9 : PySem.W.nsIn K mainGlobals "_law_plain" = some (some (.ref f9)))    (l9 : K.lookup f9 = some ⟨oc9, od9, .func (PySem.W.fnOf "_law_plain" "_law_plain" (defArgs s_Lplain) (defBody s_Lplain) (defScope s_Lplain) .none kV9 dc9 pm9 an9 cd9 ct9), sl9⟩)
    (c9 : PySem.W.codeIn K cd9 "_law_plain" = true) (k9 : PySem.W.keepIn K (.ref f9) = true)
    (a10 : PySem.W.nsIn K mainGlobals "_law_deed" = some (some (.ref f10)))    (l10 : K.lookup f10 = some ⟨oc10, od10, .func (PySem.W.fnOf "_law_deed" "_law_deed" (defArgs s_Ldeed) (defBody s_Ldeed) (defScope s_Ldeed) .none kV10 dc10 pm10 an10 cd10 ct10), sl10⟩)
    (c10 : PySem.W.codeIn K cd10 "_law_deed" = true) (k10 : PySem.W.keepIn K (.ref f10) = true)
    (a11 : PySem.W.nsIn K mainGlobals "is_whole" = some (some (.ref f11)))    (l11 : K.lookup f11 = some ⟨oc11, od11, .func (PySem.W.fnOf "is_whole" "is_whole" (defArgs s_is_whole) (defBody s_is_whole) (defScope s_is_whole) .none kV11 dc11 pm11 an11 cd11 ct11), sl11⟩)
    (c11 : PySem.W.codeIn K cd11 "is_whole" = true) (k11 : PySem.W.keepIn K (.ref f11) = true)
    (a12 : PySem.W.nsIn K mainGlobals "is_between" = some (some (.ref f12)))    (l12 : K.lookup f12 = some ⟨oc12, od12, .func (PySem.W.fnOf "is_between" "is_between" (defArgs s_is_between) (defBody s_is_between) (defScope s_is_between) .none kV12 dc12 pm12 an12 cd12 ct12), sl12⟩)
    (c12 : PySem.W.codeIn K cd12 "is_between" = true) (k12 : PySem.W.keepIn K (.ref f12) = true)
    (a13 : PySem.W.nsIn K mainGlobals "is_page" = some (some (.ref f13)))    (l13 : K.lookup f13 = some ⟨oc13, od13, .func (PySem.W.fnOf "is_page" "is_page" (defArgs s_is_page) (defBody s_is_page) (defScope s_is_page) .none kV13 dc13 pm13 an13 cd13 ct13), sl13⟩)
    (c13 : PySem.W.codeIn K cd13 "is_page" = true) (k13 : PySem.W.keepIn K (.ref f13) = true)
    (a14 : PySem.W.findIn K (.ref C_InvalidPage) "__init__" = some (some (.ref f14))) (i14 : PySem.W.isFn K (.ref f14) = true)
    
    (ti14 : PySem.W.typeIn K (.ref f14) = some (.type "function"))
    (l14 : K.lookup f14 = some ⟨oc14, od14, .func (PySem.W.fnOf "__init__" "InvalidPage.__init__" (defArgs s_InvalidPage_init) (defBody s_InvalidPage_init) (defScope s_InvalidPage_init) .none kV14 dc14 pm14 an14 cd14 ct14), sl14⟩)
    (c14 : PySem.W.codeIn K cd14 "InvalidPage.__init__" = true) (k14 : PySem.W.keepIn K (.ref f14) = true)
    (a15 : PySem.W.nsIn K mainGlobals "require_page" = some (some (.ref f15)))    (l15 : K.lookup f15 = some ⟨oc15, od15, .func (PySem.W.fnOf "require_page" "require_page" (defArgs s_require_page) (defBody s_require_page) (defScope s_require_page) .none kV15 dc15 pm15 an15 cd15 ct15), sl15⟩)
    (c15 : PySem.W.codeIn K cd15 "require_page" = true) (k15 : PySem.W.keepIn K (.ref f15) = true)
    (a16 : PySem.W.nsIn K mainGlobals "is_from" = some (some (.ref f16)))    (l16 : K.lookup f16 = some ⟨oc16, od16, .func (PySem.W.fnOf "is_from" "is_from" (defArgs s_is_from) (defBody s_is_from) (defScope s_is_from) .none kV16 dc16 pm16 an16 cd16 ct16), sl16⟩)
    (c16 : PySem.W.codeIn K cd16 "is_from" = true) (k16 : PySem.W.keepIn K (.ref f16) = true)
    (a17 : PySem.W.findIn K (.ref C_InvalidNumber) "__init__" = some (some (.ref f17))) (i17 : PySem.W.isFn K (.ref f17) = true)
    
    (ti17 : PySem.W.typeIn K (.ref f17) = some (.type "function"))
    (l17 : K.lookup f17 = some ⟨oc17, od17, .func (PySem.W.fnOf "__init__" "InvalidNumber.__init__" (defArgs s_InvalidNumber_init) (defBody s_InvalidNumber_init) (defScope s_InvalidNumber_init) .none kV17 dc17 pm17 an17 cd17 ct17), sl17⟩)
    (c17 : PySem.W.codeIn K cd17 "InvalidNumber.__init__" = true) (k17 : PySem.W.keepIn K (.ref f17) = true)
    (a18 : PySem.W.nsIn K mainGlobals "require_from" = some (some (.ref f18)))    (l18 : K.lookup f18 = some ⟨oc18, od18, .func (PySem.W.fnOf "require_from" "require_from" (defArgs s_require_from) (defBody s_require_from) (defScope s_require_from) .none kV18 dc18 pm18 an18 cd18 ct18), sl18⟩)
    (c18 : PySem.W.codeIn K cd18 "require_from" = true) (k18 : PySem.W.keepIn K (.ref f18) = true)
    (a19 : PySem.W.nsIn K mainGlobals "erased" = some (some (.ref f19)))    (l19 : K.lookup f19 = some ⟨oc19, od19, .func (PySem.W.fnOf "erased" "erased" (defArgs s_erased) (defBody s_erased) (defScope s_erased) .none kV19 dc19 pm19 an19 cd19 ct19), sl19⟩)
    (c19 : PySem.W.codeIn K cd19 "erased" = true) (k19 : PySem.W.keepIn K (.ref f19) = true)
    (a20 : PySem.W.nsIn K mainGlobals "require_between" = some (some (.ref f20)))    (l20 : K.lookup f20 = some ⟨oc20, od20, .func (PySem.W.fnOf "require_between" "require_between" (defArgs s_require_between) (defBody s_require_between) (defScope s_require_between) .none kV20 dc20 pm20 an20 cd20 ct20), sl20⟩)
    (c20 : PySem.W.codeIn K cd20 "require_between" = true) (k20 : PySem.W.keepIn K (.ref f20) = true)
    (a21 : PySem.W.findIn K (.ref C_Chip) "_require_block_index" = some (some (.ref f21))) (i21 : PySem.W.isFn K (.ref f21) = true)
    
    (l21 : K.lookup f21 = some ⟨oc21, od21, .func (PySem.W.fnOf "_require_block_index" "Chip._require_block_index" (defArgs s_Chip_require_block_index) (defBody s_Chip_require_block_index) (defScope s_Chip_require_block_index) .none kV21 dc21 pm21 an21 cd21 ct21), sl21⟩)
    (c21 : PySem.W.codeIn K cd21 "Chip._require_block_index" = true) (k21 : PySem.W.keepIn K (.ref f21) = true)
    (a22 : PySem.W.findIn K (.ref C_Chip) "_require_power" = some (some (.ref f22))) (i22 : PySem.W.isFn K (.ref f22) = true)
    
    (l22 : K.lookup f22 = some ⟨oc22, od22, .func (PySem.W.fnOf "_require_power" "Chip._require_power" (defArgs s_Chip_require_power) (defBody s_Chip_require_power) (defScope s_Chip_require_power) .none kV22 dc22 pm22 an22 cd22 ct22), sl22⟩)
    (c22 : PySem.W.codeIn K cd22 "Chip._require_power" = true) (k22 : PySem.W.keepIn K (.ref f22) = true)
    (a23 : PySem.W.findIn K (.ref C_Chip) "_next_outcome" = some (some (.ref f23))) (i23 : PySem.W.isFn K (.ref f23) = true)
    
    (l23 : K.lookup f23 = some ⟨oc23, od23, .func (PySem.W.fnOf "_next_outcome" "Chip._next_outcome" (defArgs s_Chip_next_outcome) (defBody s_Chip_next_outcome) (defScope s_Chip_next_outcome) .none kV23 dc23 pm23 an23 cd23 ct23), sl23⟩)
    (c23 : PySem.W.codeIn K cd23 "Chip._next_outcome" = true) (k23 : PySem.W.keepIn K (.ref f23) = true)
    (a24 : PySem.W.findIn K (.ref C_Chip) "_settle" = some (some (.ref f24))) (i24 : PySem.W.isFn K (.ref f24) = true)
    
    (l24 : K.lookup f24 = some ⟨oc24, od24, .func (PySem.W.fnOf "_settle" "Chip._settle" (defArgs s_Chip_settle) (defBody s_Chip_settle) (defScope s_Chip_settle) .none kV24 dc24 pm24 an24 cd24 ct24), sl24⟩)
    (c24 : PySem.W.codeIn K cd24 "Chip._settle" = true) (k24 : PySem.W.keepIn K (.ref f24) = true)
    (a25 : PySem.W.findIn K (.ref C_Chip) "erase" = some (some (.ref f25))) (i25 : PySem.W.isFn K (.ref f25) = true)
    
    (l25 : K.lookup f25 = some ⟨oc25, od25, .func (PySem.W.fnOf "erase" "Chip.erase" (defArgs s_Chip_erase) (defBody s_Chip_erase) (defScope s_Chip_erase) .none kV25 dc25 pm25 an25 cd25 ct25), sl25⟩)
    (c25 : PySem.W.codeIn K cd25 "Chip.erase" = true) (k25 : PySem.W.keepIn K (.ref f25) = true)
    (a26 : PySem.W.findIn K (.ref C_Chip) "image" = some (some (.ref f26))) (i26 : PySem.W.isFn K (.ref f26) = true)
    
    (l26 : K.lookup f26 = some ⟨oc26, od26, .func (PySem.W.fnOf "image" "Chip.image" (defArgs s_Chip_image) (defBody s_Chip_image) (defScope s_Chip_image) .none kV26 dc26 pm26 an26 cd26 ct26), sl26⟩)
    (c26 : PySem.W.codeIn K cd26 "Chip.image" = true) (k26 : PySem.W.keepIn K (.ref f26) = true)
    (a27 : PySem.W.findIn K (.ref C_Chip) "operations" = some (some (.ref f27))) (i27 : PySem.W.isFn K (.ref f27) = true)
    
    (l27 : K.lookup f27 = some ⟨oc27, od27, .func (PySem.W.fnOf "operations" "Chip.operations" (defArgs s_Chip_operations) (defBody s_Chip_operations) (defScope s_Chip_operations) .none kV27 dc27 pm27 an27 cd27 ct27), sl27⟩)
    (c27 : PySem.W.codeIn K cd27 "Chip.operations" = true) (k27 : PySem.W.keepIn K (.ref f27) = true)
    (a28 : PySem.W.findIn K (.ref C_Chip) "is_cut" = some (some (.ref f28))) (i28 : PySem.W.isFn K (.ref f28) = true)
    
    (l28 : K.lookup f28 = some ⟨oc28, od28, .func (PySem.W.fnOf "is_cut" "Chip.is_cut" (defArgs s_Chip_is_cut) (defBody s_Chip_is_cut) (defScope s_Chip_is_cut) .none kV28 dc28 pm28 an28 cd28 ct28), sl28⟩)
    (c28 : PySem.W.codeIn K cd28 "Chip.is_cut" = true) (k28 : PySem.W.keepIn K (.ref f28) = true)
    (a29 : PySem.W.findIn K (.ref C_Chip) "size" = some (some (.ref f29))) (i29 : PySem.W.isFn K (.ref f29) = true)
    
    (l29 : K.lookup f29 = some ⟨oc29, od29, .func (PySem.W.fnOf "size" "Chip.size" (defArgs s_Chip_size) (defBody s_Chip_size) (defScope s_Chip_size) .none kV29 dc29 pm29 an29 cd29 ct29), sl29⟩)
    (c29 : PySem.W.codeIn K cd29 "Chip.size" = true) (k29 : PySem.W.keepIn K (.ref f29) = true)
    (a30 : PySem.W.findIn K (.ref C_Chip) "_require_page_index" = some (some (.ref f30))) (i30 : PySem.W.isFn K (.ref f30) = true)
    
    (l30 : K.lookup f30 = some ⟨oc30, od30, .func (PySem.W.fnOf "_require_page_index" "Chip._require_page_index" (defArgs s_Chip_require_page_index) (defBody s_Chip_require_page_index) (defScope s_Chip_require_page_index) .none kV30 dc30 pm30 an30 cd30 ct30), sl30⟩)
    (c30 : PySem.W.codeIn K cd30 "Chip._require_page_index" = true) (k30 : PySem.W.keepIn K (.ref f30) = true)
    (a31 : PySem.W.findIn K (.ref C_Chip) "read" = some (some (.ref f31))) (i31 : PySem.W.isFn K (.ref f31) = true)
    
    (l31 : K.lookup f31 = some ⟨oc31, od31, .func (PySem.W.fnOf "read" "Chip.read" (defArgs s_Chip_read) (defBody s_Chip_read) (defScope s_Chip_read) .none kV31 dc31 pm31 an31 cd31 ct31), sl31⟩)
    (c31 : PySem.W.codeIn K cd31 "Chip.read" = true) (k31 : PySem.W.keepIn K (.ref f31) = true)
    (a32 : PySem.W.nsIn K mainGlobals "programmed" = some (some (.ref f32)))    (l32 : K.lookup f32 = some ⟨oc32, od32, .func (PySem.W.fnOf "programmed" "programmed" (defArgs s_programmed) (defBody s_programmed) (defScope s_programmed) .none kV32 dc32 pm32 an32 cd32 ct32), sl32⟩)
    (c32 : PySem.W.codeIn K cd32 "programmed" = true) (k32 : PySem.W.keepIn K (.ref f32) = true)
    (a33 : PySem.W.findIn K (.ref C_Chip) "program" = some (some (.ref f33))) (i33 : PySem.W.isFn K (.ref f33) = true)
    
    (l33 : K.lookup f33 = some ⟨oc33, od33, .func (PySem.W.fnOf "program" "Chip.program" (defArgs s_Chip_program) (defBody s_Chip_program) (defScope s_Chip_program) .none kV33 dc33 pm33 an33 cd33 ct33), sl33⟩)
    (c33 : PySem.W.codeIn K cd33 "Chip.program" = true) (k33 : PySem.W.keepIn K (.ref f33) = true)
    (a34 : PySem.W.nsIn K mainGlobals "_law_told" = some (some (.ref f34)))    (l34 : K.lookup f34 = some ⟨oc34, od34, .func (PySem.W.fnOf "_law_told" "_law_told" (defArgs s_Ltold) (defBody s_Ltold) (defScope s_Ltold) .none kV34 dc34 pm34 an34 cd34 ct34), sl34⟩)
    (c34 : PySem.W.codeIn K cd34 "_law_told" = true) (k34 : PySem.W.keepIn K (.ref f34) = true)
    (a35 : PySem.W.nsIn K mainGlobals "_law_refused" = some (some (.ref f35)))    (l35 : K.lookup f35 = some ⟨oc35, od35, .func (PySem.W.fnOf "_law_refused" "_law_refused" (defArgs s_Lrefused) (defBody s_Lrefused) (defScope s_Lrefused) .none kV35 dc35 pm35 an35 cd35 ct35), sl35⟩)
    (c35 : PySem.W.codeIn K cd35 "_law_refused" = true) (k35 : PySem.W.keepIn K (.ref f35) = true)
    (a36 : PySem.W.nsIn K mainGlobals "_law_next" = some (some (.ref f36)))    (l36 : K.lookup f36 = some ⟨oc36, od36, .func (PySem.W.fnOf "_law_next" "_law_next" (defArgs s_Lnext) (defBody s_Lnext) (defScope s_Lnext) .none kV36 dc36 pm36 an36 cd36 ct36), sl36⟩)
    (c36 : PySem.W.codeIn K cd36 "_law_next" = true) (k36 : PySem.W.keepIn K (.ref f36) = true)
    (a37 : PySem.W.nsIn K mainGlobals "_law_seen" = some (some (.ref f37)))    (l37 : K.lookup f37 = some ⟨oc37, od37, .func (PySem.W.fnOf "_law_seen" "_law_seen" (defArgs s_Lseen) (defBody s_Lseen) (defScope s_Lseen) .none kV37 dc37 pm37 an37 cd37 ct37), sl37⟩)
    (c37 : PySem.W.codeIn K cd37 "_law_seen" = true) (k37 : PySem.W.keepIn K (.ref f37) = true)
    (a38 : PySem.W.nsIn K mainGlobals "_law_due" = some (some (.ref f38)))    (l38 : K.lookup f38 = some ⟨oc38, od38, .func (PySem.W.fnOf "_law_due" "_law_due" (defArgs s_Ldue) (defBody s_Ldue) (defScope s_Ldue) .none kV38 dc38 pm38 an38 cd38 ct38), sl38⟩)
    (c38 : PySem.W.codeIn K cd38 "_law_due" = true) (k38 : PySem.W.keepIn K (.ref f38) = true)
    (a39 : PySem.W.nsIn K mainGlobals "first_wrong" = some (some (.ref f39)))    (l39 : K.lookup f39 = some ⟨oc39, od39, .func (PySem.W.fnOf "first_wrong" "first_wrong" (defArgs s_first_wrong) (defBody s_first_wrong) (defScope s_first_wrong) .none kV39 dc39 pm39 an39 cd39 ct39), sl39⟩)
    (c39 : PySem.W.codeIn K cd39 "first_wrong" = true) (k39 : PySem.W.keepIn K (.ref f39) = true)
    (a40 : PySem.W.nsIn K mainGlobals "is_row" = some (some (.ref f40)))    (l40 : K.lookup f40 = some ⟨oc40, od40, .func (PySem.W.fnOf "is_row" "is_row" (defArgs s_is_row) (defBody s_is_row) (defScope s_is_row) .none kV40 dc40 pm40 an40 cd40 ct40), sl40⟩)
    (c40 : PySem.W.codeIn K cd40 "is_row" = true) (k40 : PySem.W.keepIn K (.ref f40) = true)
    (a41 : PySem.W.nsIn K mainGlobals "is_block" = some (some (.ref f41)))    (l41 : K.lookup f41 = some ⟨oc41, od41, .func (PySem.W.fnOf "is_block" "is_block" (defArgs s_is_block) (defBody s_is_block) (defScope s_is_block) .none kV41 dc41 pm41 an41 cd41 ct41), sl41⟩)
    (c41 : PySem.W.codeIn K cd41 "is_block" = true) (k41 : PySem.W.keepIn K (.ref f41) = true)
    (a42 : PySem.W.nsIn K mainGlobals "wrong_block_in" = some (some (.ref f42)))    (l42 : K.lookup f42 = some ⟨oc42, od42, .func (PySem.W.fnOf "wrong_block_in" "wrong_block_in" (defArgs s_wrong_block_in) (defBody s_wrong_block_in) (defScope s_wrong_block_in) .none kV42 dc42 pm42 an42 (.ref cd42) ct42), sl42⟩)
    (c42 : PySem.W.codeIn K (.ref cd42) "wrong_block_in" = true) (k42 : PySem.W.keepIn K (.ref f42) = true)
    (a43 : PySem.W.nsIn K mainGlobals "require_image" = some (some (.ref f43)))    (l43 : K.lookup f43 = some ⟨oc43, od43, .func (PySem.W.fnOf "require_image" "require_image" (defArgs s_require_image) (defBody s_require_image) (defScope s_require_image) .none kV43 dc43 pm43 an43 cd43 ct43), sl43⟩)
    (c43 : PySem.W.codeIn K cd43 "require_image" = true) (k43 : PySem.W.keepIn K (.ref f43) = true)
    (a44 : PySem.W.nsIn K mainGlobals "is_outcome" = some (some (.ref f44)))    (l44 : K.lookup f44 = some ⟨oc44, od44, .func (PySem.W.fnOf "is_outcome" "is_outcome" (defArgs s_is_outcome) (defBody s_is_outcome) (defScope s_is_outcome) .none kV44 dc44 pm44 an44 cd44 ct44), sl44⟩)
    (c44 : PySem.W.codeIn K cd44 "is_outcome" = true) (k44 : PySem.W.keepIn K (.ref f44) = true)
    (a45 : PySem.W.nsIn K mainGlobals "require_luck" = some (some (.ref f45)))    (l45 : K.lookup f45 = some ⟨oc45, od45, .func (PySem.W.fnOf "require_luck" "require_luck" (defArgs s_require_luck) (defBody s_require_luck) (defScope s_require_luck) .none kV45 dc45 pm45 an45 cd45 ct45), sl45⟩)
    (c45 : PySem.W.codeIn K cd45 "require_luck" = true) (k45 : PySem.W.keepIn K (.ref f45) = true)
    (a46 : PySem.W.findIn K (.ref C_Chip) "__init__" = some (some (.ref f46))) (i46 : PySem.W.isFn K (.ref f46) = true)
    
    (l46 : K.lookup f46 = some ⟨oc46, od46, .func (PySem.W.fnOf "__init__" "Chip.__init__" (defArgs s_Chip_init) (defBody s_Chip_init) (defScope s_Chip_init) .none kV46 dc46 pm46 an46 cd46 ct46), sl46⟩)
    (c46 : PySem.W.codeIn K cd46 "Chip.__init__" = true) (k46 : PySem.W.keepIn K (.ref f46) = true)
    (a47 : PySem.W.nsIn K mainGlobals "_law_round" = some (some (.ref f47)))    (l47 : K.lookup f47 = some ⟨oc47, od47, .func (PySem.W.fnOf "_law_round" "_law_round" (defArgs s_Lround) (defBody s_Lround) (defScope s_Lround) .none kV47 dc47 pm47 an47 cd47 ct47), sl47⟩)
    (c47 : PySem.W.codeIn K cd47 "_law_round" = true) (k47 : PySem.W.keepIn K (.ref f47) = true)
    (a48 : PySem.W.nsIn K mainGlobals "_law_right" = some (some (.ref f48)))    (l48 : K.lookup f48 = some ⟨oc48, od48, .func (PySem.W.fnOf "_law_right" "_law_right" (defArgs s_Lright) (defBody s_Lright) (defScope s_Lright) .none kV48 dc48 pm48 an48 cd48 ct48), sl48⟩)
    (c48 : PySem.W.codeIn K cd48 "_law_right" = true) (k48 : PySem.W.keepIn K (.ref f48) = true)
    (a49 : PySem.W.nsIn K mainGlobals "_law_well" = some (some (.ref f49)))    (l49 : K.lookup f49 = some ⟨oc49, od49, .func (PySem.W.fnOf "_law_well" "_law_well" (defArgs s_Lwell) (defBody s_Lwell) (defScope s_Lwell) .none kV49 dc49 pm49 an49 cd49 ct49), sl49⟩)
    (c49 : PySem.W.codeIn K cd49 "_law_well" = true) (k49 : PySem.W.keepIn K (.ref f49) = true)
    (a50 : PySem.W.nsIn K mainGlobals "law" = some (some (.ref f50)))    (l50 : K.lookup f50 = some ⟨oc50, od50, .func (PySem.W.fnOf "law" "law" (defArgs s_law) (defBody s_law) (defScope s_law) .none kV50 dc50 pm50 an50 cd50 ct50), sl50⟩)
    (c50 : PySem.W.codeIn K cd50 "law" = true) (k50 : PySem.W.keepIn K (.ref f50) = true)
    (z_abs : PySem.W.nsIn K mainGlobals "abs" = some none)
    (z_all : PySem.W.nsIn K mainGlobals "all" = some none)
    (z_bool : PySem.W.nsIn K mainGlobals "bool" = some none)
    (z_divmod : PySem.W.nsIn K mainGlobals "divmod" = some none)
    (z_enumerate : PySem.W.nsIn K mainGlobals "enumerate" = some none)
    (z_int : PySem.W.nsIn K mainGlobals "int" = some none)
    (z_isinstance : PySem.W.nsIn K mainGlobals "isinstance" = some none)
    (z_len : PySem.W.nsIn K mainGlobals "len" = some none)
    (z_list : PySem.W.nsIn K mainGlobals "list" = some none)
    (z_range : PySem.W.nsIn K mainGlobals "range" = some none)
    (z_repr : PySem.W.nsIn K mainGlobals "repr" = some none)
    (z_str : PySem.W.nsIn K mainGlobals "str" = some none)
    (z_tuple : PySem.W.nsIn K mainGlobals "tuple" = some none)
    {t_BLANK : Tok} (y_BLANK : PySem.W.nsIn K mainGlobals "BLANK" = some (some (.int BLv t_BLANK)))
    {t_LEAST : Tok} (y_LEAST : PySem.W.nsIn K mainGlobals "LEAST" = some (some (.int 5 t_LEAST)))
    {t_MOST : Tok} (y_MOST : PySem.W.nsIn K mainGlobals "MOST" = some (some (.int 12 t_MOST)))
    {t_WIDTH : Tok} (y_WIDTH : PySem.W.nsIn K mainGlobals "WIDTH" = some (some (.int 522 t_WIDTH)))
    (ht42 : h.get? (tabOf K cd42) = some (PySem.W.tabObj #[])) (hn42 : K.lookup (tabOf K cd42) = none) (hc42 : cdOk K cd42 = true)
    : ∃ (fd : FuncData) (cs : Cds), (∀ p ∈ cs, h.get? p.2.1 = some (PySem.W.tabObj #[])) ∧ (∀ p ∈ cs, K.lookup p.2.1 = none) ∧ (∀ p ∈ cs, PySem.W.CodeHd h p.1 p.2.1) ∧ (∀ (s : Shared) (v : Value), BindsTo s fd ⟨[v], []⟩ [("_law_script", v)]) ∧ ∀ base : Heap, K.In base → base.Ns mainGlobals mg → (∀ p ∈ cs, LamX.TabB base mg p.1 p.2.1) → FnG l.prog w K mg base 14 fa fd ["_law_script"] (sp_law K cs) := by
  have e := hfa.symm.trans (PySem.W.mg_of X G a50)
  cases e
  have F0 := fun_mk (st := s_Ldraw) l0 c0 k0
  have F1 := fun_mk (st := s_Lones) l1 c1 k1
  have F2 := fun_mk (st := s_Lword) l2 c2 k2
  have F3 := fun_mk (st := s_Lmask) l3 c3 k3
  have F4 := fun_mk (st := s_Lpage) l4 c4 k4
  have F5 := fun_mk (st := s_Limage) l5 c5 k5
  have F6 := fun_mk (st := s_Loutcome) l6 c6 k6
  have F7 := fun_mk (st := s_Lluck) l7 c7 k7
  have F8 := fun_mk (st := s_Lpick) l8 c8 k8
  have F9 := fun_mk (st := s_Lplain) l9 c9 k9
  have F10 := fun_mk (st := s_Ldeed) l10 c10 k10
  have F11 := fun_mk (st := s_is_whole) l11 c11 k11
  have F12 := fun_mk (st := s_is_between) l12 c12 k12
  have F13 := fun_mk (st := s_is_page) l13 c13 k13
  have F14 := fun_mk (st := s_InvalidPage_init) l14 c14 k14
  have F15 := fun_mk (st := s_require_page) l15 c15 k15
  have F16 := fun_mk (st := s_is_from) l16 c16 k16
  have F17 := fun_mk (st := s_InvalidNumber_init) l17 c17 k17
  have F18 := fun_mk (st := s_require_from) l18 c18 k18
  have F19 := fun_mk (st := s_erased) l19 c19 k19
  have F20 := fun_mk (st := s_require_between) l20 c20 k20
  have F21 := fun_mk (st := s_Chip_require_block_index) l21 c21 k21
  have F22 := fun_mk (st := s_Chip_require_power) l22 c22 k22
  have F23 := fun_mk (st := s_Chip_next_outcome) l23 c23 k23
  have F24 := fun_mk (st := s_Chip_settle) l24 c24 k24
  have F25 := fun_mk (st := s_Chip_erase) l25 c25 k25
  have F26 := fun_mk (st := s_Chip_image) l26 c26 k26
  have F27 := fun_mk (st := s_Chip_operations) l27 c27 k27
  have F28 := fun_mk (st := s_Chip_is_cut) l28 c28 k28
  have F29 := fun_mk (st := s_Chip_size) l29 c29 k29
  have F30 := fun_mk (st := s_Chip_require_page_index) l30 c30 k30
  have F31 := fun_mk (st := s_Chip_read) l31 c31 k31
  have F32 := fun_mk (st := s_programmed) l32 c32 k32
  have F33 := fun_mk (st := s_Chip_program) l33 c33 k33
  have F34 := fun_mk (st := s_Ltold) l34 c34 k34
  have F35 := fun_mk (st := s_Lrefused) l35 c35 k35
  have F36 := fun_mk (st := s_Lnext) l36 c36 k36
  have F37 := fun_mk (st := s_Lseen) l37 c37 k37
  have F38 := fun_mk (st := s_Ldue) l38 c38 k38
  have F39 := fun_mk (st := s_first_wrong) l39 c39 k39
  have F40 := fun_mk (st := s_is_row) l40 c40 k40
  have F41 := fun_mk (st := s_is_block) l41 c41 k41
  have F42 := fun_mk (st := s_wrong_block_in) l42 c42 k42
  have F43 := fun_mk (st := s_require_image) l43 c43 k43
  have F44 := fun_mk (st := s_is_outcome) l44 c44 k44
  have F45 := fun_mk (st := s_require_luck) l45 c45 k45
  have F46 := fun_mk (st := s_Chip_init) l46 c46 k46
  have F47 := fun_mk (st := s_Lround) l47 c47 k47
  have F48 := fun_mk (st := s_Lright) l48 c48 k48
  have F49 := fun_mk (st := s_Lwell) l49 c49 k49
  have F50 := fun_mk (st := s_law) l50 c50 k50
  refine ⟨PySem.W.fnOf "law" "law" (defArgs s_law) (defBody s_law) (defScope s_law) .none kV50 dc50 pm50 an50 cd50 ct50, [(cd42, tabOf K cd42, q_wrong_block_in)], ?_, ?_, ?_, fun s v => .of_eq rfl, fun base _ _ hTB => ?_⟩
  · intro p hp
    simp only [List.mem_cons, List.not_mem_nil, or_false] at hp
    subst hp
    exact ht42
  · intro p hp
    simp only [List.mem_cons, List.not_mem_nil, or_false] at hp
    subst hp
    exact hn42
  · intro p hp
    simp only [List.mem_cons, List.not_mem_nil, or_false] at hp
    subst hp
    exact codeHd_of X hc42
  let T : Txt K mg base := {
    C_wrong_block_in := cd42, P_wrong_block_in := tabOf K cd42, TB_wrong_block_in := hTB (cd42, tabOf K cd42, q_wrong_block_in) (by simp), FC_wrong_block_in := func_mk (st := s_wrong_block_in) l42 c42,
    f_Ldraw := _, fd_Ldraw := _, F_Ldraw := F0, g_Ldraw := PySem.W.mg_of X G a0, bi_Ldraw := F0.binds (ps := ["_law_well_here", "_law_many"]) fun _ _ _ _ _ _ us hl => match us, hl with | [_, _], _ => rfl,
    f_Lones := _, fd_Lones := _, F_Lones := F1, g_Lones := PySem.W.mg_of X G a1, bi_Lones := F1.binds (ps := ["_law_number"]) fun _ _ _ _ _ _ us hl => match us, hl with | [_], _ => rfl,
    f_Lword := _, fd_Lword := _, F_Lword := F2, g_Lword := PySem.W.mg_of X G a2, bi_Lword := F2.binds (ps := ["_law_numbers"]) fun _ _ _ _ _ _ us hl => match us, hl with | [_], _ => rfl,
    f_Lmask := _, fd_Lmask := _, F_Lmask := F3, g_Lmask := PySem.W.mg_of X G a3, bi_Lmask := F3.binds (ps := ["_law_well_here", "_law_wide"]) fun _ _ _ _ _ _ us hl => match us, hl with | [_, _], _ => rfl,
    f_Lpage := _, fd_Lpage := _, F_Lpage := F4, g_Lpage := PySem.W.mg_of X G a4, bi_Lpage := F4.binds (ps := ["_law_well_here"]) fun _ _ _ _ _ _ us hl => match us, hl with | [_], _ => rfl,
    f_Limage := _, fd_Limage := _, F_Limage := F5, g_Limage := PySem.W.mg_of X G a5, bi_Limage := F5.binds (ps := ["_law_well_here"]) fun _ _ _ _ _ _ us hl => match us, hl with | [_], _ => rfl,
    f_Loutcome := _, fd_Loutcome := _, F_Loutcome := F6, g_Loutcome := PySem.W.mg_of X G a6, bi_Loutcome := F6.binds (ps := ["_law_well_here", "_law_wide"]) fun _ _ _ _ _ _ us hl => match us, hl with | [_, _], _ => rfl,
    f_Lluck := _, fd_Lluck := _, F_Lluck := F7, g_Lluck := PySem.W.mg_of X G a7, bi_Lluck := F7.binds (ps := ["_law_well_here", "_law_tall", "_law_often"]) fun _ _ _ _ _ _ us hl => match us, hl with | [_, _, _], _ => rfl,
    f_Lpick := _, fd_Lpick := _, F_Lpick := F8, g_Lpick := PySem.W.mg_of X G a8, bi_Lpick := F8.binds (ps := ["_law_well_here", "_law_some"]) fun _ _ _ _ _ _ us hl => match us, hl with | [_, _], _ => rfl,
    f_Lplain := _, fd_Lplain := _, F_Lplain := F9, g_Lplain := PySem.W.mg_of X G a9, bi_Lplain := F9.binds (ps := ["_law_image_here", "_law_chance"]) fun _ _ _ _ _ _ us hl => match us, hl with | [_, _], _ => rfl,
    f_Ldeed := _, fd_Ldeed := _, F_Ldeed := F10, g_Ldeed := PySem.W.mg_of X G a10, bi_Ldeed := F10.binds (ps := ["_law_well_here", "_law_many", "_law_tall"]) fun _ _ _ _ _ _ us hl => match us, hl with | [_, _, _], _ => rfl,
    f_is_whole := _, fd_is_whole := _, F_is_whole := F11, g_is_whole := PySem.W.mg_of X G a11, bi_is_whole := F11.binds (ps := ["value"]) fun _ _ _ _ _ _ us hl => match us, hl with | [_], _ => rfl,
    f_is_between := _, fd_is_between := _, F_is_between := F12, g_is_between := PySem.W.mg_of X G a12, bi_is_between := F12.binds (ps := ["value", "least", "most"]) fun _ _ _ _ _ _ us hl => match us, hl with | [_, _, _], _ => rfl,
    f_is_page := _, fd_is_page := _, F_is_page := F13, g_is_page := PySem.W.mg_of X G a13, bi_is_page := F13.binds (ps := ["value"]) fun _ _ _ _ _ _ us hl => match us, hl with | [_], _ => rfl,
    f_InvalidPage_init := _, fd_InvalidPage_init := _, F_InvalidPage_init := F14, er_InvalidPage := ⟨⟨exB_cls xb_InvalidPage, sa_InvalidPage, su_InvalidPage, ty_InvalidPage, kc_InvalidPage⟩, a14, ti14, nf_InvalidPage, ⟨ga_InvalidPage, gg_InvalidPage, su_InvalidPage, hd_InvalidPage⟩, on_InvalidPage⟩, bi_InvalidPage_init := F14.binds (ps := ["self", "given"]) fun _ _ _ _ _ _ us hl => match us, hl with | [_, _], _ => rfl,
    f_require_page := _, fd_require_page := _, F_require_page := F15, g_require_page := PySem.W.mg_of X G a15, bi_require_page := F15.binds (ps := ["value"]) fun _ _ _ _ _ _ us hl => match us, hl with | [_], _ => rfl,
    f_is_from := _, fd_is_from := _, F_is_from := F16, g_is_from := PySem.W.mg_of X G a16, bi_is_from := F16.binds (ps := ["value", "least"]) fun _ _ _ _ _ _ us hl => match us, hl with | [_, _], _ => rfl,
    f_InvalidNumber_init := _, fd_InvalidNumber_init := _, F_InvalidNumber_init := F17, er_InvalidNumber := ⟨⟨exB_cls xb_InvalidNumber, sa_InvalidNumber, su_InvalidNumber, ty_InvalidNumber, kc_InvalidNumber⟩, a17, ti17, nf_InvalidNumber, ⟨ga_InvalidNumber, gg_InvalidNumber, su_InvalidNumber, hd_InvalidNumber⟩, on_InvalidNumber⟩, bi_InvalidNumber_init := F17.binds (ps := ["self", "given"]) fun _ _ _ _ _ _ us hl => match us, hl with | [_, _], _ => rfl,
    f_require_from := _, fd_require_from := _, F_require_from := F18, g_require_from := PySem.W.mg_of X G a18, bi_require_from := F18.binds (ps := ["value", "least"]) fun _ _ _ _ _ _ us hl => match us, hl with | [_, _], _ => rfl,
    f_erased := _, fd_erased := _, F_erased := F19, g_erased := PySem.W.mg_of X G a19, bi_erased := F19.binds (ps := ["old", "mask"]) fun _ _ _ _ _ _ us hl => match us, hl with | [_, _], _ => rfl,
    f_require_between := _, fd_require_between := _, F_require_between := F20, g_require_between := PySem.W.mg_of X G a20, bi_require_between := F20.binds (ps := ["value", "least", "most"]) fun _ _ _ _ _ _ us hl => match us, hl with | [_, _, _], _ => rfl,
    f_Chip_require_block_index := _, fd_Chip_require_block_index := _, F_Chip_require_block_index := F21, m_Chip_require_block_index := ⟨a21, i21, k21⟩, bi_Chip_require_block_index := F21.binds (ps := ["self", "block"]) fun _ _ _ _ _ _ us hl => match us, hl with | [_, _], _ => rfl,
    f_Chip_require_power := _, fd_Chip_require_power := _, F_Chip_require_power := F22, m_Chip_require_power := ⟨a22, i22, k22⟩, bi_Chip_require_power := F22.binds (ps := ["self"]) fun _ _ _ _ _ _ us hl => match us, hl with | [_], _ => rfl,
    f_Chip_next_outcome := _, fd_Chip_next_outcome := _, F_Chip_next_outcome := F23, m_Chip_next_outcome := ⟨a23, i23, k23⟩, bi_Chip_next_outcome := F23.binds (ps := ["self", "done_mask"]) fun _ _ _ _ _ _ us hl => match us, hl with | [_, _], _ => rfl,
    f_Chip_settle := _, fd_Chip_settle := _, F_Chip_settle := F24, m_Chip_settle := ⟨a24, i24, k24⟩, bi_Chip_settle := F24.binds (ps := ["self", "block", "kind", "erasures", "pages"]) fun _ _ _ _ _ _ us hl => match us, hl with | [_, _, _, _, _], _ => rfl,
    f_Chip_erase := _, fd_Chip_erase := _, F_Chip_erase := F25, m_Chip_erase := ⟨a25, i25, k25⟩, bi_Chip_erase := F25.binds (ps := ["self", "block"]) fun _ _ _ _ _ _ us hl => match us, hl with | [_, _], _ => rfl,
    f_Chip_image := _, fd_Chip_image := _, F_Chip_image := F26, m_Chip_image := ⟨a26, i26, k26⟩, bi_Chip_image := F26.binds (ps := ["self"]) fun _ _ _ _ _ _ us hl => match us, hl with | [_], _ => rfl,
    f_Chip_operations := _, fd_Chip_operations := _, F_Chip_operations := F27, m_Chip_operations := ⟨a27, i27, k27⟩, bi_Chip_operations := F27.binds (ps := ["self"]) fun _ _ _ _ _ _ us hl => match us, hl with | [_], _ => rfl,
    f_Chip_is_cut := _, fd_Chip_is_cut := _, F_Chip_is_cut := F28, m_Chip_is_cut := ⟨a28, i28, k28⟩, bi_Chip_is_cut := F28.binds (ps := ["self"]) fun _ _ _ _ _ _ us hl => match us, hl with | [_], _ => rfl,
    f_Chip_size := _, fd_Chip_size := _, F_Chip_size := F29, m_Chip_size := ⟨a29, i29, k29⟩, bi_Chip_size := F29.binds (ps := ["self"]) fun _ _ _ _ _ _ us hl => match us, hl with | [_], _ => rfl,
    f_Chip_require_page_index := _, fd_Chip_require_page_index := _, F_Chip_require_page_index := F30, m_Chip_require_page_index := ⟨a30, i30, k30⟩, bi_Chip_require_page_index := F30.binds (ps := ["self", "block", "page"]) fun _ _ _ _ _ _ us hl => match us, hl with | [_, _, _], _ => rfl,
    f_Chip_read := _, fd_Chip_read := _, F_Chip_read := F31, m_Chip_read := ⟨a31, i31, k31⟩, bi_Chip_read := F31.binds (ps := ["self", "block", "page"]) fun _ _ _ _ _ _ us hl => match us, hl with | [_, _, _], _ => rfl,
    f_programmed := _, fd_programmed := _, F_programmed := F32, g_programmed := PySem.W.mg_of X G a32, bi_programmed := F32.binds (ps := ["old", "word", "mask"]) fun _ _ _ _ _ _ us hl => match us, hl with | [_, _, _], _ => rfl,
    f_Chip_program := _, fd_Chip_program := _, F_Chip_program := F33, m_Chip_program := ⟨a33, i33, k33⟩, bi_Chip_program := F33.binds (ps := ["self", "block", "page", "word"]) fun _ _ _ _ _ _ us hl => match us, hl with | [_, _, _, _], _ => rfl,
    f_Ltold := _, fd_Ltold := _, F_Ltold := F34, g_Ltold := PySem.W.mg_of X G a34, bi_Ltold := F34.binds (ps := ["_law_chip", "_law_deed_here"]) fun _ _ _ _ _ _ us hl => match us, hl with | [_, _], _ => rfl,
    f_Lrefused := _, fd_Lrefused := _, F_Lrefused := F35, g_Lrefused := PySem.W.mg_of X G a35, bi_Lrefused := F35.binds (ps := ["_law_chip", "_law_deed_here"]) fun _ _ _ _ _ _ us hl => match us, hl with | [_, _], _ => rfl,
    f_Lnext := _, fd_Lnext := _, F_Lnext := F36, g_Lnext := PySem.W.mg_of X G a36, bi_Lnext := F36.binds (ps := ["_law_plain_here"]) fun _ _ _ _ _ _ us hl => match us, hl with | [_], _ => rfl,
    f_Lseen := _, fd_Lseen := _, F_Lseen := F37, g_Lseen := PySem.W.mg_of X G a37, bi_Lseen := F37.binds (ps := ["_law_plain_here"]) fun _ _ _ _ _ _ us hl => match us, hl with | [_], _ => rfl,
    f_Ldue := _, fd_Ldue := _, F_Ldue := F38, g_Ldue := PySem.W.mg_of X G a38, bi_Ldue := F38.binds (ps := ["_law_plain_here", "_law_deed_here"]) fun _ _ _ _ _ _ us hl => match us, hl with | [_, _], _ => rfl,
    f_first_wrong := _, fd_first_wrong := _, F_first_wrong := F39, g_first_wrong := PySem.W.mg_of X G a39, bi_first_wrong := F39.binds (ps := ["values", "is_right"]) fun _ _ _ _ _ _ us hl => match us, hl with | [_, _], _ => rfl,
    f_is_row := _, fd_is_row := _, F_is_row := F40, g_is_row := PySem.W.mg_of X G a40, bi_is_row := F40.binds (ps := ["value"]) fun _ _ _ _ _ _ us hl => match us, hl with | [_], _ => rfl,
    f_is_block := _, fd_is_block := _, F_is_block := F41, g_is_block := PySem.W.mg_of X G a41, bi_is_block := F41.binds (ps := ["value"]) fun _ _ _ _ _ _ us hl => match us, hl with | [_], _ => rfl,
    f_wrong_block_in := _, fd_wrong_block_in := _, F_wrong_block_in := F42, g_wrong_block_in := PySem.W.mg_of X G a42, bi_wrong_block_in := F42.binds (ps := ["image"]) fun _ _ _ _ _ _ us hl => match us, hl with | [_], _ => rfl,
    f_require_image := _, fd_require_image := _, F_require_image := F43, g_require_image := PySem.W.mg_of X G a43, bi_require_image := F43.binds (ps := ["image"]) fun _ _ _ _ _ _ us hl => match us, hl with | [_], _ => rfl,
    f_is_outcome := _, fd_is_outcome := _, F_is_outcome := F44, g_is_outcome := PySem.W.mg_of X G a44, bi_is_outcome := F44.binds (ps := ["value"]) fun _ _ _ _ _ _ us hl => match us, hl with | [_], _ => rfl,
    f_require_luck := _, fd_require_luck := _, F_require_luck := F45, g_require_luck := PySem.W.mg_of X G a45, bi_require_luck := F45.binds (ps := ["luck"]) fun _ _ _ _ _ _ us hl => match us, hl with | [_], _ => rfl,
    f_Chip_init := _, fd_Chip_init := _, F_Chip_init := F46, mk_Chip := ⟨mk_Chip, a46, i46, kc_Chip⟩, bi_Chip_init := F46.binds (ps := ["self", "image", "luck"]) fun _ _ _ _ _ _ us hl => match us, hl with | [_, _, _], _ => rfl,
    f_Lround := _, fd_Lround := _, F_Lround := F47, g_Lround := PySem.W.mg_of X G a47, bi_Lround := F47.binds (ps := ["_law_well_here", "_law_first"]) fun _ _ _ _ _ _ us hl => match us, hl with | [_, _], _ => rfl,
    f_Lright := _, fd_Lright := _, F_Lright := F48, g_Lright := PySem.W.mg_of X G a48, bi_Lright := F48.binds (ps := ["_law_well_here"]) fun _ _ _ _ _ _ us hl => match us, hl with | [_], _ => rfl,
    f_Lwell := _, fd_Lwell := _, F_Lwell := F49, g_Lwell := PySem.W.mg_of X G a49, bi_Lwell := F49.binds (ps := ["_law_script", "_law_turn"]) fun _ _ _ _ _ _ us hl => match us, hl with | [_, _], _ => rfl,
    f_law := _, fd_law := _, F_law := F50, g_law := PySem.W.mg_of X G a50, bi_law := F50.binds (ps := ["_law_script"]) fun _ _ _ _ _ _ us hl => match us, hl with | [_], _ => rfl,
    C_Chip := _, gC_Chip := PySem.W.mg_of X G aC_Chip, cl_Chip := ⟨pg_Chip, hd_Chip, po_Chip, sa_Chip⟩,
    na_Chip_blocks := na_Chip_blocks,
    na_Chip_luck := na_Chip_luck,
    na_Chip_begun := na_Chip_begun,
    na_Chip_is_gone := na_Chip_is_gone,
    C_InvalidNumber := _, gC_InvalidNumber := PySem.W.mg_of X G aC_InvalidNumber,
    C_InvalidPage := _, gC_InvalidPage := PySem.W.mg_of X G aC_InvalidPage,
    ap_InvalidNumber_PowerCut := ap_InvalidNumber_PowerCut,
    ap_InvalidPage_PowerCut := ap_InvalidPage_PowerCut,
    ap_InvalidPage_InvalidNumber := ap_InvalidPage_InvalidNumber,
    C_PowerCut := _, gC_PowerCut := PySem.W.mg_of X G aC_PowerCut, ex_PowerCut := ⟨⟨_, PySem.F.excBase_ValueError, xi_PowerCut⟩, kc_PowerCut, su_PowerCut, ty_PowerCut, on_PowerCut⟩,
    b_abs := PySem.W.mg_none_of X G z_abs,
    b_all := PySem.W.mg_none_of X G z_all,
    b_bool := PySem.W.mg_none_of X G z_bool,
    b_divmod := PySem.W.mg_none_of X G z_divmod,
    b_enumerate := PySem.W.mg_none_of X G z_enumerate,
    b_int := PySem.W.mg_none_of X G z_int,
    b_isinstance := PySem.W.mg_none_of X G z_isinstance,
    b_len := PySem.W.mg_none_of X G z_len,
    b_list := PySem.W.mg_none_of X G z_list,
    b_range := PySem.W.mg_none_of X G z_range,
    b_repr := PySem.W.mg_none_of X G z_repr,
    b_str := PySem.W.mg_none_of X G z_str,
    b_tuple := PySem.W.mg_none_of X G z_tuple,
    t_BLANK := _, c_BLANK := PySem.W.mg_of X G y_BLANK,
    t_LEAST := _, c_LEAST := PySem.W.mg_of X G y_LEAST,
    t_MOST := _, c_MOST := PySem.W.mg_of X G y_MOST,
    t_WIDTH := _, c_WIDTH := PySem.W.mg_of X G y_WIDTH }
  exact law_at T rfl rfl
end K10
open PySem PySem.W PyProof.Rows
set_option maxHeartbeats 0 in
theorem PySem.Challenge.cw_flashtrees_k10_whole_power_gone_and_bad_holds : PySem.Challenge.rw_flashtrees_k10_whole_power_gone_and_bad.Holds := by
  w_on; o_law; k_head; (case hw => w_witness2)
  k_fill
  refine Vc.walkGT (l := PySem.Challenge.rw_flashtrees_k10_whole_power_gone_and_bad) (n := 63) (k := 14) (x := "_law_script") (sp := K10.sp_law) rfl (by decide) rfl ⟨rfl, by decide, by decide⟩ (fun w h Y => PySem.W.km_in_of Y) ?F K10.law_start
  case F =>
    intro w mg fa h Y KX G hmg
    refine' K10.all_mk KX G hmg ?aC_Chip ?pg_Chip ?hd_Chip ?po_Chip ?sa_Chip ?mk_Chip ?kc_Chip ?na_Chip_blocks ?na_Chip_luck ?na_Chip_begun ?na_Chip_is_gone ?aC_PowerCut ?xi_PowerCut ?kc_PowerCut ?su_PowerCut ?ty_PowerCut ?on_PowerCut ?aC_InvalidNumber ?xb_InvalidNumber ?kc_InvalidNumber ?su_InvalidNumber ?ty_InvalidNumber ?on_InvalidNumber ?sa_InvalidNumber ?ga_InvalidNumber ?gg_InvalidNumber ?hd_InvalidNumber ?nf_InvalidNumber ?aC_InvalidPage ?xb_InvalidPage ?kc_InvalidPage ?su_InvalidPage ?ty_InvalidPage ?on_InvalidPage ?sa_InvalidPage ?ga_InvalidPage ?gg_InvalidPage ?hd_InvalidPage ?nf_InvalidPage ?ap_InvalidNumber_PowerCut ?ap_InvalidPage_PowerCut ?ap_InvalidPage_InvalidNumber ?a0 ?l0 ?c0 ?k0 ?a1 ?l1 ?c1 ?k1 ?a2 ?l2 ?c2 ?k2 ?a3 ?l3 ?c3 ?k3 ?a4 ?l4 ?c4 ?k4 ?a5 ?l5 ?c5 ?k5 ?a6 ?l6 ?c6 ?k6 ?a7 ?l7 ?c7 ?k7 ?a8 ?l8 ?c8 ?k8 ?a9 ?l9 ?c9 ?k9 ?a10 ?l10 ?c10 ?k10 ?a11 ?l11 ?c11 ?k11 ?a12 ?l12 ?c12 ?k12 ?a13 ?l13 ?c13 ?k13 ?i14 ?ti14 ?a14 ?l14 ?c14 ?k14 ?a15 ?l15 ?c15 ?k15 ?a16 ?l16 ?c16 ?k16 ?i17 ?ti17 ?a17 ?l17 ?c17 ?k17 ?a18 ?l18 ?c18 ?k18 ?a19 ?l19 ?c19 ?k19 ?a20 ?l20 ?c20 ?k20 ?i21 ?a21 ?l21 ?c21 ?k21 ?i22 ?a22 ?l22 ?c22 ?k22 ?i23 ?a23 ?l23 ?c23 ?k23 ?i24 ?a24 ?l24 ?c24 ?k24 ?i25 ?a25 ?l25 ?c25 ?k25 ?i26 ?a26 ?l26 ?c26 ?k26 ?i27 ?a27 ?l27 ?c27 ?k27 ?i28 ?a28 ?l28 ?c28 ?k28 ?i29 ?a29 ?l29 ?c29 ?k29 ?i30 ?a30 ?l30 ?c30 ?k30 ?i31 ?a31 ?l31 ?c31 ?k31 ?a32 ?l32 ?c32 ?k32 ?i33 ?a33 ?l33 ?c33 ?k33 ?a34 ?l34 ?c34 ?k34 ?a35 ?l35 ?c35 ?k35 ?a36 ?l36 ?c36 ?k36 ?a37 ?l37 ?c37 ?k37 ?a38 ?l38 ?c38 ?k38 ?a39 ?l39 ?c39 ?k39 ?a40 ?l40 ?c40 ?k40 ?a41 ?l41 ?c41 ?k41 ?a42 ?l42 ?c42 ?k42 ?a43 ?l43 ?c43 ?k43 ?a44 ?l44 ?c44 ?k44 ?a45 ?l45 ?c45 ?k45 ?i46 ?a46 ?l46 ?c46 ?k46 ?a47 ?l47 ?c47 ?k47 ?a48 ?l48 ?c48 ?k48 ?a49 ?l49 ?c49 ?k49 ?a50 ?l50 ?c50 ?k50 ?z_abs ?z_all ?z_bool ?z_divmod ?z_enumerate ?z_int ?z_isinstance ?z_len ?z_list ?z_range ?z_repr ?z_str ?z_tuple ?y_BLANK ?y_LEAST ?y_MOST ?y_WIDTH ?ht42 ?hn42 ?hc42
    (case aC_Chip => k_is); (case pg_Chip => k_is); (case hd_Chip => k_is); (case po_Chip => k_is); (case sa_Chip => k_is); (case mk_Chip => k_is); (case kc_Chip => k_is); (case na_Chip_blocks => k_is); (case na_Chip_luck => k_is); (case na_Chip_begun => k_is); (case na_Chip_is_gone => k_is); (case aC_PowerCut => k_is); (case xi_PowerCut => k_exc); (case kc_PowerCut => k_is); (case su_PowerCut => k_is); (case ty_PowerCut => k_is); (case on_PowerCut => kts_exm); (case aC_InvalidNumber => k_is); (case xb_InvalidNumber => kernel_rfl); (case kc_InvalidNumber => k_is); (case su_InvalidNumber => k_is); (case ty_InvalidNumber => k_is); (case on_InvalidNumber => kts_exm); (case sa_InvalidNumber => k_is); (case ga_InvalidNumber => k_is); (case gg_InvalidNumber => k_is); (case hd_InvalidNumber => k_is); (case nf_InvalidNumber => k_is); (case aC_InvalidPage => k_is); (case xb_InvalidPage => kernel_rfl); (case kc_InvalidPage => k_is); (case su_InvalidPage => k_is); (case ty_InvalidPage => k_is); (case on_InvalidPage => kts_exm); (case sa_InvalidPage => k_is); (case ga_InvalidPage => k_is); (case gg_InvalidPage => k_is); (case hd_InvalidPage => k_is); (case nf_InvalidPage => k_is); (case ap_InvalidNumber_PowerCut => kts_exm); (case ap_InvalidPage_PowerCut => kts_exm); (case ap_InvalidPage_InvalidNumber => kts_exm); (case a0 => k_is); (case l0 => k_is); (case c0 => k_is); (case k0 => k_is); (case a1 => k_is); (case l1 => k_is); (case c1 => k_is); (case k1 => k_is); (case a2 => k_is); (case l2 => k_is); (case c2 => k_is); (case k2 => k_is); (case a3 => k_is); (case l3 => k_is); (case c3 => k_is); (case k3 => k_is); (case a4 => k_is); (case l4 => k_is); (case c4 => k_is); (case k4 => k_is); (case a5 => k_is); (case l5 => k_is); (case c5 => k_is); (case k5 => k_is); (case a6 => k_is); (case l6 => k_is); (case c6 => k_is); (case k6 => k_is); (case a7 => k_is); (case l7 => k_is); (case c7 => k_is); (case k7 => k_is); (case a8 => k_is); (case l8 => k_is); (case c8 => k_is); (case k8 => k_is); (case a9 => k_is); (case l9 => k_is); (case c9 => k_is); (case k9 => k_is); (case a10 => k_is); (case l10 => k_is); (case c10 => k_is); (case k10 => k_is); (case a11 => k_is); (case l11 => k_is); (case c11 => k_is); (case k11 => k_is); (case a12 => k_is); (case l12 => k_is); (case c12 => k_is); (case k12 => k_is); (case a13 => k_is); (case l13 => k_is); (case c13 => k_is); (case k13 => k_is); (case i14 => k_is); (case ti14 => k_is); (case a14 => k_is); (case l14 => k_is); (case c14 => k_is); (case k14 => k_is); (case a15 => k_is); (case l15 => k_is); (case c15 => k_is); (case k15 => k_is); (case a16 => k_is); (case l16 => k_is); (case c16 => k_is); (case k16 => k_is); (case i17 => k_is); (case ti17 => k_is); (case a17 => k_is); (case l17 => k_is); (case c17 => k_is); (case k17 => k_is); (case a18 => k_is); (case l18 => k_is); (case c18 => k_is); (case k18 => k_is); (case a19 => k_is); (case l19 => k_is); (case c19 => k_is); (case k19 => k_is); (case a20 => k_is); (case l20 => k_is); (case c20 => k_is); (case k20 => k_is); (case i21 => k_is); (case a21 => k_is); (case l21 => k_is); (case c21 => k_is); (case k21 => k_is); (case i22 => k_is); (case a22 => k_is); (case l22 => k_is); (case c22 => k_is); (case k22 => k_is); (case i23 => k_is); (case a23 => k_is); (case l23 => k_is); (case c23 => k_is); (case k23 => k_is); (case i24 => k_is); (case a24 => k_is); (case l24 => k_is); (case c24 => k_is); (case k24 => k_is); (case i25 => k_is); (case a25 => k_is); (case l25 => k_is); (case c25 => k_is); (case k25 => k_is); (case i26 => k_is); (case a26 => k_is); (case l26 => k_is); (case c26 => k_is); (case k26 => k_is); (case i27 => k_is); (case a27 => k_is); (case l27 => k_is); (case c27 => k_is); (case k27 => k_is); (case i28 => k_is); (case a28 => k_is); (case l28 => k_is); (case c28 => k_is); (case k28 => k_is); (case i29 => k_is); (case a29 => k_is); (case l29 => k_is); (case c29 => k_is); (case k29 => k_is); (case i30 => k_is); (case a30 => k_is); (case l30 => k_is); (case c30 => k_is); (case k30 => k_is); (case i31 => k_is); (case a31 => k_is); (case l31 => k_is); (case c31 => k_is); (case k31 => k_is); (case a32 => k_is); (case l32 => k_is); (case c32 => k_is); (case k32 => k_is); (case i33 => k_is); (case a33 => k_is); (case l33 => k_is); (case c33 => k_is); (case k33 => k_is); (case a34 => k_is); (case l34 => k_is); (case c34 => k_is); (case k34 => k_is); (case a35 => k_is); (case l35 => k_is); (case c35 => k_is); (case k35 => k_is); (case a36 => k_is); (case l36 => k_is); (case c36 => k_is); (case k36 => k_is); (case a37 => k_is); (case l37 => k_is); (case c37 => k_is); (case k37 => k_is); (case a38 => k_is); (case l38 => k_is); (case c38 => k_is); (case k38 => k_is); (case a39 => k_is); (case l39 => k_is); (case c39 => k_is); (case k39 => k_is); (case a40 => k_is); (case l40 => k_is); (case c40 => k_is); (case k40 => k_is); (case a41 => k_is); (case l41 => k_is); (case c41 => k_is); (case k41 => k_is); (case a42 => k_is); (case l42 => k_is); (case c42 => k_is); (case k42 => k_is); (case a43 => k_is); (case l43 => k_is); (case c43 => k_is); (case k43 => k_is); (case a44 => k_is); (case l44 => k_is); (case c44 => k_is); (case k44 => k_is); (case a45 => k_is); (case l45 => k_is); (case c45 => k_is); (case k45 => k_is); (case i46 => k_is); (case a46 => k_is); (case l46 => k_is); (case c46 => k_is); (case k46 => k_is); (case a47 => k_is); (case l47 => k_is); (case c47 => k_is); (case k47 => k_is); (case a48 => k_is); (case l48 => k_is); (case c48 => k_is); (case k48 => k_is); (case a49 => k_is); (case l49 => k_is); (case c49 => k_is); (case k49 => k_is); (case a50 => k_is); (case l50 => k_is); (case c50 => k_is); (case k50 => k_is); (case z_abs => k_is); (case z_all => k_is); (case z_bool => k_is); (case z_divmod => k_is); (case z_enumerate => k_is); (case z_int => k_is); (case z_isinstance => k_is); (case z_len => k_is); (case z_list => k_is); (case z_range => k_is); (case z_repr => k_is); (case z_str => k_is); (case z_tuple => k_is); (case y_BLANK => k_is); (case y_LEAST => k_is); (case y_MOST => k_is); (case y_WIDTH => k_is)
    (case ht42 => first | exact (PySem.W.km_tabs_of Y _ (Vc.mem_of (by kernel_rfl))) | (refine Vc.none_of ?_; kernel_rfl) | kernel_rfl); (case hn42 => first | exact (PySem.W.km_tabs_of Y _ (Vc.mem_of (by kernel_rfl))) | (refine Vc.none_of ?_; kernel_rfl) | kernel_rfl); (case hc42 => first | exact (PySem.W.km_tabs_of Y _ (Vc.mem_of (by kernel_rfl))) | (refine Vc.none_of ?_; kernel_rfl) | kernel_rfl)
