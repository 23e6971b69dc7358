import PyProof.Rows.All
import Wide.All
import OpenK.AllK
import Wide.FinOn
import HandS.ForMost
import HandS.IsInst
import HandS.Wide
import HandS.WideBits
import HandS.Style
import PyProof.ReprRoads
import PyProof.ReprLen
import PyProof.StrLawsRepr
import PyProof.FString3
import PyProof.Rows.StrIntSpec
import PyProof.Rows.StrCountLaw
import HandS.FStr
import HandS.Iter
import PyProof.CollectIter
import PyProof.Draws
import PyProof.EnumMake
import HandS.Star
import HandS.IterVal
import HandS.TupAny
import HandS.TupMul
import HandS.Dict
import HandS.Lambda
import HandS.EndTab
import HandS.TupSets
import PyProof.Rows.SetFrom
import HandS.ForExc
import HandS.RaiseMore
import HandS.MakeKwOnly
import HandS.ExcInit
import HandS.ExcField
import HandS.TryMany
import HandS.CallSlots
import HandS.JoinGen
import PyProof.SliceStr2
import PyProof.Rows.IntBool
import HandS.AnyAll
import PyProof.NeKinds
import PyProof.StrLawsIn
import KE.KStrOpen
import HandS.Head0
import HandS.Head1
import HandS.Head2
import HandS.HeadHook1
import HandS.HeadHook2
import PySem.Challenge.RW_flashtrees_k14_whole_keys_values_and_nam
set_option Elab.async false
set_option linter.all false
set_option maxRecDepth 100000
set_option maxHeartbeats 4000000
set_option exponentiation.threshold 4000
namespace Vc
open PySem PySem.Spec PyProof.Rows L2
/-! ### calls where the guards are told (repr of a list asks them) -/
structure FnG (P : Program) (w : World) (K : PySem.W.Frag) (mg : Str → Option Value) (base : Heap) (k : Nat) (f : Addr) (fd : FuncData) (ps : List Str) (sp : Sp) : Prop where
  len : ∀ vs H Q E, sp vs H Q E → vs.length = ps.length
  run : ∀ (A : Around) (outer : List Env) (s : Shared) (H : Hp) (args : Args) (us : List Value) (vs : List V) (Q : VK), A.guards = some [] → Room k A → Env0 P w K mg base A outer s H →
    BindsTo s fd args (ps.zip us) → Vals vs us → sp vs H Q E0 → codeAny (model P w) A (.call (.ref f) args) (CR CX0 outer P w H s Q E0) s
section
variable {X : Cx} {k : Nat} {f : Addr} {fd : FuncData} {ps ks : List Str} {sp : Sp} {dvs : List V} {ds : List Value} {x : Str} {p pos : Pos} {e : Expr} {es : List Expr} {t tk : TA} {kws : List Keyword}
  {g : List Value → List Value → List Value} {gV : List V → List V → List V}
theorem end_of {pins : List (Addr × Obj)} {σ : L2.St} {H : Hp} {s s' : Shared} {Q : VK} {r : Result} (I : Inv X pins σ H s) (h : CR CX0 X.stack X.prog X.w H s Q E0 r s') :
    match r with | .ok (.ret u) => EP X pins σ Q u s' | _ => False := by
  cases r with
  | error _ => exact (show False from h)
  | ok fl => cases fl with
    | ret _ => exact I.after h
    | next => exact (show False from h)
    | brk => exact (show False from h)
    | cont => exact (show False from h)
theorem runG {pins : List (Addr × Obj)} {σ : L2.St} {H : Hp} {s : Shared} {Q : VK} {us : List Value} {vs : List V} (F : FnG X.prog X.w X.K X.mg X.base k f fd ps sp) (hgd : X.A.guards = some []) (hr : Room k X.A) (hb : Binds X.K fd ps ds) (hd : Vals dvs ds)
    (I : Inv X pins σ H s) (r : Vals vs us) (h : sp (vs ++ dvs) H Q E0) : wpAny (model X.prog X.w) X.A (call (.ref f) us) (EP X pins σ Q) X.xe s := by
  have rr := r.append hd
  have hl : (us ++ ds).length = ps.length := rr.length.symm.trans (F.len _ _ _ _ h)
  refine wpAny_call (codeAny_mono (F.run _ _ _ _ _ _ _ _ hgd hr I.env0 (hb s us I.kIn hl) rr h) fun r s' hq => ?_)
  have z := end_of I hq
  cases r with
  | error _ => exact z.elim
  | ok fl => cases fl with
    | ret _ => exact z
    | next => exact z.elim
    | brk => exact z.elim
    | cont => exact z.elim
theorem pe_callG (F : FnG X.prog X.w X.K X.mg X.base k f fd ps sp) (hgd : X.A.guards = some []) (hr : Room k X.A) (hg : Gl X x) (hm : X.mg x = some (.ref f)) (hk : PySem.W.keepIn X.K (.ref f) = true) (hb : Binds X.K fd ps ds) (hd : Vals dvs ds)
    (ha : PA X (e :: es) t) (hdb : (x == ("__debug__" : Str)) = false := by decide) (he : starEach (e :: es) X.env = (false, eval e X.env) :: starEach es X.env := by rfl)
    (hpl : (backTo pos (starEach es X.env)).any (·.1) = false := by rfl) : PE X (.Call (.Name x p) (e :: es) [] pos) (tCall sp dvs E0 t) :=
  ⟨fun pins s σ H Q I h => wpAny_Call_Name_kw (ld_glob I hg hm (PySem.W.callWith_K (h₀ := X.base) I.ok.mod.kin hk (thn (ha.run pos pins s σ H _ I h)
    fun us s1 hh => by obtain ⟨vs, H1, I1, r, q⟩ := hh; exact ⟨I1.kIn, runG F hgd hr hb hd I1 r q⟩) he hpl) hdb)⟩
theorem pe_callG0 (F : FnG X.prog X.w X.K X.mg X.base k f fd ps sp) (hgd : X.A.guards = some []) (hr : Room k X.A) (hg : Gl X x) (hm : X.mg x = some (.ref f)) (hk : PySem.W.keepIn X.K (.ref f) = true) (hb : Binds X.K fd ps ds) (hd : Vals dvs ds)
    (hdb : (x == ("__debug__" : Str)) = false := by decide) : PE X (.Call (.Name x p) [] [] pos) (tCall sp dvs E0 tNil) :=
  ⟨fun pins s σ H Q I h => wpAny_Call_Name_kw (ld_glob I hg hm (PySem.W.callWith_K0 I.kIn hk (runG (us := []) F hgd hr hb hd I .nil h)) hdb)⟩
theorem runGk {pins : List (Addr × Obj)} {σ : L2.St} {H : Hp} {s : Shared} {Q : VK} {us ws : List Value} {vs zs : List V} (F : FnG X.prog X.w X.K X.mg X.base k f fd ps sp) (hgd : X.A.guards = some []) (hr : Room k X.A) (hb : KBinds X.K fd ps ks g gV)
    (I : Inv X pins σ H s) (r : Vals vs us) (rz : Vals zs ws) (h : sp (gV vs zs) H Q E0) : wpAny (model X.prog X.w) X.A (call (.ref f) us (ks.zip ws)) (EP X pins σ Q) X.xe s := by
  have rr := hb.rel r rz
  have hl : (g us ws).length = ps.length := rr.length.symm.trans (F.len _ _ _ _ h)
  refine wpAny_call (codeAny_mono (F.run _ _ _ _ _ _ _ _ hgd hr I.env0 (hb.to s us ws I.kIn hl) rr h) fun r s' hq => ?_)
  have z := end_of I hq
  cases r with
  | error _ => exact z.elim
  | ok fl => cases fl with
    | ret _ => exact z
    | next => exact z.elim
    | brk => exact z.elim
    | cont => exact z.elim
theorem pe_callGK (F : FnG X.prog X.w X.K X.mg X.base k f fd ps sp) (hgd : X.A.guards = some []) (hr : Room k X.A) (hg : Gl X x) (hm : X.mg x = some (.ref f)) (hk : PySem.W.keepIn X.K (.ref f) = true) (hb : KBinds X.K fd ps ks g gV)
    (ha : PA X (e :: es) t) (hkw : PK X kws tk) (hall : (backToKw pos (keywordEach kws X.env)).all (·.1.isSome) = true := by rfl) (hks : (backToKw pos (keywordEach kws X.env)).filterMap (·.1) = ks := by rfl)
    (hdb : (x == ("__debug__" : Str)) = false := by decide) (he : starEach (e :: es) X.env = (false, eval e X.env) :: starEach es X.env := by rfl)
    (hpl : ((backTo pos (starEach (e :: es) X.env)).any (·.1) || (backToKw pos (keywordEach kws X.env)).any (·.1.isNone)) = false := by rfl) : PE X (.Call (.Name x p) (e :: es) kws pos) (tCallK sp gV E0 t tk) :=
  ⟨fun pins s σ H Q I h => wpAny_Call_Name_kw (ld_glob I hg hm (PySem.W.callWith_KW (h₀ := X.base) I.ok.mod.kin hk hall (thn (ha.run pos pins s σ H _ I h)
    fun us s1 hh => by
      obtain ⟨vs, H1, I1, r, q⟩ := hh
      refine thn (hkw.run pos pins s1 σ H1 _ I1 q) fun ws s2 hz => ?_
      obtain ⟨zs, H2, I2, rz, q2⟩ := hz
      refine ⟨I2.kIn, ?_⟩
      rw [hks]
      exact runGk F hgd hr hb I2 r rz q2) hpl he) hdb)⟩
theorem pe_callGK0 (F : FnG X.prog X.w X.K X.mg X.base k f fd ps sp) (hgd : X.A.guards = some []) (hr : Room k X.A) (hg : Gl X x) (hm : X.mg x = some (.ref f)) (hk : PySem.W.keepIn X.K (.ref f) = true) (hb : KBinds X.K fd ps ks g gV)
    (hkw : PK X kws tk) (hall : (backToKw pos (keywordEach kws X.env)).all (·.1.isSome) = true := by rfl) (hks : (backToKw pos (keywordEach kws X.env)).filterMap (·.1) = ks := by rfl)
    (hdb : (x == ("__debug__" : Str)) = false := by decide)
    (hpl : ((backTo pos (starEach [] X.env)).any (·.1) || (backToKw pos (keywordEach kws X.env)).any (·.1.isNone)) = false := by rfl) : PE X (.Call (.Name x p) [] kws pos) (tCallK sp gV E0 tNil tk) :=
  ⟨fun pins s σ H Q I h => wpAny_Call_Name_kw (ld_glob I hg hm (PySem.W.callWith_KW0 (h₀ := X.base) I.ok.mod.kin hk hall (thn (hkw.run pos pins s σ H _ I h) fun ws s2 hz => by
      obtain ⟨zs, H2, I2, rz, q2⟩ := hz
      refine ⟨I2.kIn, ?_⟩
      rw [hks]
      exact runGk (us := []) F hgd hr hb I2 .nil rz q2) hpl) hdb)⟩
end
/-! ### a def's body, with the guards -/
section
variable {P : Program} {w : World} {K : PySem.W.Frag} {mg : Str → Option Value} {base : Heap}
theorem FnG.mono {j k : Nat} {f : Addr} {fd : FuncData} {ps : List Str} {sp : Sp} (F : FnG P w K mg base j f fd ps sp) (h : j ≤ k) : FnG P w K mg base k f fd ps sp :=
  ⟨F.len, fun A outer s H args us vs Q hgd hr => F.run A outer s H args us vs Q hgd (hr.mono h)⟩
theorem okG {x qual : Str} {st : Stmt} {f : Addr} {fd : FuncData} {N ps : List Str} {k : Nat} {sp : Sp} (F : Fun K x qual st f fd) (S : FnScope N ps (defScope st)) (len : ∀ vs H Q E, sp vs H Q E → vs.length = ps.length)
    (hbody : ∀ (cdv : Value) (A : Around) (outer : List Env) (s : Shared) (H : Hp) (vs : List V) (Q : VK), (A.deeper (envOfC qual (defScope st) s.heap.objs.size f cdv)).guards = some [] → Room k (A.deeper (envOfC qual (defScope st) s.heap.objs.size f cdv)) → sp vs H Q E0 →
      ∃ t, PSs (cxOf CX0 P w K mg base N qual (defScope st) f cdv A outer s H E0).nox (defBody st) t ∧ t { nx := fun _ H' => Q .non H', rt := Q } (start N vs) H) : FnG P w K mg base (k + 1) f fd ps sp := by
  obtain ⟨oc, od, kV, doc, pm, an, cdv, ct, osl, rfl, lk, hcd⟩ := F.ex
  refine ⟨len, fun A outer s H args us vs Q hgd hr e0 hb r hsp => ?_⟩
  have lim := e0.mod.nolimit.keeps fun b o e => (e0.bs b o e).1
  have kin : K.In s.heap := e0.mod.kin.keeps fun b o e => (e0.bs b o e).1
  refine codeAny_call_function hr.depth (kin _ _ lk) rfl S.co S.gen rfl (PySem.W.codeRec_of kin hcd) (hb _ _ _ _ ?_)
  refine wpAny_newFunctionEnv_cells S.kind (fun y hy => ?_) fun env he s1 xx => ?_
  · rcases S.par y.1 (List.of_mem_zip hy).1 with z | z
    · exact Or.inl z
    · exact Or.inr ⟨z, PySem.W.cellsFrom_some _ _ _ (Or.inl z)⟩
  · subst he
    refine ⟨lim.keeps xx.toInCall.keep, codeAny_func ?_⟩
    obtain ⟨t, ht0, hq⟩ := hbody cdv A outer s H vs Q hgd (hr.deeper _) hsp
    have ht := ht0.nox
    have I := inv_start (CX := CX0) (E := E0) (w := w) (P := P) S hr.hd e0 (len _ _ _ _ hsp) r xx
    refine wpAny_mono (ht.run [] s1 (start N vs) H _ I hq) (fun fl s' hs => ?_) fun e s' hs => hs
    cases fl with
    | ret u => obtain ⟨v, σ', H', J, rv, q⟩ := hs; exact ⟨v, H', J.os, J.bare, J.base, J.hok, rv, q⟩
    | next => obtain ⟨σ', H', J, q⟩ := hs; exact ⟨V.non, H', J.os, J.bare, J.base, J.hok, rfl, q⟩
    | brk => obtain ⟨_, _, _, q⟩ := hs; exact q.elim
    | cont => obtain ⟨_, _, _, q⟩ := hs; exact q.elim
end
/-! ### the end of a law -/
section
variable {P : Program} {w : World} {K : PySem.W.Frag} {mg mb : Str → Option Value} {k : Nat} {fa a : Addr} {fd : FuncData} {x : Str} {sp : Sp} {s : Shared} {vs : List Value} {ns : List Int}
theorem fromTop (H : Hp) (hA : ∀ b o, H b = some o → b = a) (hK : ∀ o, H a = some o → K.lookup a = none) (hO : ∀ b o, H b = some o → ∃ ob xs, o = .frz ob (.lst xs)) (hS : SqL K H a (ns.map V.int)) (hok : HOk P w H s.heap)
    (kin : K.In s.heap) (hns : s.heap.Ns mainGlobals mg) (hb : s.heap.Ns builtinsNs mb) (hbb : ∀ y : Str, y ≠ "__name__" → mb y = bootBuiltins y) (lim : s.heap.NoLimit) (hg : s.gens = #[])
    (ha : s.heap.get? a = some { cls := .type "list", data := .seq vs.toArray }) (hi : IntsAre vs ns) (hr : Room k callerA)
    (F : ∀ base : Heap, K.In base → base.Ns mainGlobals mg → FnG P w K mg base k fa fd [x] sp) (hbind : ∀ (s : Shared) (u : Value), BindsTo s fd ⟨[u], []⟩ [(x, u)]) (hsp : sp [.ref a] H (fun v _ => v = .bl true) E0) :
    codeAny (model P w) callerA (.call (.ref fa) ⟨[.ref a], []⟩) (fun r s' => r = .ok (.ret (.bool true)) ∧ OldK s.heap s'.heap ∧ s'.os = s.os ∧ AllBare s'.gens) s := by
  have free : ∀ {b : Addr} {o : Obj}, s.heap.get? b = some o → (b = a → H a = none) → H b = none := fun {b o} e q => by
    cases z : H b with
    | none => rfl
    | some u =>
      have eb := hA b u z
      subst eb
      rw [q rfl] at z
      cases z
  have dict : ∀ {b : Addr} {m : Str → Option Value}, s.heap.Ns b m → (hidT s.heap H).Ns b m := fun {b m} z => by
    obtain ⟨o, es, ep, e, d, r⟩ := z
    refine ⟨o, es, ep, hidT_get e (free e fun eb => ?_), d, r⟩
    subst eb
    rw [ha] at e
    cases e
    cases (show Data.seq vs.toArray _ = Data.dict es ep from d)
  have kin' : K.In (hidT s.heap H) := fun b o e => hidT_get (kin b o e) (free (kin b o e) fun eb => by
    subst eb
    cases z : H b with
    | none => rfl
    | some u =>
      rw [hK u z] at e
      cases e)
  obtain ⟨mc, c1, c2⟩ := lim
  have md : Mod K mg (hidT s.heap H) := ⟨kin', dict hns, ⟨mb, dict hb, hbb⟩, mc, dict c1, c2⟩
  have nil : ∀ b : Addr, b ∉ ([] : List Addr) := fun _ z => nomatch z
  have e0 : Env0 P w K mg (hidT s.heap H) callerA [] s H := ⟨rfl, md, fun _ _ e => of_hidT e, Nat.le_of_eq (hidT_size _ _), trivial, fun b z => (nil b z).elim, hok, .of_eq hg⟩
  have main := (F _ kin' (dict hns)).run callerA [] s H ⟨[.ref a], []⟩ [.ref a] [.ref a] (fun v _ => v = .bl true) rfl hr e0 (hbind s _) (.cons rfl .nil) hsp
  refine codeAny_mono main fun r s' h => ?_
  cases r with
  | error _ => exact (show False from h).elim
  | ok fl => cases fl with
    | next => exact (show False from h).elim
    | brk => exact (show False from h).elim
    | cont => exact (show False from h).elim
    | ret u =>
      obtain ⟨v, H', os, bare, un, hok', rv, q⟩ := (show CE [] P w H s (fun v _ => v = .bl true) u s' from h)
      subst q
      have eu : u = Value.bool true := rv
      subst eu
      refine ⟨rfl, OldK.of_keep fun b o e => ?_, os, bare⟩
      cases q : H b with
      | none => exact un.keep b o e q (nil b) (nil b)
      | some t =>
        obtain ⟨ob, xs, z⟩ := hO b t q
        subst z
        have e1 := (hok b _ q).1
        rw [e] at e1
        cases e1
        exact (hok' b _ (un.frzs b _ _ q)).1
theorem walkG {l : PySem.W.OpenLaw} {n : Nat} {q : Program} {loose : List Str} {XP : (Str → Option Value) → Heap → Prop} {YP : World → Heap → Prop} {d : DefRec} {KK : Params → PySem.W.Frag} {sp : PySem.W.Frag → Sp}
    (hn : l.most = some n) (hn2 : n ≤ sizeLine) (hdf : d.params.defaults = []) (hr : Room k callerA) (hY : ∀ (w : World) (h : Heap), YP w h → (KK w.params).In h)
    (F : ∀ (w : World) (mg : Str → Option Value) (fa : Addr) (h : Heap), (KK w.params).In h → h.Ns mainGlobals mg → mg d.name = some (.ref fa) →
      ∃ fd : FuncData, (∀ (s : Shared) (u : Value), BindsTo s fd ⟨[u], []⟩ [(x, u)]) ∧ ∀ base : Heap, (KK w.params).In base → base.Ns mainGlobals mg → FnG l.prog w (KK w.params) mg base k fa fd [x] (sp (KK w.params)))
    (hsp : ∀ (K : PySem.W.Frag) (H : Hp) (a : Addr) (ns : List Int), ns.length ≤ n → SqL K H a (ns.map V.int) → (∀ b o, H b = some o → ∃ ob xs, o = .frz ob (.lst xs)) → sp K [.ref a] H (fun v _ => v = .bl true) E0) :
    PySem.W.WalkO q loose XP YP l.row.toRowW d [] (fun f vs => PySem.call f vs) :=
  Att.attach_call hn hdf fun w s0 s mg mb fa o pm cd doc a vs ns G Y ho hd hcd hmg hobj hints hlen hg => by
    have kin := hY w _ Y
    obtain ⟨fd, hb, hF⟩ := F w mg fa _ kin G.T.g hmg
    have hl : vs.length ≤ sizeLine := Nat.le_trans (Nat.le_of_eq hints.length) (Nat.le_trans hlen hn2)
    cases hk : (KK w.params).lookup a with
    | some ob =>
      have e := kin a ob hk
      rw [hobj] at e
      cases e
      have S : SqL (KK w.params) (fun _ => none) a (ns.map V.int) := Or.inr ⟨_, vs.toArray, _, hk, rfl, rfl, rfl, by rw [List.size_toArray]; exact hl, by simpa using vals_ints hints⟩
      exact fromTop (fun _ => none) (fun _ _ z => nomatch z) (fun _ z => nomatch z) (fun _ _ z => nomatch z) S (fun _ _ z => nomatch z) kin G.T.g G.T.b G.T.builtins G.T.nolimit hg hobj hints hr hF hb (hsp _ _ _ _ hlen S fun _ _ z => nomatch z)
    | none =>
      have one : ∀ (b : Addr) (u : HO), (if b = a then some (HO.frz { cls := .type "list", data := .seq vs.toArray } (.lst (ns.map V.int))) else none) = some u → b = a ∧ u = HO.frz { cls := .type "list", data := .seq vs.toArray } (.lst (ns.map V.int)) := fun b u z => by
        by_cases eb : b = a
        · rw [if_pos eb] at z
          exact ⟨eb, (Option.some.inj z).symm⟩
        · rw [if_neg eb] at z
          cases z
      have S : SqL (KK w.params) (fun b => if b = a then some (HO.frz { cls := .type "list", data := .seq vs.toArray } (.lst (ns.map V.int))) else none) a (ns.map V.int) := Or.inl (Or.inr ⟨_, if_pos rfl⟩)
      have O : ∀ b o, (fun b => if b = a then some (HO.frz { cls := .type "list", data := .seq vs.toArray } (.lst (ns.map V.int))) else none) b = some o → ∃ ob xs, o = .frz ob (.lst xs) := fun b o z => ⟨_, _, (one b o z).2⟩
      refine fromTop _ (fun b o z => (one b o z).1) (fun _ _ => hk) O S (fun b u z => ?_) kin G.T.g G.T.b G.T.builtins G.T.nolimit hg hobj hints hr hF hb (hsp _ _ _ _ hlen S O)
      obtain ⟨eb, eu⟩ := one b u z
      subst eb
      subst eu
      exact ⟨hobj, by rw [List.length_map, ← hints.length]; exact hl, vs, _, vals_ints hints, hobj⟩
end
end Vc
namespace Vc
open PySem PySem.Spec PyProof.Rows L2
/-! ### repr of data -/
mutual
def nsz : PyData → Nat
  | .none => 1
  | .bool _ => 1
  | .int _ => 1
  | .str x => x.length + 1
  | .list ds => nszs ds + 1
  | .tuple ds => nszs ds + 1
  | .dict _ => 100000
def nszs : List PyData → Nat
  | [] => 0
  | d :: ds => nsz d + nszs ds
end
mutual
/-- what repr writes without more ado -/
def shb : PyData → Bool
  | .none => true
  | .bool _ => true
  | .int i => decide (i.natAbs.log2 < 1920)
  | .str x => x.cps.toList.all fun c => decide (c < 16 ^ 8)
  | .list ds => shbs ds
  | .tuple ds => shbs ds
  | .dict _ => false
def shbs : List PyData → Bool
  | [] => true
  | d :: ds => shb d && shbs ds
end
mutual
theorem shb_show : ∀ d : PyData, shb d = true → d.showable = true ∧ d.hasDict = false
  | .none, _ => ⟨rfl, by simp only [PyData.hasDict]⟩
  | .bool _, _ => ⟨rfl, by simp only [PyData.hasDict]⟩
  | .int i, h => ⟨by simpa only [PyData.showable, shb] using h, by simp only [PyData.hasDict]⟩
  | .str _, _ => ⟨rfl, by simp only [PyData.hasDict]⟩
  | .list ds, h => by
    have := shbs_show ds (by simpa only [shb] using h)
    exact ⟨by simpa only [PyData.showable] using this.1, by simpa only [PyData.hasDict] using this.2⟩
  | .tuple ds, h => by
    have := shbs_show ds (by simpa only [shb] using h)
    exact ⟨by simpa only [PyData.showable] using this.1, by simpa only [PyData.hasDict] using this.2⟩
  | .dict _, h => by simp [shb] at h
theorem shbs_show : ∀ ds : List PyData, shbs ds = true → PyData.showableAll ds = true ∧ PyData.hasDictAll ds = false
  | [], _ => ⟨rfl, by simp only [PyData.hasDictAll]⟩
  | d :: ds, h => by
    have h' : shb d = true ∧ shbs ds = true := by simpa only [shbs, Bool.and_eq_true] using h
    have a := shb_show d h'.1
    have b := shbs_show ds h'.2
    exact ⟨by simp only [PyData.showableAll, a.1, b.1, Bool.and_self], by simp only [PyData.hasDictAll, a.2, b.2, Bool.or_self]⟩
end
mutual
theorem shown_nsz : ∀ d : PyData, shb d = true → d.shown.length + 6 ≤ 1940 * nsz d
  | .none, _ => by
    have e : (PyData.shown .none).length = 4 := rfl
    simp only [nsz]
    omega
  | .bool b, _ => by
    have e : (PyData.shown (.bool b)).length ≤ 5 := by cases b <;> decide
    simp only [nsz]
    omega
  | .int i, h => by
    have e : (PyData.shown (.int i)).length ≤ 1921 := int_text_len_1921 (by simpa only [shb, decide_eq_true_eq] using h)
    simp only [nsz]
    omega
  | .str x, h => by
    have e := PySem.StrLaws.reprText_len x (by simpa only [shb, List.all_eq_true, decide_eq_true_eq] using h)
    simp only [PyData.shown, nsz]
    omega
  | .list ds, h => by
    have a := shown_nszs ds (by simpa only [shb] using h)
    have b := listText_len_le (PyData.shownAll ds)
    simp only [PyData.shown, nsz]
    omega
  | .tuple ds, h => by
    have a := shown_nszs ds (by simpa only [shb] using h)
    have b := tupleText_len_le (PyData.shownAll ds)
    simp only [PyData.shown, nsz]
    omega
  | .dict _, h => by simp [shb] at h
theorem shown_nszs : ∀ ds : List PyData, shbs ds = true → ((PyData.shownAll ds).map (·.length)).sum + 2 * (PyData.shownAll ds).length ≤ 1940 * nszs ds
  | [], _ => by simp [PyData.shownAll, nszs]
  | d :: ds, h => by
    have h' : shb d = true ∧ shbs ds = true := by simpa only [shbs, Bool.and_eq_true] using h
    have a := shown_nsz d h'.1
    have b := shown_nszs ds h'.2
    simp only [PyData.shownAll, nszs, List.map_cons, List.sum_cons, List.length_cons]
    omega
end
/-- data that repr writes: small, not deep -/
def Shw (d : PyData) : Prop := shb d = true ∧ nsz d ≤ 8000 ∧ d.depth ≤ 60
def rRepr (K : PySem.W.Frag) : List V → Hp → VK → Prop := fun xs H Q => ∃ x d, xs = [x] ∧ Dp K H x d ∧ Shw d ∧ Q (.str d.shown) H
section
variable {X : Cx}
theorem cr_repr (hgd : X.A.guards = some []) (hu : X.A.units + 64 < cLine) : CallR X (.builtin "repr") (rRepr X.K) := by
  intro pins s σ H xs us Q I r h
  obtain ⟨x, d, rfl, hd, ⟨h1, h2, h3⟩, q⟩ := h
  obtain ⟨u, rfl, rx⟩ := vals1 r
  have fit : d.shown.length ≤ sizeLine := by
    have a := shown_nsz d h1
    rw [sizeLine_eq]
    omega
  have key : ∀ (b : Addr), u = .ref b → wpAny (model X.prog X.w) X.A (call (.builtin "repr") [u]) (EP X pins σ Q) X.xe s := fun b e => by
    subst e
    obtain ⟨as, r1⟩ := Dp.reads I d x _ hd rx
    have sh := shb_show d h1
    exact repr_of_reads' r1 sh.1 (PyData.noDict_hsm sh.2) hgd (by omega) (fun _ _ e => e) (fun h' u tk hk => ⟨V.str _, H, I.kept hk, ⟨_, rfl⟩, q⟩) fit
  cases hd with
  | non => cases rx; exact PySem.P.repr_of_none ⟨V.str _, H, I.tok _, ⟨_, rfl⟩, q⟩
  | bl b => cases rx; exact PySem.P.repr_of_bool ⟨V.str _, H, I.tok _, ⟨_, rfl⟩, q⟩
  | int i =>
    obtain ⟨t, rfl⟩ := rx
    exact PySem.P.repr_of_int (by simpa only [shb, decide_eq_true_eq] using h1) ⟨V.str _, H, I.tok _, ⟨_, rfl⟩, q⟩
  | str y =>
    obtain ⟨t, rfl⟩ := rx
    exact PySem.P.repr_of_str ⟨V.str _, H, I.tok _, ⟨_, rfl⟩, q⟩ fit
  | lst hs ha => exact key _ rx
  | tup hs ha => exact key _ rx
end
/-! ### which data are so -/
theorem shw_int {i : Int} (h : i.natAbs < 2 ^ 1920) : shb (.int i) = true := by
  simp only [shb, decide_eq_true_eq]
  by_cases z : i.natAbs = 0
  · rw [z]; decide
  · exact (Nat.log2_lt z).mpr h
theorem shbs_all : ∀ {ds : List PyData}, (∀ d ∈ ds, shb d = true) → shbs ds = true
  | [], _ => rfl
  | d :: ds, h => by
    simp only [shbs, h d List.mem_cons_self, shbs_all fun e he => h e (List.mem_cons_of_mem _ he), Bool.and_self]
theorem nszs_all {n : Nat} : ∀ {ds : List PyData}, (∀ d ∈ ds, nsz d ≤ n) → nszs ds ≤ n * ds.length
  | [], _ => by simp [nszs]
  | d :: ds, h => by
    have a := h d List.mem_cons_self
    have b := nszs_all (n := n) fun e he => h e (List.mem_cons_of_mem _ he)
    simp only [nszs, List.length_cons, Nat.mul_add, Nat.mul_one]
    omega
theorem depth_all {n : Nat} : ∀ {ds : List PyData}, (∀ d ∈ ds, d.depth ≤ n) → PyData.depthAll ds ≤ n
  | [], _ => by simp [PyData.depthAll]
  | d :: ds, h => by
    have a := h d List.mem_cons_self
    have b := depth_all (n := n) fun e he => h e (List.mem_cons_of_mem _ he)
    simp only [PyData.depthAll]
    omega
/-- a leaf: none, a bool, an int of at most 1920 bits, a short text -/
def Leaf (d : PyData) : Prop := shb d = true ∧ nsz d ≤ 20 ∧ d.depth = 0
theorem leaf_int {i : Int} (h : i.natAbs < 2 ^ 1920) : Leaf (.int i) := ⟨shw_int h, by simp [nsz], rfl⟩
theorem leaf_bool (b : Bool) : Leaf (.bool b) := ⟨rfl, by simp [nsz], rfl⟩
theorem leaf_none : Leaf .none := ⟨rfl, by simp [nsz], rfl⟩
theorem Leaf.shw {d : PyData} (h : Leaf d) : Shw d := ⟨h.1, by have := h.2.1; omega, by rw [h.2.2]; omega⟩
theorem shw_list {ds : List PyData} (h : ∀ d ∈ ds, Leaf d) (hl : ds.length ≤ 390) : Shw (.list ds) := by
  have a := nszs_all (n := 20) fun d hd => (h d hd).2.1
  have b := depth_all (n := 0) fun d hd => Nat.le_of_eq (h d hd).2.2
  exact ⟨by simpa only [shb] using shbs_all fun d hd => (h d hd).1, by simp only [nsz]; omega, by simp only [PyData.depth]; omega⟩
theorem shw_tuple {ds : List PyData} (h : ∀ d ∈ ds, Leaf d) (hl : ds.length ≤ 390) : Shw (.tuple ds) := by
  have a := nszs_all (n := 20) fun d hd => (h d hd).2.1
  have b := depth_all (n := 0) fun d hd => Nat.le_of_eq (h d hd).2.2
  exact ⟨by simpa only [shb] using shbs_all fun d hd => (h d hd).1, by simp only [nsz]; omega, by simp only [PyData.depth]; omega⟩
end Vc
namespace Vc
open PySem PySem.Spec PyProof.Rows L2
/-! ### readings, step by step -/
/-- a new tuple, a new list -/
def NewT (xs : List V) (H : Hp) (Q : VK) : Prop := xs.length ≤ sizeLine ∧ ∀ p, H p = none → Q (.ref p) (upd H p (.tup xs))
def NewL (xs : List V) (H : Hp) (Q : VK) : Prop := xs.length ≤ sizeLine ∧ ∀ p, H p = none → Q (.ref p) (upd H p (.lst xs))
section
variable {σ τ : L2.St} {H : Hp} {Q : VK} {QT : Bool → Hp → Prop} {QA : List V → Hp → Prop} {D : Ends} {ta tb tc te : TE} {t u : TT} {ts us : TS} {tA tr : TA} {v x y : V} {i j : Int} {n : Nat} {r r' : R2} {g : TG} {gs : TGs} {K : PySem.W.Frag}
theorem v_seq (h : ts { D with nx := us D } σ H) : tSeq ts us D σ H := h
theorem v_next (h : D.nx σ H) : tNext D σ H := h
theorem v_asg (h : te σ H fun x H1 => g x σ H1 D.nx) : tAsg te g D σ H := h
theorem v_name {Q : L2.St → Hp → Prop} (h : Q (σ.set n (some v)) H) : gName n v σ H Q := h
theorem v_var (e : σ[n]? = some (some v)) (h : Q v H) : tVar n σ H Q := ⟨v, e, h⟩
theorem v_c (h : Q v H) : tC v σ H Q := h
theorem v_op (h : ta σ H fun x H1 => tb σ H1 fun y H2 => r x y H2 Q) : tOp r ta tb σ H Q := h
theorem v_un {r : V → Hp → VK → Prop} (h : ta σ H fun x H1 => r x H1 Q) : tUn r ta σ H Q := h
theorem v_I0 {g : Int → Int → V} (h : Q (g i j) H) : rI0 g (.int i) (.int j) H Q := ⟨i, j, rfl, rfl, h⟩
theorem v_I {C : Int → Int → Prop} {g : Int → Int → V} (c : C i j) (h : Q (g i j) H) : rI C g (.int i) (.int j) H Q := ⟨i, j, rfl, rfl, c, h⟩
theorem v_U {g : Int → V} (h : Q (g i) H) : rU g (.int i) H Q := ⟨i, rfl, h⟩
theorem v_eqI (h : Q (.bl (decide (i = j))) H) : rEq (.int i) (.int j) H Q := ⟨rfl, by rw [show decide ((V.int i) = (V.int j)) = decide (i = j) by simp]; exact h⟩
theorem v_neI (h : Q (.bl (decide (i ≠ j))) H) : rNe (.int i) (.int j) H Q := ⟨rfl, by rw [show (!decide ((V.int i) = (V.int j))) = decide (i ≠ j) by simp]; exact h⟩
theorem v_eqS {a b : Str} (h : Q (.bl (decide (a = b))) H) : rEq (.str a) (.str b) H Q := ⟨rfl, by rw [show decide ((V.str a) = (V.str b)) = decide (a = b) by simp]; exact h⟩
theorem v_neS {a b : Str} (h : Q (.bl (decide (a ≠ b))) H) : rNe (.str a) (.str b) H Q := ⟨rfl, by rw [show (!decide ((V.str a) = (V.str b))) = decide (a ≠ b) by simp]; exact h⟩
/-- the same text twice -/
theorem v_neS0 {a : Str} (h : Q (.bl false) H) : rNe (.str a) (.str a) H Q := ⟨rfl, by simpa using h⟩
theorem v_eqS0 {a : Str} (h : Q (.bl true) H) : rEq (.str a) (.str a) H Q := ⟨rfl, by simpa using h⟩
theorem v_ret (h : te σ H D.rt) : tRet te D σ H := h
theorem v_retN (h : D.rt .non H) : tRetN D σ H := h
theorem v_drop (h : te σ H fun _ H1 => D.nx σ H1) : tDrop te D σ H := h
theorem v_if (h : t σ H fun b H1 => if b = true then ts D σ H1 else us D σ H1) : tIfS t ts us D σ H := h
theorem v_ifE (h : t σ H fun c H1 => if c = true then ta σ H1 Q else tb σ H1 Q) : tIf t ta tb σ H Q := h
theorem v_test (h : te σ H fun x H1 => ∃ k, x = .bl k ∧ QT k H1) : tTest te σ H QT := h
theorem v_B (h : te σ H fun x H1 => ∃ c, x = .bl c ∧ QT c H1) : tB te σ H QT := h
theorem v_bl {b : Bool} {P : Bool → Prop} (h : P b) : ∃ k, (V.bl b) = .bl k ∧ P k := ⟨b, rfl, h⟩
theorem v_and (h : t σ H fun c H1 => if c = true then u σ H1 QT else QT false H1) : tAnd t u σ H QT := h
theorem v_or (h : t σ H fun c H1 => if c = true then QT true H1 else u σ H1 QT) : tOr t u σ H QT := h
theorem v_not (h : t σ H fun c H1 => QT (!c) H1) : tNot t σ H QT := h
theorem v_andV (h : ta σ H fun x H1 => ∃ c, x = .bl c ∧ if c = true then tb σ H1 Q else Q (.bl false) H1) : tAndV ta tb σ H Q := h
theorem v_orV (h : ta σ H fun x H1 => ∃ c, x = .bl c ∧ if c = true then Q (.bl true) H1 else tb σ H1 Q) : tOrV ta tb σ H Q := h
theorem v_notV (h : ta σ H fun x H1 => ∃ c, x = .bl c ∧ Q (.bl (!c)) H1) : tNotV ta σ H Q := h
theorem v_chain (h : ta σ H fun x H1 => tb σ H1 fun y H2 => r x y H2 fun z H3 => ∃ k, z = .bl k ∧ (if k = true then tc σ H3 fun w' H4 => r' y w' H4 Q else Q (.bl false) H3)) : tChain r r' ta tb tc σ H Q := h
theorem v_nil (h : QA [] H) : tNil σ H QA := h
theorem v_cons (h : ta σ H fun x H1 => tr σ H1 fun xs H2 => QA (x :: xs) H2) : tCons ta tr σ H QA := h
theorem v_call {sp : Sp} {dvs : List V} {E : XK} (h : tA σ H fun vs H1 => sp (vs ++ dvs) H1 Q E) : tCall sp dvs E tA σ H Q := h
theorem v_callK {sp : Sp} {gV : List V → List V → List V} {E : XK} {tk : TA} (h : tA σ H fun vs H1 => tk σ H1 fun zs H2 => sp (gV vs zs) H2 Q E) : tCallK sp gV E tA tk σ H Q := h
theorem v_cb {r : List V → Hp → VK → Prop} (h : tA σ H fun vs H1 => r vs H1 Q) : tCB r tA σ H Q := h
theorem v_par {a b : Nat} (h : tA σ H fun vs H1 => ∃ v w, vs = [v, w] ∧ D.nx ((σ.set a (some v)).set b (some w)) H1) : tPar a b tA D σ H := h
theorem v_par3 {a b c : Nat} (h : tA σ H fun vs H1 => ∃ u v w, vs = [u, v, w] ∧ D.nx (((σ.set a (some u)).set b (some v)).set c (some w)) H1) : tPar3 a b c tA D σ H := h
theorem v_two {P : V → V → Prop} (h : P x y) : ∃ v w, [x, y] = [v, w] ∧ P v w := ⟨x, y, rfl, h⟩
theorem v_three {P : V → V → V → Prop} (h : P v x y) : ∃ u w z, [v, x, y] = [u, w, z] ∧ P u w z := ⟨v, x, y, rfl, h⟩
theorem v_tup (h : tA σ H fun xs H1 => NewT xs H1 Q) : tTup tA σ H Q := h
theorem v_lst (h : tA σ H fun xs H1 => NewL xs H1 Q) : tLst tA σ H Q := h
theorem n_tup {xs : List V} (hl : xs.length ≤ 1000) (h : ∀ p, H p = none → Q (.ref p) (upd H p (.tup xs))) : NewT xs H Q := ⟨Nat.le_trans hl (by decide), h⟩
theorem n_lst {xs : List V} (hl : xs.length ≤ 1000) (h : ∀ p, H p = none → Q (.ref p) (upd H p (.lst xs))) : NewL xs H Q := ⟨Nat.le_trans hl (by decide), h⟩
theorem v_isN (h : Q (.bl (decide (x = .non))) H) : (fun (x y : V) (H : Hp) (Q : VK) => y = .non ∧ Q (.bl (decide (x = .non))) H) x .non H Q := ⟨rfl, h⟩
theorem v_if0 {A B : Prop} (h : B) : if false = true then A else B := by simpa using h
theorem v_if1 {A B : Prop} (h : A) : if true = true then A else B := by simpa using h
theorem v_ifd {c : Prop} [Decidable c] {A B : Prop} (h1 : c → A) (h2 : ¬ c → B) : if decide c = true then A else B := by
  by_cases h : c
  · simpa [h] using h1 h
  · simpa [h] using h2 h
theorem v_ifb {b : Bool} {A B : Prop} (h1 : b = true → A) (h2 : b = false → B) : if b = true then A else B := by
  cases b
  · simpa using h2 rfl
  · simpa using h1 rfl
theorem v_ifn {b : Bool} {A B : Prop} (h : if b = true then B else A) : if (!b) = true then A else B := by
  cases b
  · simpa using h
  · simpa using h
theorem v_gsub {to ti : TE} {t : TSet} {Q : L2.St → Hp → Prop} (h : to σ H fun o H1 => ti σ H1 fun i H2 => t o i v H2 fun H3 => Q σ H3) : gSub to ti t v σ H Q := h
theorem v_gnil {Q : L2.St → Hp → Prop} (h : Q σ H) : gNil [] σ H Q := ⟨rfl, h⟩
theorem v_gcons {Q : L2.St → Hp → Prop} {vs : List V} (h : g v σ H fun σ' H' => gs vs σ' H' Q) : gCons g gs (v :: vs) σ H Q := ⟨v, vs, rfl, h⟩
theorem v_gtup {Q : L2.St → Hp → Prop} {a : Addr} {xs : List V} (h : SqT K H a xs) (hl : xs.length = n) (q : gs xs σ H Q) : gTup K n gs (.ref a) σ H Q := ⟨a, xs, rfl, h, hl, q⟩
theorem v_setL {p : Addr} {xs : List V} {k : Int} {m : Nat} {Q : Hp → Prop} (h : H p = some (.lst xs)) (hk : ixN xs.length k = some m) (q : Q (upd H p (.lst (xs.set m v)))) : rSetL (.ref p) (.int k) v H Q := ⟨p, xs, k, m, rfl, rfl, h, hk, q⟩
theorem v_ixL {p : Addr} {xs : List V} (h : SqL K H p xs) (ha : atI xs i = some v) (q : Q v H) : rIxL K (.ref p) (.int i) H Q := ⟨p, xs, i, v, rfl, rfl, h, ha, q⟩
theorem v_ixT {p : Addr} {xs : List V} (h : SqT K H p xs) (ha : atI xs i = some v) (q : Q v H) : rIxT K (.ref p) (.int i) H Q := ⟨p, xs, i, v, rfl, rfl, h, ha, q⟩
theorem v_isInt (h : Q (.bl true) H) : rIsi K [.int i, .ty "int"] H Q := ⟨_, _, _, _, true, rfl, .ty _, .base (.int i), kit_ty (by decide +kernel), h⟩
theorem v_isBool (h : Q (.bl false) H) : rIsi K [.int i, .ty "bool"] H Q := ⟨_, _, _, _, false, rfl, .ty _, .base (.int i), kit_ty (by decide +kernel), h⟩
theorem v_repr {d : PyData} (hd : Dp K H x d) (hs : Shw d) (q : Q (.str d.shown) H) : rRepr K [x] H Q := ⟨x, d, rfl, hd, hs, q⟩
theorem v_append {l : Addr} {xs : List V} (h : H l = some (.lst xs)) (hz : xs.length < 100000) (q : Q .non (upd H l (.lst (xs ++ [y])))) : rAppend (.ref l) [y] H Q := ⟨l, xs, y, rfl, rfl, h, Nat.lt_of_lt_of_le hz (by decide), q⟩
theorem v_bmL {T : String} {r : V → List V → Hp → VK → Prop} (h : te σ H fun x H1 => tyV K T x H1 ∧ tA σ H1 fun xs H2 => r x xs H2 Q) : tBM K T r te tA σ H Q := h
theorem v_never (h : False) : tNever D σ H := h
end
/-! ### built-ins by names -/
def rInt1 : List V → Hp → VK → Prop := fun xs H Q => (∃ i, xs = [.int i] ∧ Q (.int i) H) ∨ ∃ k, xs = [.bl k] ∧ Q (.int (if k then 1 else 0)) H
def rAbs : List V → Hp → VK → Prop := fun xs H Q => ∃ i, xs = [.int i] ∧ Q (.int (if i < 0 then -i else i)) H
def rDivW : List V → Hp → VK → Prop := fun xs H Q => ∃ i j, xs = [.int i, .int j] ∧ CDivP i j ∧ ∀ p, H p = none → Q (.ref p) (upd H p (.tup [.int (i / j), .int (i % j)]))
def rLen (K : PySem.W.Frag) : List V → Hp → VK → Prop := fun xs H Q => ∃ p ys, xs = [.ref p] ∧ (SqL K H p ys ∨ SqT K H p ys) ∧ Q (.int ys.length) H
def rMax2 : List V → Hp → VK → Prop := fun xs H Q => ∃ i j, xs = [.int i, .int j] ∧ Q (.int (if j > i then j else i)) H
def rMin2 : List V → Hp → VK → Prop := fun xs H Q => ∃ i j, xs = [.int i, .int j] ∧ Q (.int (if j < i then j else i)) H
def rTupOf (K : PySem.W.Frag) : List V → Hp → VK → Prop := fun xs H Q => ∃ p ys, xs = [.ref p] ∧ ((SqL K H p ys ∧ ∀ l, H l = none → Q (.ref l) (upd H l (.tup ys))) ∨ (SqT K H p ys ∧ Q (.ref p) H))
def rListOf (K : PySem.W.Frag) : List V → Hp → VK → Prop := fun xs H Q => ∃ p ys, xs = [.ref p] ∧ (SqL K H p ys ∨ SqT K H p ys) ∧ ∀ l, H l = none → Q (.ref l) (upd H l (.lst ys))
section
variable {X : Cx}
theorem cv_int : CallR X (.type "int") rInt1 := call_int1
theorem cv_abs : CallR X (.builtin "abs") rAbs := call_abs
theorem cv_divmod : CallR X (.builtin "divmod") rDivW := call_divmodW
theorem cv_len : CallR X (.builtin "len") (rLen X.K) := call_len_seq
theorem cv_max (hc : X.calm = true) : CallR X (.builtin "max") rMax2 := call_max2 hc
theorem cv_min (hc : X.calm = true) : CallR X (.builtin "min") rMin2 := call_min2 hc
theorem cv_tuple : CallR X (.type "tuple") (rTupOf X.K) := call_tuple_of
theorem cv_list : CallR X (.type "list") (rListOf X.K) := call_list_of
end
section
variable {H : Hp} {Q : VK} {i j : Int} {K : PySem.W.Frag} {p : Addr} {ys : List V} {v : V} {σ : L2.St} {tA : TA} {R : It → Hp → Prop} {D : Ends} {g : TG} {tb : TS} {wi : TI}
theorem v_int1 (h : Q (.int i) H) : rInt1 [.int i] H Q := Or.inl ⟨i, rfl, h⟩
theorem v_int1b {b : Bool} (h : Q (.int (if b then 1 else 0)) H) : rInt1 [.bl b] H Q := Or.inr ⟨b, rfl, h⟩
theorem v_abs (h : Q (.int (if i < 0 then -i else i)) H) : rAbs [.int i] H Q := ⟨i, rfl, h⟩
theorem v_div (c : CDivP i j) (h : ∀ p, H p = none → Q (.ref p) (upd H p (.tup [.int (i / j), .int (i % j)]))) : rDivW [.int i, .int j] H Q := ⟨i, j, rfl, c, h⟩
theorem v_lenL (h : SqL K H p ys) (q : Q (.int ys.length) H) : rLen K [.ref p] H Q := ⟨p, ys, rfl, Or.inl h, q⟩
theorem v_lenT (h : SqT K H p ys) (q : Q (.int ys.length) H) : rLen K [.ref p] H Q := ⟨p, ys, rfl, Or.inr h, q⟩
theorem v_max (q : Q (.int (if j > i then j else i)) H) : rMax2 [.int i, .int j] H Q := ⟨i, j, rfl, q⟩
theorem v_min (q : Q (.int (if j < i then j else i)) H) : rMin2 [.int i, .int j] H Q := ⟨i, j, rfl, q⟩
theorem v_tupL (h : SqL K H p ys) (q : ∀ l, H l = none → Q (.ref l) (upd H l (.tup ys))) : rTupOf K [.ref p] H Q := ⟨p, ys, rfl, Or.inl ⟨h, q⟩⟩
theorem v_tupT (h : SqT K H p ys) (q : Q (.ref p) H) : rTupOf K [.ref p] H Q := ⟨p, ys, rfl, Or.inr ⟨h, q⟩⟩
theorem v_listL (h : SqL K H p ys) (q : ∀ l, H l = none → Q (.ref l) (upd H l (.lst ys))) : rListOf K [.ref p] H Q := ⟨p, ys, rfl, Or.inl h, q⟩
theorem v_listT (h : SqT K H p ys) (q : ∀ l, H l = none → Q (.ref l) (upd H l (.lst ys))) : rListOf K [.ref p] H Q := ⟨p, ys, rfl, Or.inr h, q⟩
theorem v_all {bs : List Bool} (h : SqL K H p (bs.map V.bl)) (q : Q (.bl (bs.all id)) H) : rAll K [.ref p] H Q := ⟨p, bs, rfl, h, q⟩
theorem v_any {bs : List Bool} (h : SqL K H p (bs.map V.bl)) (q : Q (.bl (bs.any id)) H) : rAny K [.ref p] H Q := ⟨p, bs, rfl, h, q⟩
theorem v_sum {ns : List Int} (h : SqL K H p (ns.map V.int)) (q : Q (.int ns.sum) H) : rSum K [.ref p] H Q := ⟨p, ns, rfl, h, q⟩
/-- a for: first what it walks -/
theorem v_for (h : wi σ H fun J H1 => ∃ W : Nat → Nat → L2.St → Hp → Prop, (∃ m, W 0 m σ H1) ∧ ∀ i m σ H, W i m σ H →
  (J.stop i H ∧ D.nx σ H) ∨ (J.go i H ∧ ∃ N : L2.St → Hp → Prop, (∀ σ' H', N σ' H' → ∃ m', m' < m ∧ W (i + 1) m' σ' H') ∧ ∀ x H', J.yld i H x H' → g x σ H' fun σ2 H2 => tb { D with nx := N, ct := N, bk := D.nx } σ2 H2)) : tFor wi g tb D σ H := h
theorem v_rng1 (h : tA σ H fun vs H1 => ∃ j : Int, vs = [.int j] ∧ -(2 ^ 62) ≤ j ∧ j < 2 ^ 62 ∧ R (Itr 0 j.toNat) H1) : iRng1 tA σ H R := h
theorem v_rngN {n : Nat} {P : Nat → Prop} (hn : n < 2 ^ 61) (h : P n) : ∃ j : Int, [V.int (n : Int)] = [.int j] ∧ -(2 ^ 62) ≤ j ∧ j < 2 ^ 62 ∧ P j.toNat :=
  ⟨n, rfl, by omega, by omega, by rw [Int.toNat_natCast]; exact h⟩
theorem v_iList {tl : TE} (h : tl σ H fun x H1 => ∃ a, x = .ref a ∧ (∃ xs, SqL K H1 a xs) ∧ R (Itl K a) H1) : iList K tl σ H R := h
theorem v_iTup {tl : TE} (h : tl σ H fun x H1 => ∃ a, x = .ref a ∧ (∃ xs, SqT K H1 a xs) ∧ R (Itt K a) H1) : iTup K tl σ H R := h
theorem v_ref {P : Addr → Prop} (h : P p) : ∃ a, V.ref p = .ref a ∧ P a := ⟨p, rfl, h⟩
theorem v_sl {r : V → Option Int → Option Int → Hp → VK → Prop} {te : TE} {tl th : TO} (h : te σ H fun x H1 => tl σ H1 fun l H2 => th σ H2 fun u H3 => r x l u H3 Q) : tSl r te tl th σ H Q := h
theorem v_noPart {Q : Option Int → Hp → Prop} (h : Q none H) : tNoPart σ H Q := h
theorem v_part {te : TE} {Q : Option Int → Hp → Prop} (h : te σ H fun x H1 => ∃ i, x = .int i ∧ Q (some i) H1) : tPart te σ H Q := h
theorem v_pInt {P : Int → Prop} (h : P i) : ∃ j, V.int i = .int j ∧ P j := ⟨i, rfl, h⟩
theorem v_slL {lo hi : Option Int} (h : SqL K H p ys) (q : ∀ l, H l = none → Q (.ref l) (upd H l (.lst (cutV ys lo hi)))) : rSlL K (.ref p) lo hi H Q := ⟨p, ys, rfl, h, q⟩
theorem v_lc {tt : TT} {te : TE} {vs : List Nat} (h : wi σ H fun J H1 => ∀ D, H1 D = none → ∃ W : Nat → Nat → Hp → Prop, (∃ m, W 0 m (upd H1 D (.lst []))) ∧ ∀ i m H, W i m H →
  (J.stop i H ∧ Q (.ref D) H) ∨ (J.go i H ∧ ∃ Nx : Hp → Prop, (∀ H', Nx H' → ∃ m', m' < m ∧ W (i + 1) m' H') ∧ ∀ x H', J.yld i H x H' → g x (wipe σ vs) H' fun σ2 H2 => wipe σ2 vs = wipe σ vs ∧ tt σ2 H2 fun b H3 =>
    if b = true then te σ2 H3 fun y H4 => ∃ acc, H4 D = some (.lst acc) ∧ acc.length < sizeLine ∧ Nx (upd H4 D (.lst (acc ++ [y]))) else Nx H3)) : tLc wi g tt te vs σ H Q := h
theorem v_yes {Q : Bool → Hp → Prop} (h : Q true H) : tYes σ H Q := h
theorem v_cat {q : Addr} {xs zs : List V} (h : H p = some (.lst xs)) (h2 : H q = some (.lst zs)) (hl : xs.length + zs.length ≤ 100000) (k : ∀ l, H l = none → Q (.ref l) (upd H l (.lst (xs ++ zs)))) : rCat (.ref p) (.ref q) H Q :=
  ⟨p, q, xs, zs, rfl, rfl, h, h2, Nat.le_trans hl (by decide), k⟩
end
/-! ### specs by the number of arguments -/
def sp1 (f : V → Hp → VK → Prop) : Sp := fun vs H Q _ => ∃ a, vs = [a] ∧ f a H Q
def sp2 (f : V → V → Hp → VK → Prop) : Sp := fun vs H Q _ => ∃ a b, vs = [a, b] ∧ f a b H Q
def sp3 (f : V → V → V → Hp → VK → Prop) : Sp := fun vs H Q _ => ∃ a b c, vs = [a, b, c] ∧ f a b c H Q
def sp4 (f : V → V → V → V → Hp → VK → Prop) : Sp := fun vs H Q _ => ∃ a b c d, vs = [a, b, c, d] ∧ f a b c d H Q
theorem len1 {f : V → Hp → VK → Prop} {p : Str} : ∀ vs H Q E, sp1 f vs H Q E → vs.length = [p].length := fun _ _ _ _ h => by obtain ⟨a, rfl, _⟩ := h; rfl
theorem len2 {f : V → V → Hp → VK → Prop} {p q : Str} : ∀ vs H Q E, sp2 f vs H Q E → vs.length = [p, q].length := fun _ _ _ _ h => by obtain ⟨a, b, rfl, _⟩ := h; rfl
theorem len3 {f : V → V → V → Hp → VK → Prop} {p q r : Str} : ∀ vs H Q E, sp3 f vs H Q E → vs.length = [p, q, r].length := fun _ _ _ _ h => by obtain ⟨a, b, c, rfl, _⟩ := h; rfl
theorem len4 {f : V → V → V → V → Hp → VK → Prop} {p q r s : Str} : ∀ vs H Q E, sp4 f vs H Q E → vs.length = [p, q, r, s].length := fun _ _ _ _ h => by obtain ⟨a, b, c, d, rfl, _⟩ := h; rfl
section
variable {H : Hp} {Q : VK} {E : XK} {a b c d : V}
theorem c1 {f : V → Hp → VK → Prop} (h : f a H Q) : sp1 f ([a] ++ []) H Q E := ⟨a, rfl, h⟩
theorem c2 {f : V → V → Hp → VK → Prop} (h : f a b H Q) : sp2 f ([a, b] ++ []) H Q E := ⟨a, b, rfl, h⟩
theorem c3 {f : V → V → V → Hp → VK → Prop} (h : f a b c H Q) : sp3 f ([a, b, c] ++ []) H Q E := ⟨a, b, c, rfl, h⟩
theorem c4 {f : V → V → V → V → Hp → VK → Prop} (h : f a b c d H Q) : sp4 f ([a, b, c, d] ++ []) H Q E := ⟨a, b, c, d, rfl, h⟩
theorem k1 {f : V → Hp → VK → Prop} (h : f a H Q) : sp1 f [a] H Q E := ⟨a, rfl, h⟩
theorem k2 {f : V → V → Hp → VK → Prop} (h : f a b H Q) : sp2 f [a, b] H Q E := ⟨a, b, rfl, h⟩
theorem k3 {f : V → V → V → Hp → VK → Prop} (h : f a b c H Q) : sp3 f [a, b, c] H Q E := ⟨a, b, c, rfl, h⟩
end
end Vc
namespace Vc
open PySem PySem.Spec PyProof.Rows L2
/-! ### heaps: all stays but W -/
def Sx (W : Addr) (H H' : Hp) : Prop := ∀ b o, b ≠ W → H b = some o → H' b = some o
theorem Sx.refl {W : Addr} {H : Hp} : Sx W H H := fun _ _ _ h => h
theorem Sx.trans {W : Addr} {H H1 H2 : Hp} (a : Sx W H H1) (b : Sx W H1 H2) : Sx W H H2 := fun c o n h => b c o n (a c o n h)
theorem Sx.of {W : Addr} {H H' : Hp} (a : Same H H') : Sx W H H' := fun c o _ h => a c o h
theorem Sx.new {W p : Addr} {H : Hp} {o : HO} (h : H p = none) : Sx W H (upd H p o) := fun b u _ e => by
  rw [upd_ne (ne_of_none e h)]
  exact e
theorem Sx.mut {W : Addr} {H : Hp} {o : HO} : Sx W H (upd H W o) := fun b u n e => by
  rw [upd_ne n]
  exact e
/-- what was not there may change -/
theorem Sx.own {W p : Addr} {H H' : Hp} {o : HO} (s : Sx W H H') (h : H p = none) : Sx W H (upd H' p o) := fun b u n e => by
  rw [upd_ne (ne_of_none e h)]
  exact s b u n e
theorem same_new {p : Addr} {H : Hp} {o : HO} (h : H p = none) : Same H (upd H p o) := fun b u e => by
  rw [upd_ne (ne_of_none e h)]
  exact e
theorem same_own {p : Addr} {H H' : Hp} {o : HO} (s : Same H H') (h : H p = none) : Same H (upd H' p o) := fun b u e => by
  rw [upd_ne (ne_of_none e h)]
  exact s b u e
theorem sqL_of {K : PySem.W.Frag} {H : Hp} {a : Addr} {xs : List V} (h : H a = some (.lst xs)) : SqL K H a xs := .inl (.inl h)
theorem sqT_of {K : PySem.W.Frag} {H : Hp} {a : Addr} {xs : List V} (h : H a = some (.tup xs)) : SqT K H a xs := .inl (.inl h)
theorem Same.seqT {K : PySem.W.Frag} {H H' : Hp} {a : Addr} {xs : List V} (e : Same H H') (h : SqT K H a xs) : SqT K H' a xs := by
  rcases h with (h | ⟨o, h⟩) | h
  · exact .inl (.inl (e _ _ h))
  · exact .inl (.inr ⟨o, e _ _ h⟩)
  · exact .inr h
/-- the drawn numbers' list: three ints, then what stays -/
def Wl (tl : List V) (H : Hp) (W : Addr) : Prop := ∃ a b c : Int, H W = some (.lst (.int a :: .int b :: .int c :: tl))
theorem Wl.new {tl : List V} {W p : Addr} {H : Hp} {o : HO} (w : Wl tl H W) (h : H p = none) : Wl tl (upd H p o) W := by
  obtain ⟨a, b, c, e⟩ := w
  exact ⟨a, b, c, by rw [upd_ne (ne_of_none e h)]; exact e⟩
theorem Wl.of {tl : List V} {W : Addr} {H H' : Hp} (w : Wl tl H W) (s : Same H H') : Wl tl H' W := by
  obtain ⟨a, b, c, e⟩ := w
  exact ⟨a, b, c, s _ _ e⟩
theorem mod_ge {i j : Int} (hj : 0 < j) : 0 ≤ i.fmod j ∧ i.fmod j < j := by
  rw [Int.fmod_eq_emod_of_nonneg i (by omega)]
  exact ⟨Int.emod_nonneg _ (by omega), Int.emod_lt_of_pos _ hj⟩
/-- a rest: a letter with its bounds -/
theorem v_modN {z : Int} {k : Nat} {H : Hp} {Q : VK} (hk : 0 < k) (h : ∀ r : Nat, r < k → Q (.int (r : Int)) H) : rI (fun _ j => j ≠ 0) (fun i j => V.int (i.fmod j)) (.int z) (.int (k : Int)) H Q := by
  have hz := mod_ge (i := z) (j := (k : Int)) (by omega)
  refine ⟨z, k, rfl, rfl, by omega, ?_⟩
  have e := Int.toNat_of_nonneg hz.1
  have h2 := h (z.fmod k).toNat (by omega)
  rw [e] at h2
  exact h2
theorem cm_r {x y j c : Int} (h0 : 0 < j) (hc : 0 ≤ c) (h : j + c < 2 ^ 63) : CMul x (y.fmod j + c) := Or.inr (by
  have := mod_ge (i := y) h0
  have e : (2 : Int) ^ 63 = 9223372036854775808 := by decide
  have e2 : (2 : Int) ^ 64 = 18446744073709551616 := by decide
  omega)
theorem cut_mem {xs : List V} {lo hi : Option Int} {i : Nat} {x : V} (h : (cutV xs lo hi)[i]? = some x) : x ∈ xs := by
  have m := List.mem_of_getElem? h
  unfold cutV at m
  exact List.mem_of_mem_drop (List.mem_of_mem_take m)
theorem cut_ints {ns : List Int} {lo hi : Option Int} {i : Nat} {x : V} (h : (cutV (ns.map V.int) lo hi)[i]? = some x) : ∃ z : Int, x = .int z := by
  obtain ⟨z, _, e⟩ := List.mem_map.mp (cut_mem h)
  exact ⟨z, e.symm⟩
/-! ### new things, the heap a letter -/
section
variable {H : Hp} {Q : VK} {K : PySem.W.Frag} {σ : L2.St} {xs ys : List V} {p : Addr} {c : Bool} {ta tb : TE}
theorem a_tup (hl : xs.length ≤ 1000) (h : ∀ (p : Addr) (H' : Hp), H p = none → Same H H' → H' p = some (.tup xs) → Q (.ref p) H') : NewT xs H Q :=
  ⟨Nat.le_trans hl (by decide), fun p hp => h p _ hp (same_new hp) upd_same⟩
theorem a_lst (hl : xs.length ≤ 1000) (h : ∀ (p : Addr) (H' : Hp), H p = none → Same H H' → H' p = some (.lst xs) → Q (.ref p) H') : NewL xs H Q :=
  ⟨Nat.le_trans hl (by decide), fun p hp => h p _ hp (same_new hp) upd_same⟩
theorem a_slL {lo hi : Option Int} (h : SqL K H p ys) (q : ∀ (l : Addr) (H' : Hp), H l = none → Same H H' → H' l = some (.lst (cutV ys lo hi)) → Q (.ref l) H') : rSlL K (.ref p) lo hi H Q := v_slL h fun l hl => q l _ hl (same_new hl) upd_same
theorem a_tupL (h : SqL K H p ys) (q : ∀ (l : Addr) (H' : Hp), H l = none → Same H H' → H' l = some (.tup ys) → Q (.ref l) H') : rTupOf K [.ref p] H Q := v_tupL h fun l hl => q l _ hl (same_new hl) upd_same
theorem a_cat {q : Addr} {zs : List V} (h : H p = some (.lst xs)) (h2 : H q = some (.lst zs)) (hl : xs.length + zs.length ≤ 100000) (k : ∀ (l : Addr) (H' : Hp), H l = none → Same H H' → H' l = some (.lst (xs ++ zs)) → Q (.ref l) H') : rCat (.ref p) (.ref q) H Q :=
  v_cat h h2 hl fun l hl => k l _ hl (same_new hl) upd_same
/-- two ways to an int -/
theorem v_joinI (ha : c = true → ∀ Q' : VK, (∀ o : Int, Q' (.int o) H) → ta σ H Q') (hb : c = false → ∀ Q' : VK, (∀ o : Int, Q' (.int o) H) → tb σ H Q') (h : ∀ o : Int, Q (.int o) H) : if c = true then ta σ H Q else tb σ H Q := by
  cases c with
  | true => simpa using ha rfl Q h
  | false => simpa using hb rfl Q h
/-- a and b, b only asked where a is so -/
theorem v_andJ {d : Bool} (h : c = true → ∀ Q' : VK, Q' (.bl d) H → tb σ H Q') (q : Q (.bl (c && d)) H) : if c = true then tb σ H Q else Q (.bl false) H := by
  cases c with
  | true => simpa using h rfl Q (by simpa using q)
  | false => simpa using q
theorem v_orJ {d : Bool} (h : c = false → ∀ Q' : VK, Q' (.bl d) H → tb σ H Q') (q : Q (.bl (c || d)) H) : if c = true then Q (.bl true) H else tb σ H Q := by
  cases c with
  | true => simpa using q
  | false => simpa using h rfl Q (by simpa using q)
theorem v_tandJ {t : TT} {QT : Bool → Hp → Prop} {d : Bool} (h : c = true → ∀ Q' : Bool → Hp → Prop, Q' d H → t σ H Q') (q : QT (c && d) H) : if c = true then t σ H QT else QT false H := by
  cases c with
  | true => simpa using h rfl QT (by simpa using q)
  | false => simpa using q
theorem v_torJ {t : TT} {QT : Bool → Hp → Prop} {d : Bool} (h : c = false → ∀ Q' : Bool → Hp → Prop, Q' d H → t σ H Q') (q : QT (c || d) H) : if c = true then QT true H else t σ H QT := by
  cases c with
  | true => simpa using q
  | false => simpa using h rfl QT (by simpa using q)
/-- two ways to a number of a kind -/
theorem v_joinN (P : Nat → Prop) (ha : c = true → ∀ Q' : VK, (∀ o : Nat, P o → Q' (.int o) H) → ta σ H Q') (hb : c = false → ∀ Q' : VK, (∀ o : Nat, P o → Q' (.int o) H) → tb σ H Q') (h : ∀ o : Nat, P o → Q (.int o) H) : if c = true then ta σ H Q else tb σ H Q := by
  cases c with
  | true => simpa using ha rfl Q h
  | false => simpa using hb rfl Q h
end
theorem dp_ints {K : PySem.W.Frag} {H : Hp} : ∀ ns : List Nat, DpAll K H (ns.map fun n : Nat => V.int (n : Int)) (ns.map fun n : Nat => PyData.int (n : Int))
  | [] => .nil
  | _ :: ns => .cons (.int _) (dp_ints ns)
theorem same_sx {W : Addr} {H H1 H2 : Hp} (hW : H W = none) (s1 : Same H H1) (sx : Sx W H1 H2) : Same H H2 := fun b o e => sx b o (ne_of_none e hW) (s1 b o e)
theorem Sx.free {W : Addr} {H H' : Hp} (s : Sx W H H') {l : Addr} (h : H' l = Option.none) (n : l ≠ W) : H l = Option.none := by
  cases z : H l with
  | none => rfl
  | some o =>
    rw [s l o n z] at h
    cases h
theorem Wl.ne {tl : List V} {W p : Addr} {H : Hp} (w : Wl tl H W) (h : H p = none) : p ≠ W := by
  obtain ⟨x, y, u, e⟩ := w
  exact (ne_of_none e h).symm
theorem Wl.ne' {tl : List V} {W p : Addr} {H : Hp} (w : Wl tl H W) (h : H p = none) : W ≠ p := fun e => w.ne h e.symm
theorem tyL {K : PySem.W.Frag} {H : Hp} {p : Addr} {xs : List V} (h : H p = some (.lst xs)) : tyV K "list" (.ref p) H := .inl ⟨rfl, _, sqL_of h⟩
theorem v_allT {K : PySem.W.Frag} {H : Hp} {p : Addr} {n : Nat} {Q : VK} (h : H p = some (.lst (List.replicate n (.bl true)))) (q : Q (.bl true) H) : rAll K [.ref p] H Q :=
  v_all (bs := List.replicate n true) (sqL_of (by rw [List.map_replicate]; exact h)) (by simpa using q)
theorem rep_more {α : Type} (n : Nat) (x : α) : List.replicate n x ++ [x] = List.replicate (n + 1) x := (List.replicate_succ' ..).symm
theorem r_int {K : PySem.W.Frag} {H : Hp} {Q : VK} {i : Int} (h : Leaf (.int i)) (q : Q (.str (PyData.shown (.int i))) H) : rRepr K [.int i] H Q := v_repr (.int i) h.shw q
/-! ### keywords: places -/
def picks {α : Type} (is : List Nat) (xs : List α) : List α := is.filterMap fun i => xs[i]?
def gpick {α : Type} (n m : Nat) (is : List Nat) (us ws : List α) : List α := if us.length = n ∧ ws.length = m then picks is (us ++ ws) else []
theorem picks_rel {xs : List V} {us : List Value} (r : Vals xs us) : ∀ is : List Nat, Vals (picks is xs) (picks is us)
  | [] => .nil
  | i :: is => by
    have ih := picks_rel r is
    unfold picks at ih ⊢
    cases e : xs[i]? with
    | none => rw [List.filterMap_cons_none e, List.filterMap_cons_none (r.none_of e)]; exact ih
    | some x =>
      obtain ⟨u, hu, ru⟩ := r.get e
      rw [List.filterMap_cons_some e, List.filterMap_cons_some hu]
      exact .cons ru ih
theorem gpick_rel (n m : Nat) (is : List Nat) {vs zs : List V} {us ws : List Value} (r : Vals vs us) (rz : Vals zs ws) : Vals (gpick n m is vs zs) (gpick n m is us ws) := by
  unfold gpick
  rw [r.length, rz.length]
  split
  · exact picks_rel (r.append rz) is
  · exact .nil
/-! ### bits of what is not negative -/
theorem bA (a b : Nat) : Builtin.bitAnd (a : Int) (b : Int) = ((a &&& b : Nat) : Int) := by
  rw [bitAnd_pp (Int.natCast_nonneg _) (Int.natCast_nonneg _), Int.toNat_natCast, Int.toNat_natCast]
theorem bO (a b : Nat) : Builtin.bitOr (a : Int) (b : Int) = ((a ||| b : Nat) : Int) := by
  rw [bitOr_nn (Int.natCast_nonneg _) (Int.natCast_nonneg _), Int.toNat_natCast, Int.toNat_natCast]
theorem or_add (a b : Nat) : (a ||| b) + (a &&& b) = a + b := by
  have h := bitOr_and (a : Int) (b : Int)
  rw [bO, bA] at h
  omega
theorem xor_add (a b : Nat) : (a ^^^ b) + 2 * (a &&& b) = a + b := by
  have h1 := or_add (a ^^^ b) (a &&& b)
  have e1 : (a ^^^ b) ||| (a &&& b) = a ||| b := by
    apply Nat.eq_of_testBit_eq
    intro i
    simp only [Nat.testBit_or, Nat.testBit_xor, Nat.testBit_and]
    cases a.testBit i <;> cases b.testBit i <;> rfl
  have e2 : (a ^^^ b) &&& (a &&& b) = 0 := by
    apply Nat.eq_of_testBit_eq
    intro i
    simp only [Nat.testBit_xor, Nat.testBit_and, Nat.zero_testBit]
    cases a.testBit i <;> cases b.testBit i <;> rfl
  have h2 := or_add a b
  rw [e1, e2] at h1
  omega
theorem bX (a b : Nat) : Builtin.bitXor (a : Int) (b : Int) = ((a ^^^ b : Nat) : Int) := by
  have h := xor_add a b
  have h2 := or_add a b
  show Builtin.bitOr (a : Int) (b : Int) - Builtin.bitAnd (a : Int) (b : Int) = _
  rw [bO, bA]
  omega
theorem shl1 (n : Nat) : (1 : Int) * 2 ^ ((n : Int).toNat) = ((2 ^ n : Nat) : Int) := by
  rw [Int.toNat_natCast, Int.one_mul]
  exact (PySem.W.kbt_cast n).symm
theorem natOf {r : Int} (h : 0 ≤ r) : ∃ n : Nat, r = (n : Int) := ⟨r.toNat, (Int.toNat_of_nonneg h).symm⟩
theorem lt_and {a b n : Nat} (h : a < 2 ^ n) : a &&& b < 2 ^ n := Nat.lt_of_le_of_lt Nat.and_le_left h
theorem lt_or {a b n : Nat} (h : a < 2 ^ n) (h2 : b < 2 ^ n) : a ||| b < 2 ^ n := Nat.or_lt_two_pow h h2
theorem lt_xor {a b n : Nat} (h : a < 2 ^ n) (h2 : b < 2 ^ n) : a ^^^ b < 2 ^ n := Nat.xor_lt_two_pow h h2
theorem lt_bit {k n : Nat} (h : k < n) : 2 ^ k < 2 ^ n := Nat.pow_lt_pow_right (by decide) h
theorem bits_ext {a b n : Nat} (ha : a < 2 ^ n) (hb : b < 2 ^ n) (h : ∀ i, i < n → a.testBit i = b.testBit i) : a = b := by
  apply Nat.eq_of_testBit_eq
  intro i
  by_cases hi : i < n
  · exact h i hi
  · have e := Nat.pow_le_pow_right (n := 2) (by decide) (Nat.le_of_not_lt hi)
    rw [Nat.testBit_lt_two_pow (Nat.lt_of_lt_of_le ha e), Nat.testBit_lt_two_pow (Nat.lt_of_lt_of_le hb e)]
theorem bit_high {a n i : Nat} (ha : a < 2 ^ n) (hi : n ≤ i) : a.testBit i = false := Nat.testBit_lt_two_pow (Nat.lt_of_lt_of_le ha (Nat.pow_le_pow_right (by decide) hi))
end Vc
namespace Vc
open PySem PySem.Spec PyProof.Rows L2
/-! ### the binary digits of a number -/
def binS (n : Nat) : PySem.Str := ⟨((Nat.toDigits 2 n).map Char.toNat).toArray⟩
section
open Builtin Builtin.Str Builtin.Int
theorem gives_b (n : Nat) (t u : Tok) : Gives (Builtin.«int.__format__» ⟨[.int (n : Int) t, .str (Str.ofString "b") u], []⟩) (.str (binS n)) := by
  intro prog w A R s hq
  have e0 : (decide ((n : Int) < 0)) = false := decide_eq_false (by omega)
  unfold Builtin.«int.__format__»
  simp only [selfAndOne, noKeywords, Int.intOfSelf, asInt?, asStr?, List.isEmpty_nil, if_true, pure_bind, bind_pure, bind_assoc, Bool.false_eq_true, if_false,
    show (Value.str (Str.ofString "b") u == Value.none) = false from rfl, show ((Str.ofString "b").length == 0) = false by decide]
  refine wpAny_bind (wpAny_typeNameOf (T := "str") (typeIs_str _ _ _) (by decide) fun _ => ?_)
  rw [if_neg (by decide)]
  refine wpAny_bind (wpAny_typeNameOfCut_int ?_)
  obtain ⟨f, hp, ht, hpr, hz, hal, hw, hgr, hsg, hfi⟩ : ∃ f, Float.parseFormatSpec (Str.ofString "b").cps.toList "int" 62 = .ok f ∧ f.type = some 98 ∧ f.precision = none ∧ f.noNeg0 = false ∧ f.alt = false ∧ f.width = none ∧ f.grouping = none ∧ f.sign = none ∧ (f.fill == 48) = false :=
    ⟨_, rfl, rfl, rfl, rfl, rfl, rfl, rfl, rfl, rfl⟩
  rw [hp]
  simp only [ht, Option.getD_some]
  rw [if_pos (by decide)]
  show wpAny _ _ (if _ then _ else _) _ _ _
  rw [if_neg (by simp [hpr])]
  show wpAny _ _ (if _ then _ else _) _ _ _
  rw [if_neg (by simp [hz])]
  show wpAny _ _ (if _ then _ else _) _ _ _
  rw [if_neg (by decide)]
  show wpAny _ _ (if _ then _ else _) _ _ _
  rw [if_neg (by decide)]
  show wpAny _ _ (if _ then _ else _) _ _ _
  rw [if_neg (by simp [hw])]
  have key : intField' f (decide ((n : Int) < 0)) (if f.alt then [] else []) ((Nat.toDigits 2 n).map fun c => (if (98 : Nat) == 88 then c.toUpper else c).toNat) [] 4 = binS n := by
    have hne : ((Nat.toDigits 2 n).map fun c => (if (98 : Nat) == 88 then c.toUpper else c).toNat) = (Nat.toDigits 2 n).map Char.toNat := by simp
    rw [hne, e0, hal]
    unfold intField' binS
    simp only [hw, hgr, hsg, hfi, Bool.false_and, Bool.false_eq_true, if_false]
    split <;> simp_all
  show wpAny _ _ (retStr _) _ _ _
  unfold retStr
  simp only [hal, Bool.false_eq_true, if_false, Int.natAbs_natCast] at key ⊢
  have q1 : (binS n).length ≤ sizeLine := hq.1
  have q2 := hq.2
  rw [← key] at q1 q2
  simp only [intField', hw, hgr, hsg, hfi, Bool.false_and, Bool.false_eq_true, if_false] at q1 q2
  refine wpAny_bind (wpAny_mkStr (wpAny_pure ?_) ?hs2)
  case hs2 =>
    conv => lhs; arg 1; whnf
    simp only [hw, hgr, hsg, hfi, Bool.false_and, Bool.false_eq_true, if_false]
    exact q1
  · dsimp only
    conv => arg 1; arg 1; arg 1; arg 1; whnf
    simp only [hw, hgr, hsg, hfi, Bool.false_and, Bool.false_eq_true, if_false]
    exact q2
end
theorem binS_len (n : Nat) : (binS n).length ≤ n + 1 := by
  show ((Nat.toDigits 2 n).map Char.toNat).toArray.size ≤ _
  rw [List.size_toArray, List.length_map]
  exact tDigits_len_le 2 n
/-- the number of ones among the binary digits -/
def ones : Nat → Nat
  | 0 => 0
  | n + 1 => (n + 1) % 2 + ones ((n + 1) / 2)
decreasing_by omega
theorem ones_eq (n : Nat) : ones n = n % 2 + ones (n / 2) := by
  cases n with
  | zero => simp [ones]
  | succ n => rw [ones]
def oneL (l : List Char) : Nat := (l.filter fun c => c == '1').length
theorem core_ones : ∀ (fuel n : Nat) (ds : List Char), n < fuel → oneL (Nat.toDigitsCore 2 fuel n ds) = ones n + oneL ds
  | 0, n, ds, h => by omega
  | fuel + 1, n, ds, h => by
    rw [Nat.toDigitsCore]
    have hd : oneL ((n % 2).digitChar :: ds) = n % 2 + oneL ds := by
      have h2 : n % 2 = 0 ∨ n % 2 = 1 := by omega
      rcases h2 with e | e
      · rw [e]; simp [oneL, Nat.digitChar]
      · rw [e]; simp [oneL, Nat.digitChar]; omega
    split
    · rename_i hz
      rw [hd, ones_eq n, hz]
      simp [ones]
    · rename_i hz
      rw [core_ones fuel (n / 2) _ (by omega), hd, ones_eq n]
      omega
theorem cnt_map (l : List Char) : cnt 49 (l.map Char.toNat) = (oneL l : Nat) := by
  induction l with
  | nil => rfl
  | cons c r ih =>
    rw [List.map_cons, cnt_cons, ih]
    by_cases h : c = '1'
    · subst h
      simp [oneL]
      omega
    · have hn : ¬ c.toNat = 49 := fun e => h (by
        apply Char.ext
        apply UInt32.toNat_inj.mp
        exact e)
      rw [if_neg hn]
      have : (c == '1') = false := by simpa using h
      simp [oneL, this]
theorem count_bin (n : Nat) : Txt.count (binS n) ⟨#[49]⟩ = (ones n : Nat) := by
  rw [count_is]
  show cnt 49 (binS n).cps.toList = _
  show cnt 49 ((Nat.toDigits 2 n).map Char.toNat) = _
  rw [cnt_map]
  have := core_ones (n + 1) n [] (by omega)
  show ((oneL (Nat.toDigitsCore 2 (n + 1) n []) : Nat) : Int) = _
  rw [this]
  simp [oneL]
end Vc
namespace Vc
open PySem PySem.Spec PyProof.Rows L2
theorem core_len : ∀ (fuel n k : Nat) (ds : List Char), n < 2 ^ k → 1 ≤ k → (Nat.toDigitsCore 2 fuel n ds).length ≤ ds.length + k
  | 0, n, k, ds, _, _ => by rw [Nat.toDigitsCore]; omega
  | fuel + 1, n, k, ds, h, hk => by
    rw [Nat.toDigitsCore]
    split
    · rw [List.length_cons]; omega
    · rename_i hz
      have hk2 : 2 ≤ k := by
        refine Nat.le_of_not_lt fun z => hz ?_
        have e : k = 1 := by omega
        rw [e] at h
        omega
      have h2 : n / 2 < 2 ^ (k - 1) := by
        have e : 2 ^ k = 2 * 2 ^ (k - 1) := by
          rw [← Nat.pow_succ']
          congr 1
          omega
        omega
      have := core_len fuel (n / 2) (k - 1) ((n % 2).digitChar :: ds) h2 (by omega)
      rw [List.length_cons] at this
      omega
theorem binS_le {n k : Nat} (h : n < 2 ^ k) (hk : 1 ≤ k) : (binS n).length ≤ k := by
  show ((Nat.toDigits 2 n).map Char.toNat).toArray.size ≤ _
  rw [List.size_toArray, List.length_map]
  have := core_len (n + 1) n k [] h hk
  show (Nat.toDigitsCore 2 (n + 1) n []).length ≤ k
  simpa using this
/-- the text of a number's binary digits -/
def tBin (te : TE) : TE := fun σ H Q => te σ H fun x H1 => ∃ n : Nat, x = .int (n : Int) ∧ n < 2 ^ 600 ∧ Q (.str (binS n)) H1
def rCount : V → List V → Hp → VK → Prop := fun x xs H Q => ∃ a b, x = .str a ∧ xs = [.str b] ∧ Q (.int (Txt.count a b)) H
section
variable {X : Cx}
theorem pe_fmtB {e : Expr} {te : TE} {k : Nat} {p1 p2 p3 pos : Pos} (he : PE X e te) : PE X (.JoinedStr [.FormattedValue e (-1) (some (.JoinedStr [.Constant (.str (Str.ofString "b")) k p1] p2)) p3] pos) (tBin te) := by
  refine pe_joined1 ⟨fun pins s σ H Q I h => ?_⟩
  refine wpAny_FormattedValue_spec (thn (he.run pins s σ H _ I h) fun u s1 hh => ?_)
  obtain ⟨x, H1, I1, rx, n, rfl, hn, q⟩ := hh
  have sp : PE X (.JoinedStr [.Constant (.str (Str.ofString "b")) k p1] p2) (tC (.str (Str.ofString "b"))) := pe_joined1 pe_str
  refine thn (sp.run pins s1 σ H1 (fun v H2 => v = .str (Str.ofString "b") ∧ H2 = H1) I1 ⟨rfl, rfl⟩) fun r s2 hr => ?_
  obtain ⟨y, H2, I2, ry, rfl, rfl⟩ := hr
  obtain ⟨t2, rfl⟩ := ry
  obtain ⟨t, rfl⟩ := rx
  refine ⟨_, _, rfl, ?_⟩
  refine wpAny_formatField_spec (by decide) (fun s' => typeIs_int s' _ t) PySem.F.slot_int_format PySem.F.entry_int_format PySem.F.args_int_format_2 (fun u => gives_b n t u) ?_ (by decide) ?_
  · exact ⟨.str _, H2, I2.tok _, ⟨_, rfl⟩, q⟩
  · have := binS_le hn (by decide)
    rw [sizeLine_eq]
    omega
theorem mv_count : MtR X "str.count" rCount := mt_count
end
section
variable {σ : L2.St} {H : Hp} {Q : VK} {te : TE}
theorem v_bin (h : te σ H fun x H1 => ∃ n : Nat, x = .int (n : Int) ∧ n < 2 ^ 600 ∧ Q (.str (binS n)) H1) : tBin te σ H Q := h
theorem v_count {n : Nat} (q : Q (.int (ones n : Nat)) H) : rCount (.str (binS n)) [.str (Str.ofString "1")] H Q := ⟨_, _, rfl, rfl, by
  have e : (Str.ofString "1") = ⟨#[49]⟩ := by decide
  rw [e, count_bin]
  exact q⟩
end
/-! ### how many ones -/
theorem ones_le : ∀ (k n : Nat), n < 2 ^ k → ones n ≤ k
  | 0, n, h => by
    have : n = 0 := by simpa using h
    subst this
    simp [ones]
  | k + 1, n, h => by
    have := ones_le k (n / 2) (by rw [Nat.pow_succ] at h; omega)
    rw [ones_eq]
    omega
theorem ones_pos {n : Nat} (h : 0 < n) : 0 < ones n := by
  induction n using Nat.strongRecOn with
  | _ n ih =>
    rw [ones_eq]
    by_cases h2 : n % 2 = 0
    · have := ih (n / 2) (by omega) (by omega)
      omega
    · omega
theorem ones_drop {n : Nat} (h : 0 < n) : ones (n &&& (n - 1)) + 1 = ones n := by
  induction n using Nat.strongRecOn with
  | _ n ih =>
    have hm : ¬ (n &&& (n - 1)) % 2 = 1 := by
      rw [Nat.and_mod_two_eq_one]
      omega
    rw [ones_eq (n &&& (n - 1)), ones_eq n, Nat.and_div_two]
    by_cases ho : n % 2 = 1
    · have e : (n - 1) / 2 = n / 2 := by omega
      rw [e, Nat.and_self]
      omega
    · have e : (n - 1) / 2 = n / 2 - 1 := by omega
      have := ih (n / 2) (by omega) (by omega)
      rw [e]
      omega
theorem and_lt {n : Nat} (h : 0 < n) : n &&& (n - 1) < n := Nat.lt_of_le_of_lt Nat.and_le_right (by omega)
/-- within: as many ones at most, and if as many, then the same -/
theorem ones_sub (a b : Nat) (h : a &&& b = a) : ones a ≤ ones b ∧ (ones a = ones b → a = b) := by
  induction a using Nat.strongRecOn generalizing b with
  | _ a ih =>
    by_cases h0 : a = 0
    · subst h0
      refine ⟨by simp [ones], fun e => ?_⟩
      by_cases hb : b = 0
      · exact hb.symm
      · have := ones_pos (n := b) (by omega)
        simp [ones] at e
        omega
    · have hd : a / 2 &&& b / 2 = a / 2 := by rw [← Nat.and_div_two, h]
      have hm : a % 2 = 1 → b % 2 = 1 := fun e => by
        have e2 : (a &&& b) % 2 = 1 := by rw [h]; exact e
        exact (Nat.and_mod_two_eq_one.mp e2).2
      have := ih (a / 2) (by omega) (b / 2) hd
      rw [ones_eq a, ones_eq b]
      refine ⟨by omega, fun e => ?_⟩
      have e2 := this.2 (by omega)
      omega
/-! ### words that no cut can feign -/
def wholeP (p : Nat) : Prop := p % 1024 = 512 - ones (p / 1024)
def wordD (d : Nat) : Nat := d * 1024 + (512 - ones d)
theorem wordD_div {d : Nat} : wordD d / 1024 = d := by unfold wordD; omega
theorem wordD_mod {d : Nat} : wordD d % 1024 = 512 - ones d := by unfold wordD; omega
theorem wordD_whole (d : Nat) : wholeP (wordD d) := by
  unfold wholeP
  rw [wordD_div, wordD_mod]
theorem wholeP_eq {p : Nat} (h : wholeP p) : p = wordD (p / 1024) := by
  unfold wholeP at h
  unfold wordD
  omega
theorem and_div (a b : Nat) : (a &&& b) / 1024 = a / 1024 &&& b / 1024 := by
  have := Nat.shiftRight_and_distrib (a := a) (b := b) (i := 10)
  simpa [Nat.shiftRight_eq_div_pow] using this
theorem and_mod' (a b : Nat) : (a &&& b) % 1024 = a % 1024 &&& b % 1024 := by
  have := Nat.and_mod_two_pow (a := a) (b := b) (n := 10)
  simpa using this
theorem ones512 {p : Nat} (h : p < 2 ^ 522) : ones (p / 1024) ≤ 512 := ones_le 512 _ (by
  have e : (2 : Nat) ^ 522 = 1024 * 2 ^ 512 := by rw [show (1024 : Nat) = 2 ^ 10 by decide, ← Nat.pow_add]
  rw [e] at h
  exact Nat.div_lt_of_lt_mul h)
/-- of two whole words, one within the other one, both are the same -/
theorem berger {p q : Nat} (hp : wholeP p) (hq : wholeP q) (p2 : p < 2 ^ 522) (q2 : q < 2 ^ 522) (h : p &&& q = p) : p = q := by
  have e1 : p / 1024 &&& q / 1024 = p / 1024 := by rw [← and_div, h]
  have e2 : p % 1024 &&& q % 1024 = p % 1024 := by rw [← and_mod', h]
  have l : p % 1024 ≤ q % 1024 := by
    rw [← e2]
    exact Nat.and_le_right
  have s := ones_sub _ _ e1
  have a := ones512 p2
  have b := ones512 q2
  unfold wholeP at hp hq
  have := s.2 (by omega)
  omega
theorem wordD_lt {d : Nat} (h : d < 2 ^ 512) : wordD d < 2 ^ 522 := by
  have e : (2 : Nat) ^ 522 = 2 ^ 512 * 1024 := by rw [show (1024 : Nat) = 2 ^ 10 by decide, ← Nat.pow_add]
  rw [e]
  have := Nat.mul_le_mul_right 1024 (show d + 1 ≤ 2 ^ 512 by omega)
  unfold wordD
  omega
/-- the word is within what is left: whole exactly if it is the word -/
theorem whole_iff {p x : Nat} (hp : wholeP p) (p2 : p < 2 ^ 522) (x2 : x < 2 ^ 522) (h : p &&& x = p) : wholeP x ↔ x = p := by
  constructor
  · intro hx
    exact (berger hp hx p2 x2 h).symm
  · intro e
    rw [e]
    exact hp
end Vc
namespace Vc
open PySem PySem.Spec PyProof.Rows L2
theorem v_while {c : TT} {tb : TS} {D : Ends} {σ : L2.St} {H : Hp} (h : ∃ W : Nat → L2.St → Hp → Prop, (∃ m, W m σ H) ∧ ∀ m σ H, W m σ H →
  c σ H fun b H1 => if b = true then ∃ N : L2.St → Hp → Prop, (∀ σ' H', N σ' H' → ∃ m', m' < m ∧ W m' σ' H') ∧ tb { D with nx := N, ct := N, bk := D.nx } σ H1 else D.nx σ H1) : tWhile c tb D σ H := h
theorem pylong {i : Int} {k b : Nat} (h : k < 2 ^ b) (h0 : 0 < b) (h9 : b ≤ 9000) : Builtin.divisionGoesByPylong i (k : Int) = false :=
  PyProof.noPylong_of_log2 (Nat.lt_of_lt_of_le (PySem.Flt.log2_lt_of h0 (by rw [Int.natAbs_natCast]; exact h)) h9)
theorem nd (x y : Nat) : decide ((x : Int) = (y : Int)) = decide (x = y) := by simp [Int.natCast_inj]
theorem ndn (x y : Nat) : decide ((x : Int) ≠ (y : Int)) = decide (x ≠ y) := by simp [Int.natCast_inj]
theorem ndl (x y : Nat) : decide ((x : Int) < (y : Int)) = decide (x < y) := by simp
theorem shlN (d k : Nat) : (d : Int) * 2 ^ ((k : Int).toNat) = ((d * 2 ^ k : Nat) : Int) := by
  rw [Int.toNat_natCast, Int.natCast_mul, PySem.W.kbt_cast]
theorem shlP (k : Nat) : (1 : Int) * 2 ^ k = ((2 ^ k : Nat) : Int) := by
  rw [Int.one_mul, PySem.W.kbt_cast]
theorem shl_okN {d j n : Nat} (h : d < 2 ^ n) (hn : n + j ≤ 134217728) : CShl (d : Int) (j : Int) := shl_ok (n := n) (by rw [Int.natAbs_natCast]; exact h) hn
theorem shrN (d k : Nat) : (d : Int) / 2 ^ ((k : Int).toNat) = ((d / 2 ^ k : Nat) : Int) := by
  rw [Int.toNat_natCast, show (2 : Int) ^ k = ((2 ^ k : Nat) : Int) from (PySem.W.kbt_cast k).symm, Int.natCast_ediv]
theorem atI_mem {xs : List V} {i : Nat} (h : i < xs.length) : ∃ x, x ∈ xs ∧ atI xs (i : Int) = some x := ⟨xs[i], List.getElem_mem h, atI_nat (List.getElem?_eq_getElem h)⟩
theorem Same.toSx {W : Addr} {H H' : Hp} (s : Same H H') : Sx W H H' := Sx.of s
/-- the numbers of a row as data -/
def fold (ns : List Nat) : Nat := ns.foldl (fun d x => d * 65536 + x) ns.length
def dataOf (ns : List Nat) : Nat := fold ns * 2 ^ (16 * (31 - ns.length))
theorem foldl_lt : ∀ (ns : List Nat) (d k : Nat), (∀ n ∈ ns, n < 65536) → d < 65536 ^ k → ns.foldl (fun d x => d * 65536 + x) d < 65536 ^ (k + ns.length)
  | [], d, k, _, h => by simpa using h
  | n :: ns, d, k, hn, h => by
    have h1 : n < 65536 := hn n List.mem_cons_self
    have h2 : d * 65536 + n < 65536 ^ (k + 1) := by
      rw [Nat.pow_succ]
      have := Nat.mul_le_mul_right 65536 (show d + 1 ≤ 65536 ^ k by omega)
      omega
    have := foldl_lt ns (d * 65536 + n) (k + 1) (fun m hm => hn m (List.mem_cons_of_mem _ hm)) h2
    rw [List.foldl_cons, List.length_cons, show k + (ns.length + 1) = k + 1 + ns.length by omega]
    exact this
theorem fold_lt {ns : List Nat} (hn : ∀ n ∈ ns, n < 65536) (hl : ns.length ≤ 31) : fold ns < 65536 ^ (1 + ns.length) := foldl_lt ns _ 1 hn (by omega)
theorem dataOf_lt {ns : List Nat} (hn : ∀ n ∈ ns, n < 65536) (hl : ns.length ≤ 31) : dataOf ns < 2 ^ 512 := by
  have h := fold_lt hn hl
  unfold dataOf
  have e : (2 : Nat) ^ 512 = 65536 ^ (1 + ns.length) * 2 ^ (16 * (31 - ns.length)) := by
    rw [show (65536 : Nat) = 2 ^ 16 by decide, ← Nat.pow_mul, ← Nat.pow_add]
    congr 1
    omega
  rw [e]
  exact Nat.mul_lt_mul_of_pos_right h (Nat.pow_pos (by decide))
theorem fold_big {ns : List Nat} (hn : ∀ n ∈ ns, n < 65536) (hl : ns.length ≤ 31) : fold ns < 2 ^ 512 := by
  refine Nat.lt_of_lt_of_le (fold_lt hn hl) ?_
  rw [show (65536 : Nat) = 2 ^ 16 by decide, ← Nat.pow_mul]
  exact Nat.pow_le_pow_right (by decide) (by omega)
end Vc
namespace Vc
open PySem PySem.Spec PyProof.Rows L2
theorem sqT_sx {K : PySem.W.Frag} {tl : List V} {W p : Addr} {H H' : Hp} {xs : List V} (h : SqT K H p xs) (w : Wl tl H W) (s : Sx W H H') : SqT K H' p xs := by
  obtain ⟨a, b, c, e⟩ := w
  rcases h with (h | ⟨o, h⟩) | h
  · exact .inl (.inl (s _ _ (fun z => by rw [z, e] at h; cases h) h))
  · exact .inl (.inr ⟨o, s _ _ (fun z => by rw [z, e] at h; cases h) h⟩)
  · exact .inr h
theorem sqL_sx {K : PySem.W.Frag} {W p : Addr} {H H' : Hp} {xs : List V} (h : SqL K H p xs) (n : p ≠ W) (s : Sx W H H') : SqL K H' p xs := by
  rcases h with (h | ⟨o, h⟩) | h
  · exact .inl (.inl (s _ _ n h))
  · exact .inl (.inr ⟨o, s _ _ n h⟩)
  · exact .inr h
theorem fold_take {ns : List Nat} {i n d : Nat} (h : ns[i]? = some n) : (ns.take (i + 1)).foldl (fun d x => d * 65536 + x) d = (ns.take i).foldl (fun d x => d * 65536 + x) d * 65536 + n := by
  rw [List.take_add_one, h, List.foldl_append]
  rfl
abbrev vN : Nat → V := fun n => V.int (n : Int)
theorem vN_get {ns : List Nat} {i : Nat} {x : V} (h : (ns.map vN)[i]? = some x) : ∃ n, ns[i]? = some n ∧ x = vN n := by
  rw [List.getElem?_map] at h
  cases e : ns[i]? with
  | none => rw [e] at h; cases h
  | some n => rw [e] at h; exact ⟨n, rfl, (Option.some.inj h).symm⟩
theorem small_of {x : V} {m : Nat} {ks : List Nat} (hk : ∀ k ∈ ks, k ≤ m) (h : x ∈ ks.map vN) : ∃ n : Nat, n ≤ m ∧ x = V.int (n : Int) := by
  obtain ⟨n, hn, e⟩ := List.mem_map.mp h
  exact ⟨n, hk n hn, e.symm⟩
end Vc
namespace Vc
open PySem PySem.Spec PyProof.Rows L2
/-- two ways to what P says -/
theorem v_joinP {H : Hp} {Q : VK} {σ : L2.St} {c : Bool} {ta tb : TE} (P : V → Hp → Prop) (ha : c = true → ∀ Q' : VK, (∀ v H', P v H' → Q' v H') → ta σ H Q') (hb : c = false → ∀ Q' : VK, (∀ v H', P v H' → Q' v H') → tb σ H Q') (h : ∀ v H', P v H' → Q v H') : if c = true then ta σ H Q else tb σ H Q := by
  cases c with
  | true => simpa using ha rfl Q h
  | false => simpa using hb rfl Q h
theorem v_neB {a b : Bool} {H : Hp} {Q : VK} (h : Q (.bl (!decide (a = b))) H) : rNotB (.bl a) (.bl b) H Q := ⟨a, b, rfl, rfl, h⟩
theorem v_isB {a b : Bool} {H : Hp} {Q : VK} (h : Q (.bl (decide (a = b))) H) : rIsB (.bl a) (.bl b) H Q := ⟨a, b, rfl, rfl, h⟩
theorem v_notN {x : V} {H : Hp} {Q : VK} (h : Q (.bl (!decide (x = .non))) H) : (fun (x y : V) (H : Hp) (Q : VK) => y = .non ∧ Q (.bl (!decide (x = .non))) H) x .non H Q := ⟨rfl, h⟩
end Vc
namespace Vc
open PySem PySem.Spec PyProof.Rows L2
/-! ### range(i, j, c) as a value -/
def RgO (p : Addr) (i j c : Int) : HO := .ext fun h => ∃ t u v, IsRange h p i j c t u v
theorem rgO_ok {P : Program} {w : World} {H : Hp} {h : Heap} {p : Addr} {i j c : Int} {t u v : Tok} (e : IsRange h p i j c t u v) : ObjOk P w H h p (RgO p i j c) :=
  ⟨⟨t, u, v, e⟩, ⟨_, e⟩, fun _ _ ⟨t, u, v, e⟩ k => ⟨t, u, v, k _ e⟩⟩
def rRange3 : List V → Hp → VK → Prop := fun xs H Q => ∃ i j c, xs = [.int i, .int j, .int c] ∧ c ≠ 0 ∧ c.natAbs < 1073741824 ∧ ∀ p, H p = none → Q (.ref p) (upd H p (RgO p i j c))
def iRgv (te : TE) : TI := fun σ H R => te σ H fun x H1 => ∃ (p : Addr) (i j c : Int) (n : Nat), x = .ref p ∧ H1 p = some (RgO p i j c) ∧ RgC i j c n ∧ R (Itc i c n) H1
section
variable {X : Cx}
theorem cv_range3 : CallR X (.type "range") rRange3 := by
  intro pins s σ H xs us Q I r h
  obtain ⟨i, j, c, rfl, c0, c1, q⟩ := h
  cases r with
  | cons r rr =>
    cases rr with
    | cons r' rr =>
      cases rr with
      | cons r'' rr =>
        cases rr
        obtain ⟨t, rfl⟩ := r
        obtain ⟨t', rfl⟩ := r'
        obtain ⟨t'', rfl⟩ := r''
        refine call_range_3 c0 ?_ (.inl (PyProof.noPylong_small c1))
        exact ⟨.ref s.heap.objs.size, _, I.laid (t' := s.toks) (fun b u e => Heap.get?_push_of_some _ e) (Nat.le_refl _) (rgO_ok (IsRange.new ..)), rfl, q _ (I.hok.fresh (Nat.le_refl _))⟩
theorem pi_rgv {tg e : Expr} {te : TE} (he : PE X e te) : PI X tg e (iRgv te) := by
  refine ⟨fun pins s σ H R I h => ?_⟩
  refine thn (he.run pins s σ H _ I h) fun v s1 ⟨x, H1, I1, r1, q1⟩ => ?_
  obtain ⟨p, i, j, k, n, e1, hp, ⟨c0, c1, c2, c3⟩, q⟩ := q1
  subst e1
  cases r1
  obtain ⟨⟨t, u, v, hr⟩, _⟩ := I1.hok _ _ hp
  refine wpAny_pyIter_range hr c2 ?_
  refine pi_one (tk := s1.toks) I1 _ (turn_rangeC _ i k n) ?_ q
  have e1 : i + ((0 : Nat) : Int) * k = i := by simp
  have e2 : (n : Int) - ((0 : Nat) : Int) = Builtin.Range.rangeSize i j k := by rw [c3]; simp
  show IsRangeIter _ _ (i + ((0 : Nat) : Int) * k) ((n : Int) - ((0 : Nat) : Int)) k
  rw [e1, e2]
  exact Heap.get?_push_size _ rfl
end
theorem v_iRgv {te : TE} {σ : L2.St} {H : Hp} {R : It → Hp → Prop} (h : te σ H fun x H1 => ∃ (p : Addr) (i j c : Int) (n : Nat), x = .ref p ∧ H1 p = some (RgO p i j c) ∧ RgC i j c n ∧ R (Itc i c n) H1) : iRgv te σ H R := h
theorem lc_rangeC {lo c : Int} {n : Nat} {g : TG} {tt : TT} {te : TE} {vs : List Nat} {σ : L2.St} {H1 : Hp} {D : Addr} {Qd : Hp → Prop} (Pv : Nat → Hp → Prop) (h0 : Pv 0 (upd H1 D (.lst [])))
    (hs : ∀ i H, i < n → Pv i H → g (.int (lo + i * c)) (wipe σ vs) H fun σ2 H2 => wipe σ2 vs = wipe σ vs ∧ tt σ2 H2 fun b H3 =>
      if b = true then te σ2 H3 fun y H4 => ∃ acc, H4 D = some (.lst acc) ∧ acc.length < sizeLine ∧ Pv (i + 1) (upd H4 D (.lst (acc ++ [y]))) else Pv (i + 1) H3) (hd : ∀ H, Pv n H → Qd H) :
    ∃ W : Nat → Nat → Hp → Prop, (∃ m, W 0 m (upd H1 D (.lst []))) ∧ ∀ i m H, W i m H →
      ((Itc lo c n).stop i H ∧ Qd H) ∨ ((Itc lo c n).go i H ∧ ∃ Nx : Hp → Prop, (∀ H', Nx H' → ∃ m', m' < m ∧ W (i + 1) m' H') ∧ ∀ x H', (Itc lo c n).yld i H x H' → g x (wipe σ vs) H' fun σ2 H2 => wipe σ2 vs = wipe σ vs ∧ tt σ2 H2 fun b H3 =>
        if b = true then te σ2 H3 fun y H4 => ∃ acc, H4 D = some (.lst acc) ∧ acc.length < sizeLine ∧ Nx (upd H4 D (.lst (acc ++ [y]))) else Nx H3) := by
  refine ⟨fun i m H => m = n - i ∧ i ≤ n ∧ Pv i H, ⟨n, by simp, Nat.zero_le _, h0⟩, ?_⟩
  rintro i m H ⟨rfl, hi, p⟩
  by_cases hlt : i < n
  · refine .inr ⟨hlt, Pv (i + 1), fun H' p' => ⟨n - (i + 1), by omega, rfl, hlt, p'⟩, fun x H' y => ?_⟩
    obtain ⟨e, y⟩ := y
    subst e y
    exact hs i _ hlt p
  · have e : i = n := by omega
    subst e
    exact .inl ⟨Nat.le_refl _, hd H p⟩
/-! ### a, *b = a tuple -/
theorem tuple_from {prog : Program} {w : World} {A : Around} (hh : A.handled = none) (I ax : Addr) (hne : ax ≠ I) (x : Value) (items : List Value) :
    Walks prog w A I [I, ax] [I] items.length (fun i v => items[i]? = some v) (fun i h => h.IsTupleIter I ax (1 + i) ∧ h.IsTuple ax (x :: items).toArray) where
  sub := fun b hb => by simp at hb; simp [hb]
  frame := fun _ _ _ st hk => ⟨st.1.at fun o e => hk I (by simp) o e, st.2.at fun o e => hk ax (by simp) o e⟩
  item := fun i s Q E hi st hQ => by
    refine wpAny_pyNext_tuple_item st.1 st.2 (x := items[i]) (by simp [Nat.add_comm 1 i, hi]) fun h' hit' hs' => ?_
    exact hQ _ h' s.toks (by simp [hi]) ⟨by rw [← Nat.add_assoc]; exact hit', st.2.extBut hs'.extBut hne⟩ fun b o hb e => hs'.extBut b o (fun h => hb (by simp [h])) e
  done := fun s Q E st hQ => wpAny_pyNext_tuple_end hh st.1 st.2 (by simp [Nat.add_comm 1]) fun h' he' => hQ h' s.toks fun b o hb e => he' b o (fun h => hb (by simp [h])) e
  self := fun _ _ _ _ st hQ => wpAny_pyIter_tupleiter st.1 hQ
def gHead (K : PySem.W.Frag) (g1 g2 : TG) : TG := fun v σ H Q => ∃ a x xs, v = .ref a ∧ SqT K H a (x :: xs) ∧ xs.length ≤ 1000 ∧ ∀ l, H l = none → g1 x σ (upd H l (.lst xs)) fun σ1 H1 => g2 (.ref l) σ1 H1 Q
section
variable {X : Cx}
theorem pg_head {t1 t2 : Expr} {p2 pos : Pos} {k : Nat} {g1 g2 : TG} (hc : X.calm = true) (h1 : PG X t1 g1) (h2 : PG X t2 g2)
    (hs : assignEach [t1, .Starred t2 p2] X.env = [(false, assign t1 X.env), (true, assign t2 X.env)] := by rfl) : PG X (.Tuple [t1, .Starred t2 p2] k pos) (gHead X.K g1 g2) := by
  refine ⟨fun pins s σ H v u Q I r hw => ?_⟩
  obtain ⟨a, x, xs, e1, hq, hl, hw⟩ := hw
  subst e1
  cases r
  obtain ⟨its, rv, ht, hz⟩ := I.tuple hq
  cases rv with
  | cons rx rxs =>
    rename_i ux uxs
    have hlt : a ≠ s.heap.objs.size := by obtain ⟨o, ho, _⟩ := ht; exact Nat.ne_of_lt (Heap.lt_size ho)
    rw [assign_Tuple]
    refine wpAny_bind (wpAny_standAt ?_)
    unfold unpack
    rw [hs]
    refine wpAny_bind (wpAny_holding ?_)
    show wpAny _ _ (unpackItems (.ref a) 2 (some 1)) _ _ _
    unfold unpackItems
    refine wpAny_bind ?_
    unfold notIterableAtAll
    refine wpAny_bind (wpAny_specialOf ht.typeIs slot_tuple_iter.lookup ?_)
    refine wpAny_pure ?_
    simp only [Bool.false_eq_true, if_false]
    refine wpAny_bind (wpAny_holding (iter_tuple ht ?_))
    refine wpAny_bind (wpAny_holding (draw_tuple hlt 1 0 _ _ ⟨_, Heap.get?_push_size _ rfl, rfl, rfl⟩ (ht.push _) (by simp) fun h₁ hit₁ hs₁ => ?_))
    have e0 : List.take 1 (List.drop 0 ((ux :: uxs).toArray.toList)) = [ux] := by simp
    rw [e0]
    rw [if_neg (by simp)]
    have ht₁ : IsTup h₁ a (ux :: uxs).toArray := (ht.push _).extBut hs₁.extBut hlt
    have hz1 : s.heap.objs.size < h₁.objs.size := by obtain ⟨o, ho, _⟩ := hit₁; exact Heap.lt_size ho
    refine wpAny_bind (wpAny_holding (wpAny_collect_iter (.inr (.inr (.inr rfl))) (tuple_from (A := X.A.in1) (I.ok.hd hc) s.heap.objs.size a hlt ux uxs).toS (fun _ _ st => Heap.IsTupleIter.typeIs st.1) ⟨hit₁, ht₁⟩ (fun b hb => ?_) (List.mem_cons_self) (fun s' acc hm ha => ?_) ?_))
    · rcases List.mem_cons.mp hb with rfl | hb
      · exact hz1
      · rw [List.mem_singleton.mp hb]
        obtain ⟨o, ho, _⟩ := ht₁
        exact Heap.lt_size ho
    · have ea : acc.toList = uxs := by
        obtain ⟨n1, n2⟩ := ha
        refine List.ext_getElem? fun i => ?_
        cases e : acc[i]? with
        | some y => rw [n2 i y e, Array.getElem?_toList, e]
        | none =>
          have : acc.size ≤ i := by simpa using e
          rw [List.getElem?_eq_none (by simpa using this), List.getElem?_eq_none (by omega)]
      rw [ea]
      rw [if_neg (by simp)]
      have kk : ∀ b o, s.heap.get? b = some o → s'.heap.get? b = some o := fun b o e => hm.heap b o (fun z => by
        rw [List.mem_singleton.mp z] at e
        exact absurd (Heap.lt_size e) (Nat.lt_irrefl _)) (hs₁.extBut b o (Nat.ne_of_lt (Heap.lt_size e)) (Heap.get?_push_of_some _ e))
      rw [show 2 - 1 - 1 = 0 from rfl, Nat.sub_zero, List.take_length, List.drop_length]
      have I1 : Inv X pins σ H s' := by
        have q := I.kept (t' := s'.toks) kk
        obtain ⟨hp', g', d', tk', os'⟩ := s'
        have e2 : g' = s.gens := hm.gens
        have e3 : d' = s.drawn := hm.drawn
        have e4 : os' = s.os := hm.os
        subst e2 e3 e4
        exact q
      refine wpAny_bind (wpAny_newList ?_ ?_)
      · refine wpAny_pure ?_
        have I2 : Inv X pins σ (upd H s'.heap.objs.size (.lst xs)) { s' with heap := s'.heap.push { cls := .type "list", data := .seq uxs.toArray } } :=
          I1.laid (t' := s'.toks) (fun b u e => Heap.get?_push_of_some _ e) (Nat.le_refl _) (show ObjOk X.prog X.w _ _ _ (.lst xs) from ⟨Nat.le_trans hl (by decide), uxs, _, rxs, Heap.get?_push_size _ rfl⟩)
        show wpAny _ _ (assignInOrder [assign t1 X.env, assign t2 X.env] [ux, .ref s'.heap.objs.size]) _ _ _
        refine assignInOrder_cons (thn (h1.run pins _ σ _ x ux _ I2 rx (hw _ (I1.hok.fresh (Nat.le_refl _)))) fun _ s3 ⟨σ3, H3, I3, q3⟩ => ?_)
        refine assignInOrder_cons (thn (h2.run pins s3 σ3 H3 (.ref s'.heap.objs.size) _ _ I3 rfl q3) fun _ s4 ⟨σ4, H4, I4, q4⟩ => ?_)
        exact assignInOrder_nil ⟨σ4, H4, I4, q4⟩
      · rw [← rxs.length]
        exact Nat.le_trans hl (by decide)
    · rw [← rxs.length]
      exact Nat.le_trans hl (by decide)
end
/-! ### any, of ints by their truth -/
def rAnyI (K : PySem.W.Frag) : List V → Hp → VK → Prop := fun vs H Q => ∃ (a : Addr) (ns : List Int), vs = [V.ref a] ∧ SqL K H a (ns.map V.int) ∧ Q (.bl (ns.any (· ≠ 0))) H
section
variable {X : Cx}
theorem truth_ints {prog : Program} {w : World} {A : Around} {ns : List Int} {its : List Value} (e : Vals (ns.map V.int) its) :
    TruthOf prog w A (fun i v => its.toArray[i]? = some v) (fun i => (ns.map fun z => decide (z ≠ 0)).getD i false) := fun i v s Q E hv hq => by
  have hv' : its[i]? = some v := by simpa using hv
  have hi : i < its.length := by
    rcases Nat.lt_or_ge i its.length with h | h
    · exact h
    · rw [List.getElem?_eq_none h] at hv'; cases hv'
  have el := Paired.length e
  rw [List.length_map] at el
  have hn : ns[i]? = some (ns[i]'(by omega)) := List.getElem?_eq_getElem (by omega)
  generalize ns[i]'(by omega) = n at hn
  obtain ⟨w', hw, rw'⟩ := Vals.get e (i := i) (by rw [List.getElem?_map, hn]; rfl)
  rw [hv'] at hw
  cases hw
  obtain ⟨t, rfl⟩ := rw'
  have hg : (ns.map (fun z => decide (z ≠ 0))).getD i false = (n != 0) := by rw [List.getD_eq_getElem?_getD, List.getElem?_map, hn, bne, Option.map_some, Option.getD_some]; by_cases h : n = 0 <;> simp [h]
  have hq' : Q ((ns.map (fun z => decide (z ≠ 0))).getD i false) s := hq
  rw [hg] at hq'
  exact PyProof.Rows.truthy_int hq'
theorem cr_anyI (hc : X.calm = true) : CallR X (.builtin "any") (rAnyI X.K) := by
  intro pins s σ H vs us Q I r h
  obtain ⟨a, ns, rfl, hs, q⟩ := h
  obtain ⟨its, rv, hl, _⟩ := I.list hs
  rw [Vals.ref1 r]
  refine call_any_walk (iter_any hl.isList fun s₂ e2 st hne => ?_)
  subst e2
  refine ⟨_, _, _, _, _, _, _, rfl, Walks.list (A := X.A.in1) (I.ok.hd hc) _ a hne its.toArray, st, truth_ints rv, fun h' tk hk => ?_⟩
  refine ⟨.bl _, H, I.kept fun b o eo => hk b o (fun hmem => ?_) (Heap.get?_push_of_some _ eo), ?_, q⟩
  · rcases List.mem_cons.mp hmem with e1 | hmem
    · exact absurd (e1 ▸ Heap.lt_size eo) (Nat.lt_irrefl _)
    · cases hmem
  · show Value.bool _ = Value.bool _
    have e := rv.length
    rw [List.length_map] at e
    rw [show ns.any (fun z => decide (z ≠ 0)) = (ns.map fun z => decide (z ≠ 0)).any id by rw [List.any_map]; rfl, ← L2.any_range, List.size_toArray, List.length_map, ← e]
end
theorem v_rng3 {i j c : Int} {H : Hp} {Q : VK} (c0 : c ≠ 0) (c1 : c.natAbs < 1073741824) (q : ∀ p, H p = none → Q (.ref p) (upd H p (RgO p i j c))) : rRange3 [.int i, .int j, .int c] H Q := ⟨i, j, c, rfl, c0, c1, q⟩
theorem v_anyI {K : PySem.W.Frag} {H : Hp} {Q : VK} {p : Addr} {ns : List Int} (h : SqL K H p (ns.map V.int)) (q : Q (.bl (ns.any (· ≠ 0))) H) : rAnyI K [.ref p] H Q := ⟨p, ns, rfl, h, q⟩
theorem v_head {K : PySem.W.Frag} {g1 g2 : TG} {a : Addr} {x : V} {xs : List V} {σ : L2.St} {H : Hp} {Q : L2.St → Hp → Prop} (h : SqT K H a (x :: xs)) (hl : xs.length ≤ 1000) (q : ∀ (l : Addr) (H' : Hp), H l = none → Same H H' → H' l = some (.lst xs) → g1 x σ H' fun σ1 H1 => g2 (.ref l) σ1 H1 Q) : gHead K g1 g2 (.ref a) σ H Q :=
  ⟨a, x, xs, rfl, h, hl, fun l hl => q l _ hl (same_new hl) upd_same⟩
/-! ### the units of data -/
theorem fold_split : ∀ (B : List Nat) (d : Nat), B.foldl (fun d x => d * 65536 + x) d = d * 65536 ^ B.length + B.foldl (fun d x => d * 65536 + x) 0
  | [], d => by simp
  | b :: B, d => by
    rw [List.foldl_cons, List.foldl_cons, fold_split B (d * 65536 + b), fold_split B (0 * 65536 + b), List.length_cons, Nat.pow_succ]
    rw [Nat.zero_mul, Nat.zero_add, Nat.add_mul, Nat.mul_assoc, Nat.mul_comm 65536 (65536 ^ B.length)]
    omega
theorem digit {A B : List Nat} {x : Nat} (hx : x < 65536) (hB : ∀ n ∈ B, n < 65536) :
    (A ++ x :: B).foldl (fun d x => d * 65536 + x) 0 / 65536 ^ B.length % 65536 = x := by
  have hb := foldl_lt B 0 0 hB (by decide)
  rw [Nat.zero_add] at hb
  rw [List.foldl_append, List.foldl_cons, fold_split B]
  rw [Nat.add_comm, Nat.add_mul_div_right _ _ (Nat.pow_pos (by decide)), Nat.div_eq_of_lt hb, Nat.zero_add]
  omega
theorem fold_zeros : ∀ (k d : Nat), (List.replicate k 0).foldl (fun d x => d * 65536 + x) d = d * 65536 ^ k
  | 0, d => by simp
  | k + 1, d => by
    rw [List.replicate_succ, List.foldl_cons, fold_zeros k, Nat.add_zero, Nat.pow_succ, Nat.mul_assoc, Nat.mul_comm 65536]
def rowU (ns : List Nat) : List Nat := ns.length :: ns ++ List.replicate (31 - ns.length) 0
theorem dataOf_units (ns : List Nat) : dataOf ns = (rowU ns).foldl (fun d x => d * 65536 + x) 0 := by
  unfold dataOf rowU fold
  rw [List.foldl_append, List.foldl_cons, fold_zeros, Nat.zero_mul, Nat.zero_add, show (65536 : Nat) = 2 ^ 16 by decide, ← Nat.pow_mul]
theorem rowU_lt {ns : List Nat} (hn : ∀ n ∈ ns, n < 65536) (hl : ns.length ≤ 31) : ∀ n ∈ rowU ns, n < 65536 := by
  intro n h
  unfold rowU at h
  rcases List.mem_append.mp h with h | h
  · rcases List.mem_cons.mp h with rfl | h
    · omega
    · exact hn n h
  · rw [(List.mem_replicate.mp h).2]
    decide
theorem rowU_len {ns : List Nat} (hl : ns.length ≤ 31) : (rowU ns).length = 32 := by
  unfold rowU
  rw [List.length_append, List.length_cons, List.length_replicate]
  omega
theorem unit_at {ns : List Nat} (hn : ∀ n ∈ ns, n < 65536) (hl : ns.length ≤ 31) {i x : Nat} (h : (rowU ns)[i]? = some x) : wordD (dataOf ns) / 2 ^ (506 - 16 * i) % 65536 = x := by
  have hi : i < 32 := by
    rw [← rowU_len hl]
    rcases Nat.lt_or_ge i (rowU ns).length with h' | h'
    · exact h'
    · rw [List.getElem?_eq_none h'] at h; cases h
  have hlt := rowU_lt hn hl
  have e : rowU ns = (rowU ns).take i ++ x :: (rowU ns).drop (i + 1) := by
    have hi' : i < (rowU ns).length := by rw [rowU_len hl]; exact hi
    rw [List.getElem?_eq_getElem hi'] at h
    have h2 := Option.some.inj h
    rw [← h2, List.getElem_cons_drop, List.take_append_drop]
  have hB : ((rowU ns).drop (i + 1)).length = 31 - i := by
    rw [List.length_drop, rowU_len hl]
    omega
  have d := digit (A := (rowU ns).take i) (x := x) (B := (rowU ns).drop (i + 1)) (hlt x (List.mem_of_getElem? h)) (fun n hn => hlt n (List.mem_of_mem_drop hn))
  rw [← e, ← dataOf_units, hB] at d
  rw [show 2 ^ (506 - 16 * i) = 1024 * 65536 ^ (31 - i) by
    rw [show (65536 : Nat) = 2 ^ 16 by decide, show (1024 : Nat) = 2 ^ 10 by decide, ← Nat.pow_mul, ← Nat.pow_add]
    congr 1
    omega]
  rw [← Nat.div_div_eq_div_mul, wordD_div]
  exact d
theorem unit_row {ns : List Nat} (hn : ∀ n ∈ ns, n < 65536) (hl : ns.length ≤ 31) : (List.range 32).map (fun i => wordD (dataOf ns) / 2 ^ (506 - 16 * i) % 65536) = rowU ns := by
  refine List.ext_getElem? fun i => ?_
  rw [List.getElem?_map]
  rcases Nat.lt_or_ge i 32 with hi | hi
  · have hi' : i < (rowU ns).length := by rw [rowU_len hl]; exact hi
    rw [List.getElem?_range hi, Option.map_some, List.getElem?_eq_getElem hi', unit_at hn hl (List.getElem?_eq_getElem hi')]
  · rw [List.getElem?_eq_none (by rw [List.length_range]; exact hi), List.getElem?_eq_none (by rw [rowU_len hl]; exact hi), Option.map_none]
theorem cut_from (xs ys : List V) (k : Nat) (h : xs.length = k) : cutV (xs ++ ys) (some (k : Int)) none = ys := by
  have e : HT.sIx (xs ++ ys).length 0 (some (k : Int)) = k := by
    rw [HT.sIx_nat, List.length_append]
    omega
  have e2 : HT.sIx (xs ++ ys).length (xs ++ ys).length none = (xs ++ ys).length := rfl
  unfold cutV
  rw [e, e2, ← h, List.drop_left, List.length_append, List.take_of_length_le (by omega)]
theorem cut_to (xs ys : List V) (k : Nat) (h : xs.length = k) : cutV (xs ++ ys) none (some (k : Int)) = xs := by
  have e : HT.sIx (xs ++ ys).length (xs ++ ys).length (some (k : Int)) = k := by
    rw [HT.sIx_nat, List.length_append]
    omega
  have e2 : HT.sIx (xs ++ ys).length 0 none = 0 := rfl
  unfold cutV
  rw [e, e2, ← h, List.drop_zero, Nat.sub_zero, List.take_left]
end Vc
namespace Vc
open PySem PySem.Spec PyProof.Rows L2
/-! ### enumerate(a tuple) -/
section
variable {prog : Program} {w : World} {A : Around} {E : Value → Shared → Prop} {s : Shared}
theorem tup_next {j a : Addr} {i : Nat} {xs : Array Value} {v : Value} {Q : Value → Shared → Prop} (hj : IsTupIter s.heap j a i) (ha : IsTup s.heap a xs) (hv : xs[i]? = some v)
    (q : ∀ h', IsTupIter h' j a (i + 1) → Heap.SameBut j s.heap h' → Q v { s with heap := h' }) : wpAny (model prog w) A (Builtin.SmallTypes.nextOf (.ref j)) Q E s := by
  obtain ⟨oj, gj, cj, dj⟩ := id hj
  obtain ⟨oa, ga, _, na, da⟩ := ha
  unfold Builtin.SmallTypes.nextOf
  refine wpAny_bind (wpAny_callSpecial?_slot (name := Str.ofString "__next__") hj.typeIs slot_tupleiter_next (wpAny_call_entry slot_tupleiter_next hj.typeIs entry_tupleiter_next ?_ (args_tupleiter_next _)))
  show wpAny _ _ (field (.ref j) 0 >>= _) _ _ s
  refine wpAny_bind (wpAny_field gj dj (x := .ref a) rfl ?_)
  show wpAny _ _ (if (Value.ref a == Value.none) = true then _ else _) _ _ s
  rw [if_neg (show ¬ ((Value.ref a == Value.none) = true) from Bool.false_ne_true)]
  show wpAny _ _ (field (.ref j) 1 >>= _) _ _ s
  refine wpAny_bind (wpAny_field gj dj (x := .int i 0) rfl ?_)
  show wpAny _ _ (seqItems? (.ref a) >>= _) _ _ s
  refine wpAny_bind (wpAny_seqItems ga da ?_)
  simp only [Int.toNat_natCast, hv]
  refine wpAny_bind (wpAny_setField gj dj (by simp) (wpAny_pure ⟨v, rfl, wpAny_pure (q _ ⟨_, Heap.get?_update_self _ gj (Obj.isFreed_of_fields (Obj.data_mapFields dj _)), (Obj.cls_mapFields ..).trans cj, ?_⟩ (Heap.SameBut.update ..))⟩))
  rw [Obj.data_mapFields dj]
  simp [rawInt]
theorem tup_last {j a : Addr} {i : Nat} {xs : Array Value} {Q : Value → Shared → Prop} (hh : A.handled = none) (hj : IsTupIter s.heap j a i) (ha : IsTup s.heap a xs) (hv : xs[i]? = none)
    (q : ∀ h' e, Heap.ExtBut j s.heap h' → (∃ o, h'.get? e = some o ∧ o.cls = .type "StopIteration") → E (.ref e) { s with heap := h' }) : wpAny (model prog w) A (Builtin.SmallTypes.nextOf (.ref j)) Q E s := by
  obtain ⟨oj, gj, cj, dj⟩ := id hj
  obtain ⟨oa, ga, _, na, da⟩ := ha
  unfold Builtin.SmallTypes.nextOf
  refine wpAny_bind (wpAny_callSpecial?_slot (name := Str.ofString "__next__") hj.typeIs slot_tupleiter_next (wpAny_call_entry slot_tupleiter_next hj.typeIs entry_tupleiter_next ?_ (args_tupleiter_next _)))
  show wpAny _ _ (field (.ref j) 0 >>= _) _ _ s
  refine wpAny_bind (wpAny_field gj dj (x := .ref a) rfl ?_)
  show wpAny _ _ (if (Value.ref a == Value.none) = true then _ else _) _ _ s
  rw [if_neg (show ¬ ((Value.ref a == Value.none) = true) from Bool.false_ne_true)]
  show wpAny _ _ (field (.ref j) 1 >>= _) _ _ s
  refine wpAny_bind (wpAny_field gj dj (x := .int i 0) rfl ?_)
  show wpAny _ _ (seqItems? (.ref a) >>= _) _ _ s
  refine wpAny_bind (wpAny_seqItems ga da ?_)
  simp only [Int.toNat_natCast, hv]
  refine wpAny_bind (wpAny_rule (wpAny_bind (wpAny_setField gj dj (by simp) ?_)))
  show wpAny _ _ (newExc (.type "StopIteration") [] >>= _) _ _ _
  refine wpAny_bind ?_
  simp only [newExc, newTuple]
  refine wpAny_bind (wpAny_newObj_type ?_ (by size_fits))
  refine wpAny_bind (m := firstArgMember _ _) (wpAny_of_eq (a := Value.none) (by first | rfl | (simp only [firstArgMember]; rfl)) ?_)
  refine wpAny_newObj_type ?_ (by size_fits)
  simp only [raiseNew]
  refine wpAny_bind (wpAny_handled ?_)
  first | rw [show A.in1.handled = none from hh] | rw [hh]
  refine wpAny_bind (wpAny_pure (wpAny_throw ?_))
  exact q _ _ (((Heap.SameBut.update ..).extBut.push _).push _) ⟨_, Heap.get?_push_size _ rfl, rfl⟩
end
theorem draws_tup {prog : Program} {w : World} {A : Around} (hh : A.handled = none) (j a : Addr) (ne : a ≠ j) (xs : Array Value) :
    Draws prog w A j [j, a] xs.size (fun i v => xs[i]? = some v) (fun i h => IsTupIter h j a i ∧ IsTup h a xs) where
  live := fun _ _ ⟨⟨o, ho, _⟩, _⟩ => ⟨o, ho⟩
  frame := fun _ _ _ ⟨⟨o, ho, r⟩, ⟨o2, ho2, r2⟩⟩ k => ⟨⟨o, k j (by simp) _ ho, r⟩, ⟨o2, k a (by simp) _ ho2, r2⟩⟩
  item := fun i s Q E hi st hQ => tup_next st.1 st.2 (v := xs[i]) (by simp [hi]) fun h' t1 t2 => hQ _ h' s.toks (by simp [hi]) ⟨t1, st.2.extBut t2.extBut ne⟩ t2
  done := fun s Q E st hE => tup_last hh st.1 st.2 (by simp) hE
theorem enum_makes (a : Addr) (xs : Array Value) (n : Nat) (dct : Option Addr) (sl : Array (Option Value)) :
    Meets (Builtin.«enumerate.__new__» ⟨[.type "enumerate", .ref a], []⟩) (fun _ R s => s.heap.get? a = some { cls := .type "tuple", dict := dct, data := .seq xs n, slots := sl } ∧
      R (.ok (.ret (.ref (s.heap.push { cls := .type "tuple_iterator", data := .fields #[.ref a, .int 0 0] }).objs.size)))
        { s with heap := (s.heap.push { cls := .type "tuple_iterator", data := .fields #[.ref a, .int 0 0] }).push { cls := .type "enumerate", data := .fields #[.none, .bool false, .ref s.heap.objs.size, rawInt 0, .none, .none] } }) :=
  .of_wp fun prog w A R s hyp => by
    obtain ⟨hp, gs, dr, tk, os⟩ := s
    obtain ⟨ha, hyp⟩ := hyp
    have se := sub_enumerate
    have isT : IsTup (Shared.heap ⟨hp, gs, dr, tk, os⟩) a xs := ⟨_, ha, rfl, n, rfl⟩
    wp_walk using AutoSeq1.wpAny_loadPart' ha
    refine wpAny_stack_any fun _ => wpAny_pure ?_
    split
    · rename_i c _ _ _ _ _
      cases (c == Value.type "enumerate") <;> wp_walk using AutoSeq1.wpAny_loadPart' ha, iter_tuple isT <;> exact ⟨_, rfl, hyp⟩
    · wp_walk using AutoSeq1.wpAny_loadPart' ha, iter_tuple isT
      exact ⟨_, rfl, hyp⟩
end Vc
namespace Vc
open PySem PySem.Spec PyProof.Rows L2
theorem enum_tup {prog : Program} {w : World} {A : Around} {E : Value → Shared → Prop} {s : Shared} {a : Addr} {xs : Array Value} {Q : Value → Shared → Prop} (ha : IsTup s.heap a xs)
    (h : ∀ h', IsEnum h' (s.heap.objs.size + 1) s.heap.objs.size 0 .none → IsTupIter h' s.heap.objs.size a 0 → (∀ b o, s.heap.get? b = some o → h'.get? b = some o) → Q (.ref (s.heap.objs.size + 1)) { s with heap := h' }) :
    wpAny (model prog w) A (call (.type "enumerate") [.ref a]) Q E s := by
  obtain ⟨⟨c, dct, dt, sl⟩, ga, gc, n, gd⟩ := ha
  replace gc : c = .type "tuple" := gc
  replace gd : dt = .seq xs n := gd
  subst gc gd
  refine callType_new F.called_enumerate (by decide) (F.typeCall_enumerate_1 _) (F.newCall_enumerate_1 _) (fun ob => F.args_object_init_2 ob _) F.entry_enumerate_new (enum_makes a xs n dct sl) ⟨ga, ?_⟩
  have z : (s.heap.push { cls := .type "tuple_iterator", data := .fields #[.ref a, .int 0 0] }).objs.size = s.heap.objs.size + 1 := Heap.size_push ..
  have g := Heap.get?_push_size (s.heap.push { cls := .type "tuple_iterator", data := .fields #[.ref a, .int 0 0] })
    (o := { cls := .type "enumerate", data := .fields #[.none, .bool false, .ref s.heap.objs.size, rawInt 0, .none, .none] }) rfl
  show _ ∧ _
  rw [z] at g ⊢
  exact ⟨⟨_, g, rfl⟩, h _ g ⟨_, Heap.get?_push_of_some _ (Heap.get?_push_size _ rfl), rfl, rfl⟩ fun b o x => Heap.get?_push_of_some _ (Heap.get?_push_of_some _ x)⟩
theorem draws_end {prog : Program} {w : World} {A : Around} (hh : A.handled = none) (j a : Addr) (ne : a ≠ j) (xs : Array Value) (i : Nat) (hn : xs[i]? = none) :
    Draws prog w A j [j, a] i (fun _ _ => True) (fun k h => k = i ∧ IsTupIter h j a i ∧ IsTup h a xs) where
  live := fun _ _ st => let ⟨_, ⟨o, ho, _⟩, _⟩ := st; ⟨o, ho⟩
  frame := fun _ _ _ st k => let ⟨e, ⟨o, ho, r⟩, ⟨o2, ho2, r2⟩⟩ := st; ⟨e, ⟨o, k j (by simp) _ ho, r⟩, ⟨o2, k a (by simp) _ ho2, r2⟩⟩
  item := fun k s Q E hi st hQ => absurd st.1 (Nat.ne_of_lt hi)
  done := fun s Q E st hE => tup_last hh st.2.1 st.2.2 hn hE
/-- the tuple at a, each item in a new pair -/
def Itq (K : PySem.W.Frag) (a : Addr) : It :=
  ⟨fun i H => ∃ (xs : List V) (x : V), SqT K H a xs ∧ xs[i]? = some x, fun i H v H' => ∃ T x, v = .ref T ∧ H T = none ∧ H' = upd H T (.tup [.int (i : Nat), x]) ∧ ∀ xs, SqT K H a xs → xs[i]? = some x, fun i H => ∃ xs : List V, SqT K H a xs ∧ xs.length ≤ i⟩
theorem turn_q {P : Program} {w : World} {K : PySem.W.Frag} {elts : List Expr} {kk : Nat} {tpos : Pos} (a e it : Addr) :
    Turn P w K (.Tuple elts kk tpos) (Itq K a) [e, it] e (fun i h => (∃ old, IsEnum h e it ((i : Nat) : Int) old) ∧ IsTupIter h it a i ∧ e ≠ it ∧ a ≠ it ∧ a ≠ e) where
  mem := List.mem_cons_self
  obj := fun i h st b hb => by
    obtain ⟨⟨old, he⟩, ⟨o, ho, hc, hd⟩, hr⟩ := st
    rcases List.mem_cons.mp hb with z | z
    · subst z
      exact ⟨_, he, fun v q => nomatch q⟩
    · rw [List.mem_singleton.mp z]
      exact ⟨o, ho, fun v q => by rw [hd] at q; cases q⟩
  keep := fun i h h' st k => let ⟨⟨old, he⟩, ⟨o, ho, r⟩, ne⟩ := st; ⟨⟨old, k e (by simp) _ he⟩, ⟨o, k it (by simp) _ ho, r⟩, ne⟩
  item := by
    intro X hP hw hK hc i pins s σ H E I hf st hg
    subst hP hw hK
    obtain ⟨⟨old, he⟩, hit, ne, na, ne2⟩ := st
    obtain ⟨xs, x, hq, hx⟩ := hg
    obtain ⟨its, rv, p, hz⟩ := I.tuple hq
    obtain ⟨u, hu, ru⟩ := rv.get hx
    have lt_e : e < s.heap.objs.size := Heap.lt_size he
    have lt_i : it < s.heap.objs.size := by obtain ⟨_, g, _⟩ := hit; exact Heap.lt_size g
    have hui : its.toArray[i]? = some u := by simpa using hu
    have hlt : i < its.toArray.size := by
      rcases Nat.lt_or_ge i its.toArray.size with z | z
      · exact z
      · rw [Array.getElem?_eq_none z] at hui; cases hui
    refine wpAny_pyNext_enum_itemD (draws_tup (A := X.A.in1) (I.ok.hd hc) it a na its.toArray) he ⟨hit, p⟩ hlt ne (by simp [ne, Ne.symm ne2]) fun x' h' tk hx' ho st' hT hsz hk => ?_
    have ex : x' = u := by
      have hx' : its.toArray[i]? = some x' := hx'
      rw [hui] at hx'
      exact (Option.some.inj hx').symm
    subst ex
    refine ⟨_, rfl, wpAny_letOwnedTupleGo_enum (s := { s with heap := h', toks := tk + 1 }) ho fun h2 he2 sb => ?_⟩
    have hT2 := (sb.2 _ (Nat.ne_of_gt lt_e)).trans hT
    have I1 : Inv X pins σ (upd H s.heap.objs.size (.tup [.int (i : Nat), x])) { s with heap := h2, toks := tk + 1 } :=
      I.turnedNew (ch := [e, it]) (fun b ob hb q => (sb.2 b (fun z => hb (by simp [z]))).trans (hk b ob (fun z => hb (by simp [z])) (fun z => hb (by simp [z])) q)) hf (Nat.le_refl _)
        (show ObjOk X.prog X.w _ h2 _ (.tup _) from ⟨by show 2 ≤ sizeLine; decide, [.int i tk, x'], .cons ⟨_, rfl⟩ (.cons ru .nil), ⟨_, hT2, rfl, _, rfl⟩⟩)
    refine ⟨.ref s.heap.objs.size, _, I1, rfl, ⟨_, x, rfl, I.hok.fresh (Nat.le_refl _), rfl, fun ys hy => ?_⟩, ⟨⟨x', by rw [show ((i + 1 : Nat) : Int) = (i : Int) + 1 by omega]; exact he2⟩, ?_, ne, na, ne2⟩, fun b hb => ?_⟩
    · rw [I.tuple_inj hy hq]
      exact hx
    · obtain ⟨o, g, r⟩ := st'.1
      exact ⟨o, (sb.2 it (Ne.symm ne)).trans g, r⟩
    · have hb' : b < s.heap.objs.size := by
        rcases List.mem_cons.mp hb with z | z
        · rw [z]; exact lt_e
        · rw [List.mem_singleton.mp z]; exact lt_i
      rw [upd_ne (Nat.ne_of_lt hb')]
      exact (hf b hb).1
  done := by
    intro X hP hw hK hc i pins s σ H E I hf st hg
    subst hP hw hK
    obtain ⟨⟨old, he⟩, hit, ne, na, ne2⟩ := st
    obtain ⟨xs, hq, hx⟩ := hg
    obtain ⟨its, rv, p, hz⟩ := I.tuple hq
    obtain ⟨f0, f1, f2, f3, f4, f5⟩ := hf it (by simp)
    have hn : its.toArray[i]? = none := by
      have := rv.length
      simp
      omega
    exact wpAny_pyNext_enum_endD (draws_end (A := X.A.in1) (I.ok.hd hc) it a na its.toArray i hn) he ⟨rfl, hit, p⟩ fun h' eb => ⟨rfl, I.turned (t' := s.toks) (fun b o hb q => eb b o hb q) f0 f1 f3 f4 f5⟩
  self := fun A i s Q E st h => let ⟨⟨_, he⟩, _⟩ := st; wpAny_pyIter_enum he h
def iEnq (K : PySem.W.Frag) (ta : TA) : TI := fun σ H R => ta σ H fun vs H1 => ∃ a xs, vs = [.ref a] ∧ SqT K H1 a xs ∧ R (Itq K a) H1
theorem v_iEnq {K : PySem.W.Frag} {ta : TA} {σ : L2.St} {H : Hp} {R : It → Hp → Prop} (h : ta σ H fun vs H1 => ∃ a xs, vs = [.ref a] ∧ SqT K H1 a xs ∧ R (Itq K a) H1) : iEnq K ta σ H R := h
theorem pi_enq {X : Cx} {e : Expr} {ta : TA} {p pos tpos : Pos} {elts : List Expr} {kk : Nat} (hg : Gl X "enumerate") (hm : X.mg "enumerate" = none) (ha : PA X [e] ta) (hs : starEach [e] X.env = [(false, eval e X.env)] := by rfl) :
    PI X (.Tuple elts kk tpos) (.Call (.Name "enumerate" p) [e] [] pos) (iEnq X.K ta) := by
  refine ⟨fun pins s σ H R I h => Call_ (ld_blt I hg hm boot_enumerate (PyProof.Rows.callWith_type1 (thn (ha.run pos pins s σ H _ I h) fun us s1 ⟨vs, H1, I1, r1, q1⟩ => ?_) hs rfl))⟩
  obtain ⟨a, xs, rfl, hq, q⟩ := q1
  obtain ⟨u, rfl, ru⟩ := vals1 r1
  cases ru
  obtain ⟨its, rv, p', hz⟩ := I1.tuple hq
  have la : a < s1.heap.objs.size := by obtain ⟨o, ho, _⟩ := p'; exact Heap.lt_size ho
  refine enum_tup p' fun h' he hit hk => wpAny_pyIter_enum he ⟨s1.heap.objs.size + 1, [s1.heap.objs.size + 1, s1.heap.objs.size], _, _, H1, rfl, I1.kept (t' := s1.toks) hk, turn_q a (s1.heap.objs.size + 1) s1.heap.objs.size,
    ⟨⟨.none, he⟩, hit, Nat.succ_ne_self _, Nat.ne_of_lt la, Nat.ne_of_lt (Nat.lt_succ_of_lt la)⟩, fun b hb => ?_, q⟩
  have hle : s1.heap.objs.size ≤ b := by
    rcases List.mem_cons.mp hb with z | z
    · rw [z]; exact Nat.le_add_right _ _
    · rw [List.mem_singleton.mp z]; exact Nat.le_refl _
  exact I1.fpOk hle (I1.hok.fresh hle)
theorem for_enq {K : PySem.W.Frag} {a : Addr} {xs : List V} {g : TG} {tb : TS} {D : Ends} {σ : L2.St} {H : Hp} (Pv : Nat → L2.St → Hp → Prop) (h0 : Pv 0 σ H) (ht : ∀ i σ H, i ≤ xs.length → Pv i σ H → SqT K H a xs)
    (hs : ∀ i x σ H T H', xs[i]? = some x → Pv i σ H → H T = none → Same H H' → H' T = some (.tup [.int (i : Nat), x]) → g (.ref T) σ H' fun σ2 H2 => tb { D with nx := Pv (i + 1), ct := Pv (i + 1), bk := D.nx } σ2 H2) (hd : ∀ σ H, Pv xs.length σ H → D.nx σ H) :
    ∃ W : Nat → Nat → L2.St → Hp → Prop, (∃ m, W 0 m σ H) ∧ ∀ i m σ H, W i m σ H →
      ((Itq K a).stop i H ∧ D.nx σ H) ∨ ((Itq K a).go i H ∧ ∃ N : L2.St → Hp → Prop, (∀ σ' H', N σ' H' → ∃ m', m' < m ∧ W (i + 1) m' σ' H') ∧ ∀ x H', (Itq K a).yld i H x H' → g x σ H' fun σ2 H2 => tb { D with nx := N, ct := N, bk := D.nx } σ2 H2) := by
  refine ⟨fun i m σ H => m + i = xs.length ∧ Pv i σ H, ⟨xs.length, Nat.add_zero _, h0⟩, ?_⟩
  rintro i m σ H ⟨hm, p⟩
  have t := ht i σ H (by omega) p
  cases m with
  | zero =>
    have e : i = xs.length := by omega
    subst e
    exact .inl ⟨⟨xs, t, Nat.le_refl _⟩, hd σ H p⟩
  | succ m =>
    have hi : xs[i]? = some (xs[i]'(by omega)) := List.getElem?_eq_getElem (by omega)
    refine .inr ⟨⟨xs, _, t, hi⟩, Pv (i + 1), fun σ' H' p' => ⟨m, Nat.lt_succ_self _, by omega, p'⟩, ?_⟩
    rintro x H' ⟨T, y, rfl, hT, rfl, hy⟩
    exact hs i y σ H T _ (hy xs t) p hT (same_new hT) upd_same
/-! ### a local name that holds a def -/
theorem pe_callVG {X : Cx} {k i : Nat} {f : Addr} {fd : FuncData} {ps : List Str} {ds : List Value} {dvs : List V} {sp : Sp} {x : Str} {e : Expr} {es : List Expr} {t : TA} {p pos : Pos}
    (F : FnG X.prog X.w X.K X.mg X.base k f fd ps sp) (hgd : X.A.guards = some []) (hr : Room k X.A) (hk : PySem.W.keepIn X.K (.ref f) = true) (hb : Binds X.K fd ps ds) (hd : Vals dvs ds) (hN : X.N[i]? = some x) (hv : Vis X.env.scope x) (ha : PA X (e :: es) t)
    (h1 : (x == ("__debug__" : Str)) = false := by decide) (h2 : (x == ("__classdict__" : Str)) = false := by decide)
    (he : starEach (e :: es) X.env = (false, eval e X.env) :: starEach es X.env := by rfl) (hpl : (backTo pos (starEach es X.env)).any (·.1) = false := by rfl) :
    PE X (.Call (.Name x p) (e :: es) [] pos) (fun σ H Q => σ[i]? = some (some (.ref f)) ∧ tCall sp dvs E0 t σ H Q) := by
  refine ⟨fun pins s σ H Q I h => ?_⟩
  obtain ⟨hs, h⟩ := h
  refine wpAny_Call_Name_kw (thn ((pe_var (pos := p) (i := i) hN hv h1 h2).run pins s σ H (fun v H1 => v = .ref f ∧ H1 = H) I ⟨.ref f, hs, rfl, rfl⟩) fun u s1 ⟨v, H1, I1, r1, ev, eH⟩ => ?_)
  subst ev eH
  cases r1
  exact PySem.W.callWith_K (h₀ := X.base) I.ok.mod.kin hk (thn (ha.run pos pins s1 σ _ _ I1 h) fun us s2 hh => by obtain ⟨vs, H2, I2, r, q⟩ := hh; exact ⟨I2.kIn, runG F hgd hr hb hd I2 r q⟩) he hpl
/-! ### the type of a tuple -/
theorem ty_tup {K : PySem.W.Frag} {H : Hp} {p : Addr} {xs : List V} (h : SqT K H p xs) : TyX K H (.ref p) (.type "tuple") := by
  rcases h with (h | ⟨o, h⟩) | ⟨o, its, n, e, c, _⟩
  · exact .base (.tup h)
  · exact .fTuple h
  · exact .kTuple e c
theorem v_isTup {K : PySem.W.Frag} {H : Hp} {Q : VK} {p : Addr} {xs : List V} (h : SqT K H p xs) (q : Q (.bl true) H) : rIsi K [.ref p, .ty "tuple"] H Q := ⟨_, _, _, _, true, rfl, .ty _, ty_tup h, kit_ty (by decide +kernel), q⟩
theorem v_star {K : PySem.W.Frag} {te : TE} {t : TA} {σ : L2.St} {H : Hp} {QA : List V → Hp → Prop} (h : te σ H fun x H1 => ∃ p xs, x = V.ref p ∧ (SqT K H1 p xs ∨ SqL K H1 p xs) ∧ t σ H1 fun ys H2 => QA (xs ++ ys) H2) : StX.tStar K te t σ H QA := h
theorem v_aug {i : Nat} {te : TE} {ti : TIp} {D : Ends} {σ : L2.St} {H : Hp} {x : V} (e : σ[i]? = some (some x)) (h : te σ H fun y H1 => ti x y H1 fun z H2 => D.nx (σ.set i (some z)) H2) : tAug i te ti D σ H := ⟨x, e, h⟩
/-! ### numbers set side by side -/
theorem or_side {a b n : Nat} (h : b < 2 ^ n) : a * 2 ^ n ||| b = a * 2 ^ n + b := by
  have := Nat.shiftLeft_add_eq_or_of_lt h a
  rw [Nat.shiftLeft_eq] at this
  exact this.symm
end Vc
namespace Vc
open PySem PySem.Spec PyProof.Rows L2
/-! ### data of any kind, the empty dict too; lists and tuples of it lie outside M -/
inductive D where
  | non
  | bl (b : Bool)
  | int (i : Int)
  | str (s : PySem.Str)
  | lst (xs : List D)
  | tup (xs : List D)
  | dic
mutual
inductive Is (M : Addr → Prop) (H : Hp) : V → D → Prop
  | non : Is M H .non .non
  | bl (b : Bool) : Is M H (.bl b) (.bl b)
  | int (i : Int) : Is M H (.int i) (.int i)
  | str (s : PySem.Str) : Is M H (.str s) (.str s)
  | lst {a : Addr} {xs : List V} {ds : List D} (e : H a = some (.lst xs)) (n : ¬ M a) (h : IsAll M H xs ds) : Is M H (.ref a) (.lst ds)
  | tup {a : Addr} {xs : List V} {ds : List D} (e : H a = some (.tup xs)) (n : ¬ M a) (h : IsAll M H xs ds) : Is M H (.ref a) (.tup ds)
  | dic {a : Addr} (e : H a = some (.dK [])) (n : ¬ M a) : Is M H (.ref a) .dic
inductive IsAll (M : Addr → Prop) (H : Hp) : List V → List D → Prop
  | nil : IsAll M H [] []
  | cons {v : V} {vs : List V} {d : D} {ds : List D} (h : Is M H v d) (t : IsAll M H vs ds) : IsAll M H (v :: vs) (d :: ds)
end
def Fr (M : Addr → Prop) (H H' : Hp) : Prop := ∀ b o, ¬ M b → H b = some o → H' b = some o
section
variable {M M' : Addr → Prop} {H H' : Hp}
mutual
theorem Is.to (f : ∀ b o, ¬ M b → H b = some o → H' b = some o ∧ ¬ M' b) : ∀ (d : D) (v : V), Is M H v d → Is M' H' v d
  | .non, _, h => by cases h; exact .non
  | .bl _, _, h => by cases h; exact .bl _
  | .int _, _, h => by cases h; exact .int _
  | .str _, _, h => by cases h; exact .str _
  | .lst ds, _, h => by
    cases h with
    | lst e n h => exact .lst (f _ _ n e).1 (f _ _ n e).2 (IsAll.to f ds _ h)
  | .tup ds, _, h => by
    cases h with
    | tup e n h => exact .tup (f _ _ n e).1 (f _ _ n e).2 (IsAll.to f ds _ h)
  | .dic, _, h => by
    cases h with
    | dic e n => exact .dic (f _ _ n e).1 (f _ _ n e).2
theorem IsAll.to (f : ∀ b o, ¬ M b → H b = some o → H' b = some o ∧ ¬ M' b) : ∀ (ds : List D) (vs : List V), IsAll M H vs ds → IsAll M' H' vs ds
  | [], _, h => by cases h; exact .nil
  | d :: ds, _, h => by
    cases h with
    | cons h t => exact .cons (Is.to f d _ h) (IsAll.to f ds _ t)
end
theorem Is.fr {v : V} {d : D} (h : Is M H v d) (f : Fr M H H') : Is M H' v d := Is.to (fun b o n e => ⟨f b o n e, n⟩) d v h
theorem IsAll.fr {vs : List V} {ds : List D} (h : IsAll M H vs ds) (f : Fr M H H') : IsAll M H' vs ds := IsAll.to (fun b o n e => ⟨f b o n e, n⟩) ds vs h
theorem Is.same {v : V} {d : D} (h : Is M H v d) (s : Same H H') : Is M H' v d := h.fr fun b o _ e => s b o e
theorem IsAll.same {vs : List V} {ds : List D} (h : IsAll M H vs ds) (s : Same H H') : IsAll M H' vs ds := h.fr fun b o _ e => s b o e
theorem Is.weak {v : V} {d : D} (h : Is M H v d) (f : ∀ b, M' b → M b) : Is M' H v d := Is.to (fun b o n e => ⟨e, fun m => n (f b m)⟩) d v h
theorem IsAll.weak {vs : List V} {ds : List D} (h : IsAll M H vs ds) (f : ∀ b, M' b → M b) : IsAll M' H vs ds := IsAll.to (fun b o n e => ⟨e, fun m => n (f b m)⟩) ds vs h
theorem IsAll.len {vs : List V} : ∀ {ds : List D}, IsAll M H vs ds → vs.length = ds.length
  | [], h => by cases h; rfl
  | _ :: ds, h => by
    cases h with
    | cons _ t => rw [List.length_cons, List.length_cons, t.len]
theorem IsAll.get {x : V} : ∀ {vs : List V} {ds : List D} {i : Nat}, IsAll M H vs ds → vs[i]? = some x → ∃ d, ds[i]? = some d ∧ Is M H x d
  | [], [], i, _, e => by simp at e
  | v :: vs, d :: ds, 0, h, e => by
    cases h with
    | cons h t =>
      rw [List.getElem?_cons_zero] at e
      cases e
      exact ⟨d, rfl, h⟩
  | v :: vs, d :: ds, i + 1, h, e => by
    cases h with
    | cons h t =>
      rw [List.getElem?_cons_succ] at e ⊢
      exact t.get e
theorem IsAll.mem {x : V} {vs : List V} {ds : List D} (h : IsAll M H vs ds) (m : x ∈ vs) : ∃ d, d ∈ ds ∧ Is M H x d := by
  obtain ⟨i, hi⟩ := List.getElem?_of_mem m
  obtain ⟨d, hd, r⟩ := h.get hi
  exact ⟨d, List.mem_of_getElem? hd, r⟩
theorem IsAll.app {vs ws : List V} {ds es : List D} (h : IsAll M H vs ds) (t : IsAll M H ws es) : IsAll M H (vs ++ ws) (ds ++ es) := by
  induction vs generalizing ds with
  | nil => cases h; exact t
  | cons v vs ih =>
    cases h with
    | cons a b => exact .cons a (ih b)
theorem IsAll.take : ∀ {vs : List V} {ds : List D} (k : Nat), IsAll M H vs ds → IsAll M H (vs.take k) (ds.take k)
  | [], [], k, _ => by simp; exact .nil
  | _ :: _, _ :: _, 0, _ => .nil
  | v :: vs, d :: ds, k + 1, h => by
    cases h with
    | cons a b => exact .cons a (b.take k)
theorem IsAll.drop : ∀ {vs : List V} {ds : List D} (k : Nat), IsAll M H vs ds → IsAll M H (vs.drop k) (ds.drop k)
  | [], [], k, _ => by simp; exact .nil
  | _ :: _, _ :: _, 0, h => h
  | v :: vs, d :: ds, k + 1, h => by
    cases h with
    | cons a b => exact b.drop k
theorem IsAll.rev {vs : List V} {ds : List D} (h : IsAll M H vs ds) : IsAll M H vs.reverse ds.reverse := by
  induction vs generalizing ds with
  | nil => cases h; exact .nil
  | cons v vs ih =>
    cases h with
    | cons a b => rw [List.reverse_cons, List.reverse_cons]; exact (ih b).app (.cons a .nil)
theorem IsAll.rep {v : V} {d : D} (h : Is M H v d) : ∀ k : Nat, IsAll M H (List.replicate k v) (List.replicate k d)
  | 0 => .nil
  | k + 1 => .cons h (IsAll.rep h k)
end
/-! ### its kinds -/
def D.ty : D → String
  | .non => "NoneType"
  | .bl _ => "bool"
  | .int _ => "int"
  | .str _ => "str"
  | .lst _ => "list"
  | .tup _ => "tuple"
  | .dic => "dict"
theorem Is.tyx {K : PySem.W.Frag} {M : Addr → Prop} {H : Hp} {v : V} {d : D} (h : Is M H v d) : TyX K H v (.type d.ty) := by
  cases h with
  | non => exact .base .non
  | bl b => exact .base (.bl b)
  | int i => exact .base (.int i)
  | str s => exact .base (.str s)
  | lst e n h => exact .base (.lst e)
  | tup e n h => exact .base (.tup e)
  | dic e n => exact .base (.dK e)
def D.isInt : D → Bool
  | .int _ => true
  | .bl _ => true
  | _ => false
def D.isBl : D → Bool
  | .bl _ => true
  | _ => false
def D.isStr : D → Bool
  | .str _ => true
  | _ => false
def D.isTup : D → Bool
  | .tup _ => true
  | _ => false
def D.num : D → Option Int
  | .int i => some i
  | _ => none
section
variable {K : PySem.W.Frag} {M : Addr → Prop} {H : Hp} {v : V} {d : D} {Q : VK}
theorem d_isInt (h : Is M H v d) (q : Q (.bl d.isInt) H) : rIsi K [v, .ty "int"] H Q :=
  ⟨_, _, _, _, d.isInt, rfl, .ty _, h.tyx, kit_ty (by cases d <;> (simp only [D.ty, D.isInt, D.isBl, D.isStr, D.isTup]; decide +kernel)), q⟩
theorem d_isBl (h : Is M H v d) (q : Q (.bl d.isBl) H) : rIsi K [v, .ty "bool"] H Q :=
  ⟨_, _, _, _, d.isBl, rfl, .ty _, h.tyx, kit_ty (by cases d <;> (simp only [D.ty, D.isInt, D.isBl, D.isStr, D.isTup]; decide +kernel)), q⟩
theorem d_isStr (h : Is M H v d) (q : Q (.bl d.isStr) H) : rIsi K [v, .ty "str"] H Q :=
  ⟨_, _, _, _, d.isStr, rfl, .ty _, h.tyx, kit_ty (by cases d <;> (simp only [D.ty, D.isInt, D.isBl, D.isStr, D.isTup]; decide +kernel)), q⟩
theorem d_isTup (h : Is M H v d) (q : Q (.bl d.isTup) H) : rIsi K [v, .ty "tuple"] H Q :=
  ⟨_, _, _, _, d.isTup, rfl, .ty _, h.tyx, kit_ty (by cases d <;> (simp only [D.ty, D.isInt, D.isBl, D.isStr, D.isTup]; decide +kernel)), q⟩
end
/-- a whole number from j up to k -/
def D.btw (j k : Int) : D → Bool
  | .int i => decide (j ≤ i ∧ i ≤ k)
  | _ => false
def D.whole : D → Bool
  | .int _ => true
  | _ => false
/-! ### displays of data -/
def Old (H : Hp) (b : Addr) : Prop := H b ≠ none
def tD (d : D) : TE := fun _ H Q => ∀ v H', Same H H' → Is (Old H) H' v d → Q v H'
def tDs (ds : List D) : TA := fun _ H Q => ∀ vs H', Same H H' → IsAll (Old H) H' vs ds → Q vs H'
theorem old_same {H H' : Hp} (s : Same H H') : ∀ b, Old H b → Old H' b := fun b h => by
  unfold Old at h ⊢
  cases e : H b with
  | none => exact absurd e h
  | some o => rw [s b o e]; exact fun z => nomatch z
theorem new_old {H H' : Hp} {p : Addr} (s : Same H H') (h : H' p = none) : ¬ Old H p := fun z => (old_same s p z) h
section
variable {X : Cx} {e : Expr} {es : List Expr} {t : TE} {d : D} {ds : List D} {pos : Pos}
theorem pd_of (he : PE X e t) (h : ∀ σ H Q, tD d σ H Q → t σ H Q) : PE X e (tD d) := ⟨fun pins s σ H Q I q => he.run pins s σ H Q I (h σ H Q q)⟩
theorem pd_int {i : Int} {j} : PE X (.Constant (.int i) j pos) (tD (.int i)) := pd_of pe_int fun σ H Q h => h _ H (fun _ _ e => e) (.int i)
theorem pd_bl {b : Bool} {j} : PE X (.Constant (.bool b) j pos) (tD (.bl b)) := pd_of pe_bl fun σ H Q h => h _ H (fun _ _ e => e) (.bl b)
theorem pd_non {j} : PE X (.Constant .none j pos) (tD .non) := pd_of pe_non fun σ H Q h => h _ H (fun _ _ e => e) .non
theorem pd_str {x : PySem.Str} {j} : PE X (.Constant (.str x) j pos) (tD (.str x)) := pd_of pe_str fun σ H Q h => h _ H (fun _ _ e => e) (.str x)
theorem pd_neg {i : Int} {j} {p1 : Pos} : PE X (.UnaryOp .USub (.Constant (.int i) j p1) pos) (tD (.int (-i))) := pd_of (pe_un un_neg pe_int) fun σ H Q h => ⟨i, rfl, h _ H (fun _ _ e => e) (.int _)⟩
theorem pd_dic : PE X (.Dict [] [] pos) (tD .dic) := pd_of pe_dnewK fun σ H Q h p hp => h _ _ (same_new hp) (.dic upd_same fun z => z hp)
theorem pd_pow {i k : Int} {j1 j2} {p1 p2 : Pos} (h : 0 ≤ k ∧ k ≤ 1000000) (h2 : i.natAbs < 2 ^ 64) : PE X (.BinOp (.Constant (.int i) j1 p1) .Pow (.Constant (.int k) j2 p2) pos) (tD (.int (i ^ k.toNat))) := pd_of (pe_op op_pow pe_int pe_int) fun σ H Q q => ⟨i, k, rfl, rfl, ⟨h.1, h.2, h2⟩, q _ H (fun _ _ e => e) (.int _)⟩
theorem pds_nil : PA X [] (tDs []) := ⟨fun p pins s σ H Q I h => pa_nil.run p pins s σ H Q I (h _ H (fun _ _ e => e) .nil)⟩
theorem pds_cons (ha : PE X e (tD d)) (hr : PA X es (tDs ds)) (hs : starEach (e :: es) X.env = (false, eval e X.env) :: starEach es X.env := by rfl) : PA X (e :: es) (tDs (d :: ds)) :=
  ⟨fun p pins s σ H Q I h => (pa_cons ha hr hs).run p pins s σ H Q I fun v H1 s1 i1 vs H2 s2 i2 => h _ H2 (fun b o e => s2 _ _ (s1 _ _ e)) (.cons (i1.same s2) (i2.weak (old_same s1)))⟩
theorem pd_tup {x1} (h : PA X es (tDs ds)) (hl : ds.length ≤ 1000) : PE X (.Tuple es x1 pos) (tD (.tup ds)) := pd_of (pe_tup h) fun σ H Q q vs H1 s1 i1 =>
  ⟨by rw [i1.len]; exact Nat.le_trans hl (by decide), fun p hp => q _ _ (fun b o e => same_new hp _ _ (s1 _ _ e)) (.tup upd_same (new_old s1 hp) (i1.same (same_new hp)))⟩
theorem pd_lst (h : PA X es (tDs ds)) (hl : ds.length ≤ 1000) : PE X (.List es pos) (tD (.lst ds)) := pd_of (pe_lst h) fun σ H Q q vs H1 s1 i1 =>
  ⟨by rw [i1.len]; exact Nat.le_trans hl (by decide), fun p hp => q _ _ (fun b o e => same_new hp _ _ (s1 _ _ e)) (.lst upd_same (new_old s1 hp) (i1.same (same_new hp)))⟩
theorem pd_rep {e2 : Expr} {k : Nat} {d : D} (h : PE X e (tD (.tup [d]))) (h2 : PE X e2 (tC (.int (k : Int)))) (h0 : 2 ≤ k) (h1 : k ≤ 1000) : PE X (.BinOp e .Mult e2 pos) (tD (.tup (List.replicate k d))) := pd_of (pe_op op_repT h h2) fun σ H Q q v H1 s1 i1 => by
  cases i1 with
  | tup e n i =>
    cases i with
    | @cons v vs d ds i t =>
      cases t
      refine ⟨_, _, _, rfl, rfl, sqT_of e, by simp, by omega, by omega, by simp, fun p hp => q _ _ (fun b o e => same_new hp _ _ (s1 _ _ e)) (.tup upd_same (new_old s1 hp) ?_)⟩
      rw [Int.toNat_natCast, show (List.replicate k [v]).flatten = List.replicate k v by simp]
      exact IsAll.rep (i.same (same_new hp)) k
end
theorem v_D {d : D} {σ : L2.St} {H : Hp} {Q : VK} (h : ∀ v H', Same H H' → Is (Old H) H' v d → Q v H') : tD d σ H Q := h

/-! ### the same as the library's data -/
mutual
def D.toP : D → PyData
  | .non => .none
  | .bl b => .bool b
  | .int i => .int i
  | .str s => .str s
  | .lst ds => .list (D.toPs ds)
  | .tup ds => .tuple (D.toPs ds)
  | .dic => .dict []
def D.toPs : List D → List PyData
  | [] => []
  | d :: ds => d.toP :: D.toPs ds
end
mutual
def D.nod : D → Bool
  | .lst ds => D.nods ds
  | .tup ds => D.nods ds
  | .dic => false
  | _ => true
def D.nods : List D → Bool
  | [] => true
  | d :: ds => d.nod && D.nods ds
end
section
variable {K : PySem.W.Frag} {M : Addr → Prop} {H : Hp}
mutual
theorem Is.dp : ∀ (d : D) (v : V), d.nod = true → Is M H v d → Dp K H v d.toP
  | .non, _, _, h => by cases h; exact .non
  | .bl _, _, _, h => by cases h; exact .bl _
  | .int _, _, _, h => by cases h; exact .int _
  | .str _, _, _, h => by cases h; exact .str _
  | .lst ds, _, g, h => by
    cases h with
    | lst e n h => exact .lst (sqL_of e) (IsAll.dp ds _ (by simpa only [D.nod] using g) h)
  | .tup ds, _, g, h => by
    cases h with
    | tup e n h => exact .tup (sqT_of e) (IsAll.dp ds _ (by simpa only [D.nod] using g) h)
  | .dic, _, g, _ => by simp [D.nod] at g
theorem IsAll.dp : ∀ (ds : List D) (vs : List V), D.nods ds = true → IsAll M H vs ds → DpAll K H vs (D.toPs ds)
  | [], _, _, h => by cases h; exact .nil
  | d :: ds, _, g, h => by
    simp only [D.nods, Bool.and_eq_true] at g
    cases h with
    | cons h t => exact .cons (Is.dp d _ g.1 h) (IsAll.dp ds _ g.2 t)
end
end
theorem toPs_len : ∀ ds : List D, (D.toPs ds).length = ds.length
  | [] => rfl
  | d :: ds => by simp only [D.toPs, List.length_cons, toPs_len ds]
theorem toPs_mem : ∀ {ds : List D} {x : PyData}, x ∈ D.toPs ds → ∃ d, d ∈ ds ∧ x = d.toP
  | d :: ds, x, h => by
    simp only [D.toPs, List.mem_cons] at h
    rcases h with h | h
    · exact ⟨d, List.mem_cons_self, h⟩
    · obtain ⟨e, m, r⟩ := toPs_mem h
      exact ⟨e, List.mem_cons_of_mem _ m, r⟩
theorem nods_all : ∀ {ds : List D}, (∀ d ∈ ds, d.nod = true) → D.nods ds = true
  | [], _ => by simp [D.nods]
  | d :: ds, h => by
    simp only [D.nods, Bool.and_eq_true]
    exact ⟨h d List.mem_cons_self, nods_all fun x hx => h x (List.mem_cons_of_mem _ hx)⟩
/-- a number, a truth, a text of few signs, or a list of truths -/
def Cell (d : D) : Prop := (∃ i : Int, d = .int i ∧ i.natAbs < 2 ^ 1920) ∨ ∃ bs : List Bool, d = .lst (bs.map D.bl) ∧ bs.length ≤ 8
theorem Cell.nod {d : D} (h : Cell d) : d.nod = true := by
  rcases h with ⟨i, rfl, _⟩ | ⟨bs, rfl, _⟩
  · rfl
  · simp only [D.nod]
    exact nods_all fun d hd => by obtain ⟨b, _, rfl⟩ := List.mem_map.mp hd; rfl
theorem Cell.mix {d : D} (h : Cell d) : shb d.toP = true ∧ nsz d.toP ≤ 200 ∧ d.toP.depth ≤ 1 := by
  rcases h with ⟨i, rfl, hi⟩ | ⟨bs, rfl, hb⟩
  · have := leaf_int hi
    exact ⟨this.1, Nat.le_trans this.2.1 (by decide), by rw [show (D.int i).toP = .int i from rfl, this.2.2]; decide⟩
  · have lf : ∀ x ∈ D.toPs (bs.map D.bl), Leaf x := fun x hx => by
      obtain ⟨d, hd, rfl⟩ := toPs_mem hx
      obtain ⟨b, _, rfl⟩ := List.mem_map.mp hd
      exact leaf_bool b
    have a := nszs_all (n := 20) fun x hx => (lf x hx).2.1
    have b := depth_all (n := 0) fun x hx => Nat.le_of_eq (lf x hx).2.2
    rw [toPs_len, List.length_map] at a
    simp only [D.toP]
    exact ⟨by simpa only [shb] using shbs_all fun x hx => (lf x hx).1, by simp only [nsz]; omega, by simp only [PyData.depth]; omega⟩
theorem shw_cells {ds : List D} (h : ∀ d ∈ ds, Cell d) (hl : ds.length ≤ 39) : Shw (.list (D.toPs ds)) := by
  have m : ∀ x ∈ D.toPs ds, shb x = true ∧ nsz x ≤ 200 ∧ x.depth ≤ 1 := fun x hx => by
    obtain ⟨d, hd, rfl⟩ := toPs_mem hx
    exact (h d hd).mix
  have a := nszs_all (n := 200) fun x hx => (m x hx).2.1
  have b := depth_all (n := 1) fun x hx => (m x hx).2.2
  rw [toPs_len] at a
  exact ⟨by simpa only [shb] using shbs_all fun x hx => (m x hx).1, by simp only [nsz]; omega, by simp only [PyData.depth]; omega⟩
/-! ### how great it is: the longest text or row, how deep -/
mutual
def D.mx : D → Nat
  | .str s => s.length
  | .lst ds => max ds.length (D.mxs ds)
  | .tup ds => max ds.length (D.mxs ds)
  | _ => 0
def D.mxs : List D → Nat
  | [] => 0
  | d :: ds => max d.mx (D.mxs ds)
end
mutual
def D.dep : D → Nat
  | .lst ds => D.deps ds + 1
  | .tup ds => D.deps ds + 1
  | _ => 0
def D.deps : List D → Nat
  | [] => 0
  | d :: ds => max d.dep (D.deps ds)
end
end Vc
namespace Vc
open PySem PySem.Spec PyProof.Rows L2
/-! ### two lists that grow side by side, and the drawn numbers' list W -/
def M3 (T U W : Addr) (b : Addr) : Prop := b = T ∨ b = U ∨ b = W
def Apt (T U W : Addr) : Prop := T ≠ U ∧ T ≠ W ∧ U ≠ W
structure TDx (T U W : Addr) (tv uv : List V) (ds es : List D) (H : Hp) : Prop where
  t : H T = some (.lst tv)
  u : H U = some (.lst uv)
  w : Wl [] H W
  ap : Apt T U W
  ti : IsAll (M3 T U W) H tv ds
  ui : IsAll (M3 T U W) H uv es
section
variable {T U W : Addr} {tv uv : List V} {ds es : List D} {H H' : Hp}
theorem fr_T {o : HO} : Fr (M3 T U W) H (upd H T o) := fun b u n e => by rw [upd_ne fun z => n (.inl z)]; exact e
theorem fr_U {o : HO} : Fr (M3 T U W) H (upd H U o) := fun b u n e => by rw [upd_ne fun z => n (.inr (.inl z))]; exact e
theorem fr_W (s : Sx W H H') : Fr (M3 T U W) H H' := fun b u n e => s b u (fun z => n (.inr (.inr z))) e
theorem fr_S {M : Addr → Prop} (s : Same H H') : Fr M H H' := fun b u _ e => s b u e
theorem TDx.same (h : TDx T U W tv uv ds es H) (s : Same H H') : TDx T U W tv uv ds es H' := ⟨s _ _ h.t, s _ _ h.u, h.w.of s, h.ap, h.ti.fr (fr_S s), h.ui.fr (fr_S s)⟩
theorem TDx.sx (h : TDx T U W tv uv ds es H) (s : Sx W H H') (w : Wl [] H' W) : TDx T U W tv uv ds es H' := ⟨s _ _ h.ap.2.1 h.t, s _ _ h.ap.2.2 h.u, w, h.ap, h.ti.fr (fr_W s), h.ui.fr (fr_W s)⟩
theorem TDx.addT {v : V} {d : D} (h : TDx T U W tv uv ds es H) (i : Is (M3 T U W) H v d) : TDx T U W (tv ++ [v]) uv (ds ++ [d]) es (upd H T (.lst (tv ++ [v]))) :=
  ⟨upd_same, by rw [upd_ne h.ap.1.symm]; exact h.u, by obtain ⟨a, b, c, e⟩ := h.w; exact ⟨a, b, c, by rw [upd_ne h.ap.2.1.symm]; exact e⟩, h.ap, (h.ti.app (.cons i .nil)).fr fr_T, h.ui.fr fr_T⟩
theorem TDx.addU {v : V} {d : D} (h : TDx T U W tv uv ds es H) (i : Is (M3 T U W) H v d) : TDx T U W tv (uv ++ [v]) ds (es ++ [d]) (upd H U (.lst (uv ++ [v]))) :=
  ⟨by rw [upd_ne h.ap.1]; exact h.t, upd_same, by obtain ⟨a, b, c, e⟩ := h.w; exact ⟨a, b, c, by rw [upd_ne h.ap.2.2.symm]; exact e⟩, h.ap, h.ti.fr fr_U, (h.ui.app (.cons i .nil)).fr fr_U⟩
theorem TDx.free {p : Addr} (h : TDx T U W tv uv ds es H) (e : H p = none) : ¬ M3 T U W p := by
  rintro (rfl | rfl | rfl)
  · rw [h.t] at e; cases e
  · rw [h.u] at e; cases e
  · exact h.w.ne e rfl
theorem TDx.old (h : TDx T U W tv uv ds es H) : ∀ b, M3 T U W b → Old H b := fun b m z => h.free z m
theorem TDx.old' (h : TDx T U W tv uv ds es H) (s : Sx W H H') {v : V} {d : D} (i : Is (Old H) H' v d) : Is (M3 T U W) H' v d := i.weak h.old
end
theorem old_sx {W : Addr} {H H' : Hp} (s : Sx W H H') (w : Wl [] H' W) : ∀ b, Old H b → Old H' b := fun b h => by
  unfold Old at h ⊢
  by_cases e : b = W
  · subst e
    obtain ⟨_, _, _, z⟩ := w
    rw [z]
    exact fun z => nomatch z
  · cases q : H b with
    | none => exact absurd q h
    | some o => rw [s b o e q]; exact fun z => nomatch z
theorem wl_old {W : Addr} {H : Hp} (w : Wl [] H W) : Old H W := by
  obtain ⟨_, _, _, z⟩ := w
  unfold Old
  rw [z]
  exact fun z => nomatch z
theorem Is.sx {W : Addr} {H H1 H2 : Hp} {v : V} {d : D} (h : Is (Old H) H1 v d) (w : Wl [] H W) (s : Sx W H1 H2) : Is (Old H) H2 v d := h.fr fun b o n e => s b o (fun z => n (z ▸ wl_old w)) e
theorem all_of {α : Type} {P : α → Prop} [DecidablePred P] {xs : List α} (h : (xs.all fun x => decide (P x)) = true) (x : α) (hx : x ∈ xs) : P x := of_decide_eq_true (List.all_eq_true.mp h x hx)
end Vc
namespace Vc
open PySem PySem.Spec PyProof.Rows L2
theorem a_rep {l : Addr} {v : V} {H : Hp} {Q : VK} {k : Nat} (h : H l = some (.lst [v])) (hk : k ≤ 1000) (q : ∀ (p : Addr) (H' : Hp), H p = none → Same H H' → H' p = some (.lst (List.replicate k v)) → Q (.ref p) H') : rRep (.ref l) (.int (k : Int)) H Q := by
  refine ⟨l, k, [v], rfl, rfl, h, by omega, by omega, by rw [Int.toNat_natCast]; simp; exact Nat.le_trans hk (by decide), fun p hp => ?_⟩
  have := q p _ hp (same_new hp) upd_same
  rw [Int.toNat_natCast, show (List.replicate k [v]).flatten = List.replicate k v by simp]
  exact this
end Vc
namespace Vc
open PySem PySem.Spec PyProof.Rows L2
/-! ### a lambda of one parameter a, handed to a def as its second argument -/
structure Lam1 (sc scope : Scope) (a : Str) : Prop where
  kind : scope.kind = .function
  co : scope.isCoroutine = false
  gen : scope.isGenerator = false
  own : ∀ y ∈ scope.names, y.2 ≠ .cell ∧ (y.2 = .local → y.1 = a)
  par : scope.names.lookup a = some .local
  free : ∀ y ∈ scope.names, y.2 = .free → sc.names.lookup y.1 = some .cell ∨ sc.names.lookup y.1 = some .free
def lam1B (sc scope : Scope) (a : Str) : Bool :=
  decide (scope.kind = .function) && !scope.isCoroutine && !scope.isGenerator && (decide (scope.names.lookup a = some .local)) && scope.names.all fun y => !decide (y.2 = .cell) && (!decide (y.2 = .local) || decide (y.1 = a)) && (!decide (y.2 = .free) || decide (sc.names.lookup y.1 = some .cell) || decide (sc.names.lookup y.1 = some .free))
theorem lam1_by {sc scope : Scope} {a : Str} (h : lam1B sc scope a = true) : Lam1 sc scope a := by
  unfold lam1B at h
  simp only [Bool.and_eq_true, Bool.or_eq_true, Bool.not_eq_true', decide_eq_true_eq, decide_eq_false_iff_not, List.all_eq_true] at h
  obtain ⟨⟨⟨⟨h1, h2⟩, h3⟩, h5⟩, h4⟩ := h
  refine ⟨h1, h2, h3, fun y hy => ⟨(h4 y hy).1.1, fun e => ?_⟩, h5, fun y hy e => ?_⟩
  · rcases (h4 y hy).1.2 with z | z
    · exact absurd e z
    · exact z
  · rcases (h4 y hy).2 with (z | z) | z
    · exact absurd e z
    · exact .inl z
    · exact .inr z
theorem Lam1.has {X : Cx} {scope : Scope} {a : Str} (L : Lam1 X.env.scope scope a) (ok : X.Ok) : ∀ y ∈ scope.names, y.2 = .free → ∃ c, X.env.cells.lookup y.1 = some c := fun y hy e => by
  rcases L.free y hy e with k | k
  · exact ok.has _ (.inl k)
  · exact ok.has _ (.inr k)
def lamCx1 (X : Cx) (a : Str) (A : Around) (outer : List Env) (s : Shared) (H : Hp) (scope : Scope) (f c' : Addr) : Cx where
  prog := X.prog
  w := X.w
  K := X.K
  mg := X.mg
  base := X.base
  A := A.deeper (LamX.lamEnv X scope s.heap.objs.size f c')
  N := X.N ++ [a]
  s_0 := s
  H_0 := H
  env := LamX.lamEnv X scope s.heap.objs.size f c'
  outer := outer
  stack := LamX.lamEnv X scope s.heap.objs.size f c' :: outer
  ex := []
  fn := fun _ => false
  calm := true
  pn := []
  xe := fun _ _ => False
section
variable {X : Cx} {pins : List (Addr × Obj)} {σ : L2.St} {H HZ : Hp} {s s1 : Shared}
theorem lam_start1 {A : Around} {outer : List Env} {scope : Scope} {f c' : Addr} {h₁ : Heap} {tk : Nat} {a : Str} {v : V} {u : Value} (I : Inv X pins σ H s) (L : Lam1 X.env.scope scope a) (hna : a ∉ X.N) (e0 : Env0 X.prog X.w X.K X.mg X.base A outer s1 HZ) (hd : A.handled = none)
    (un : Un (frs X.stack) [] H HZ s.heap s1.heap) (rv : RelV v u) (hns : h₁.Ns s1.heap.objs.size fun y => ([(a, u)] : List (Str × Value)).reverse.lookup y) (kp : ∀ b o, s1.heap.get? b = some o → h₁.get? b = some o) :
    Inv (lamCx1 X a A outer s1 HZ scope f c') [] (σ ++ [some v]) HZ { s1 with heap := h₁, toks := tk } := by
  have hfree := L.has I.ok
  have cm : ∀ {y c}, (cloFrom X.env.cells scope.names []).lookup y = some c → X.env.cells.lookup y = some c := fun {y c} e => by
    rcases cloFrom_mem (PySem.mem_of_lookup e) with hm | ⟨h1, h2⟩
    · cases hm
    · obtain ⟨c1, hc⟩ := hfree _ h1 rfl
      have hc : X.env.cells.lookup y = some c1 := hc
      have e2 : c = c1 := by
        rw [h2, hc] <;> rfl
      rw [e2]
      exact hc
  have look : ∀ {y}, scope.names.lookup y = some .free → ∃ c, (cloFrom X.env.cells scope.names []).lookup y = some c := fun {y} hl => by
    have hy : (y, NameKind.free) ∈ scope.names := PySem.mem_of_lookup hl
    exact mem_lookup (cloFrom_has (cells := X.env.cells) (acc := []) hy)
  have cellK : ∀ {c : Addr} {v : Option Value}, H c = none → s.heap.IsCell c v → h₁.IsCell c v := fun {c v} n ⟨o, ho, hd⟩ => by
    obtain ⟨sl, q⟩ := un.any ho n (by simp)
    exact ⟨_, kp _ _ q, hd⟩
  have noA : ∀ b : Addr, b ∉ (lamCx1 X a A outer s1 HZ scope f c').ex := fun b z => absurd (show b ∈ ([] : List Addr) from z) (by simp)
  refine ⟨⟨e0.mod, L.kind, rfl, rfl, Nat.le_refl _, fun y z c e1 e2 => I.ok.inj y z c (cm e1) (cm e2), fun y hy => ?_, fun y c z _ => ?_, fun _ => hd, Around.frames_deeper e0.frames, .inr ⟨rfl, rfl⟩, fun b z => absurd z (noA b), e0.bs, e0.bsz, fun b _ _ => noA b,
      fun b z => absurd z (noA b), e0.funs, e0.frf⟩,
    rfl, e0.bare, Un.kept kp, ⟨_, hns, fun i y v e1 e2 e3 => ?_⟩, fun y c e => ?_, e0.hok.fresh (Nat.le_refl _), fun y c e => ?_, fun q hq => absurd (show q ∈ ([] : List (Addr × Obj)) ++ [] from hq) (by simp), e0.hok.kept kp, ?_⟩
  · have hy : scope.names.lookup y = some .cell ∨ scope.names.lookup y = some .free := hy
    rcases hy with hy | hy
    · exact absurd rfl (L.own _ (PySem.mem_of_lookup hy)).1
    · exact look hy
  · have z : false = true := z
    cases z
  · have e1 : (X.N ++ [a])[i]? = some y := e1
    have e3 : Vis scope y := e3
    rcases Nat.lt_or_ge i X.N.length with hi | hi
    · rw [List.getElem?_append_left hi] at e1
      rw [List.getElem?_append_left (by rw [I.len]; exact hi)] at e2
      have ya : y ≠ a := fun z => hna (z ▸ List.mem_of_getElem? e1)
      rcases e3 with k | k | k
      · exact absurd ((L.own _ (PySem.mem_of_lookup k)).2 rfl) ya
      · exact absurd rfl (L.own _ (PySem.mem_of_lookup k)).1
      · obtain ⟨m, hn, hl⟩ := I.loc
        have hvis : Vis X.env.scope y := (L.free _ (PySem.mem_of_lookup k) rfl).elim (fun k => .inr (.inl k)) (fun k => .inr (.inr k))
        obtain ⟨w', r, q⟩ := hl i y v e1 e2 hvis
        obtain ⟨c2, h2⟩ := look k
        refine ⟨w', r, .inr ⟨.inr k, c2, h2, ?_⟩⟩
        have c1 := cm h2
        rcases q with ⟨k', _⟩ | ⟨_, c3, e', z⟩
        · have k' : X.env.scope.names.lookup y = some .local := k'
          rcases L.free _ (PySem.mem_of_lookup k) rfl with k2 | k2 <;> rw [show X.env.scope.names.lookup y = _ from k2] at k' <;> cases k'
        · rw [c1] at e'
          cases e'
          exact cellK (I.freeC y _ c1) z
    · rw [List.getElem?_append_right hi] at e1
      rw [List.getElem?_append_right (by rw [I.len]; exact hi), I.len] at e2
      have h0 : i - X.N.length = 0 := by
        rcases Nat.eq_zero_or_pos (i - X.N.length) with z | z
        · exact z
        · rw [List.getElem?_eq_none (by simp; omega)] at e1
          cases e1
      rw [h0] at e1 e2
      cases e1
      cases e2
      exact ⟨u, rv, .inl ⟨L.par, by simp⟩⟩
  · obtain ⟨w', z⟩ := I.cell y c (cm e)
    exact ⟨w', cellK (I.freeC y c (cm e)) z⟩
  · obtain ⟨v, o, ho, hd⟩ := I.cell y c (cm e)
    exact un.free c o ho (I.freeC y c (cm e)) (by simp)
  · show (σ ++ [some v]).length = (X.N ++ [a]).length
    rw [List.length_append, List.length_append, I.len]
    rfl
/-- x(e), in the def that got the lambda: Z is that def's context, entered at s -/
theorem pe_act1 {Ng : List Str} {qg : Str} {sg : Scope} {g f c' : Addr} {cdg pm ctv : Value} {params : Arguments} {body : Expr} {scope : Scope} {k i : Nat} {a b : Str} {tb te : TE} {e : Expr} {p1 p2 : Pos}
    (I : Inv X pins σ H s) (L : Lam1 X.env.scope scope a) (hna : a ∉ X.N) (hf : s.heap.get? f = some (PySem.W.kla_obj "<lambda>" (X.env.qual ++ "<lambda>") params body scope (cloFrom X.env.cells scope.names []) pm c' ctv)) (hfn : H f = none) (hfr : f ∉ frs X.stack)
    (hbind : ∀ u, bindArgs (PySem.W.kla_fn "<lambda>" (X.env.qual ++ "<lambda>") params body scope (cloFrom X.env.cells scope.names []) pm (.ref c') ctv) ⟨[u], []⟩ = pure [(a, u)])
    {gd : Prop} (hgd : gd → X.A.guards = some []) (hr : Room (k + 1) (X.A.deeper (envOfC qg sg s.heap.objs.size g cdg)))
    (hbody : ∀ (A : Around) (outer : List Env) (s : Shared) (H : Hp), (gd → (A.deeper (LamX.lamEnv X scope s.heap.objs.size f c')).guards = some []) → Room k (A.deeper (LamX.lamEnv X scope s.heap.objs.size f c')) → PE (lamCx1 X a A outer s H scope f c') body tb)
    (hN : Ng[i]? = some b) (hv : Vis sg b) (he : PE (cxOf CX0 X.prog X.w X.K X.mg X.base Ng qg sg g cdg X.A X.stack s H E0).nox e te) (hd : (b == ("__debug__" : Str)) = false := by decide) (hcd : (b == ("__classdict__" : Str)) = false := by decide)
    (hse : starEach [e] (envOfC qg sg s.heap.objs.size g cdg) = [(false, eval e (envOfC qg sg s.heap.objs.size g cdg))] := by rfl) :
    PE (cxOf CX0 X.prog X.w X.K X.mg X.base Ng qg sg g cdg X.A X.stack s H E0).nox (.Call (.Name b p1) [e] [] p2)
      (fun σZ HZ Q => σZ[i]? = some (some (.ref f)) ∧ te σZ HZ fun v H1 => H1 c' = some (LamX.CodeO c' (X.env.qual ++ "<lambda>")) ∧ tb (σ ++ [some v]) H1 Q) := by
  refine ⟨fun pinsZ sZ σZ HZ Q IZ h => ?_⟩
  obtain ⟨hs, ht⟩ := h
  refine wpAny_Call_Name_kw (thn ((pe_var (pos := p1) (i := i) hN hv hd hcd).run pinsZ sZ σZ HZ (fun v H1 => v = .ref f ∧ H1 = HZ) IZ ⟨.ref f, hs, rfl, rfl⟩) fun u s1 ⟨v, H1, I1, r1, q1⟩ => ?_)
  obtain ⟨ev, eH⟩ := q1
  subst ev
  rw [eH] at I1
  obtain rfl : u = Value.ref f := r1
  have at_ : ∀ {p : List (Addr × Obj)} {σ : L2.St} {H' : Hp} {s' : Shared}, Inv (cxOf CX0 X.prog X.w X.K X.mg X.base Ng qg sg g cdg X.A X.stack s H E0).nox p σ H' s' → s'.heap.get? f = some (PySem.W.kla_obj "<lambda>" (X.env.qual ++ "<lambda>") params body scope (cloFrom X.env.cells scope.names []) pm c' ctv) :=
    fun J => J.base.keep f _ hf hfn hfr (fun z => nomatch (show f ∈ ([] : List Addr) from z))
  refine PySem.W.callWith_F ⟨_, _, _, _, at_ I1⟩ (thn ((pa_cons he pa_nil hse).run p2 pinsZ s1 σZ HZ (fun vs H1 => match vs with | [v] => H1 c' = some (LamX.CodeO c' (X.env.qual ++ "<lambda>")) ∧ tb (σ ++ [some v]) H1 Q | _ => False) I1 ht) fun us s2 hh => ?_) hse rfl
  obtain ⟨vs, H2, I2, r2, q2⟩ := hh
  obtain ⟨v, u, rfl, rfl, ru, hc, hb⟩ : ∃ v u, vs = [v] ∧ us = [u] ∧ RelV v u ∧ H2 c' = some (LamX.CodeO c' (X.env.qual ++ "<lambda>")) ∧ tb (σ ++ [some v]) H2 Q := by
    cases r2 with
    | nil => exact q2.elim
    | cons a r =>
      cases r with
      | nil => exact ⟨_, _, rfl, rfl, a, q2.1, q2.2⟩
      | cons _ _ => exact q2.elim
  refine ⟨⟨_, _, _, _, at_ I2⟩, ?_⟩
  have un : Un (frs X.stack) [] H H2 s.heap s2.heap := I2.base
  obtain ⟨⟨oc, vs, t, hoc, hdc, hvc⟩, _, _⟩ := I2.hok c' _ hc
  have rc : codeAny (model X.prog X.w) (X.A.deeper (envOfC qg sg s.heap.objs.size g cdg)) (.call (.ref f) ⟨[u], []⟩) (CR CX0 (envOfC qg sg s.heap.objs.size g cdg :: X.stack) X.prog X.w H2 s2 Q E0) s2 := by
    refine PySem.W.kla_callFunE hr.depth (at_ I2) rfl L.co L.gen rfl ⟨c', oc, vs, t, rfl, hoc, hdc, hvc⟩ ?_
    rw [hbind]
    refine wpAny_pure (wpAny_newFunctionEnv (fun y hy => (L.own y hy).1) (fun y hy => by rw [List.mem_singleton.mp hy]; exact L.par) (fun h₁ hns hsb => ⟨I2.nolimit.fresh _ hsb, ?_⟩) L.kind)
    show codeAny _ _ (.expr body (LamX.lamEnv X scope s2.heap.objs.size f c')) _ _
    have kp : ∀ b o, s2.heap.get? b = some o → h₁.get? b = some o := fun b o e => hsb.extBut b o (Nat.ne_of_lt (Heap.lt_size e)) (Heap.get?_push_of_some _ e)
    have J := lam_start1 (A := X.A.deeper (envOfC qg sg s.heap.objs.size g cdg)) (outer := envOfC qg sg s.heap.objs.size g cdg :: X.stack) (f := f) (c' := c') (tk := s2.toks + ([(a, u)] : List (Str × Value)).length) I L hna I2.env0 hr.hd un ru hns kp
    refine PySem.W.kla_codeExpr (wpAny_mono ((hbody (X.A.deeper (envOfC qg sg s.heap.objs.size g cdg)) _ s2 H2 hgd (hr.deeper _)).run [] _ _ H2 Q J hb) (fun v s' hq => ?_) fun e s' hq => (show False from hq).elim)
    obtain ⟨w', H', J', rv, q⟩ := hq
    exact ⟨w', H', J'.os, J'.bare, J'.base, J'.hok, rv, q⟩
  refine wpAny_call (codeAny_mono rc fun r s' hq => ?_)
  cases r with
  | error e => exact (show False from hq).elim
  | ok fl =>
    cases fl with
    | ret u => exact I2.after hq
    | next => exact False.elim hq
    | brk => exact False.elim hq
    | cont => exact False.elim hq
end
/-- what the def that got it makes of the lambda's reading -/
def Gives2 (P : Program) (w : World) (K : PySem.W.Frag) (mg : Str → Option Value) (base : Heap) (A : Around) (stk : List Env) (Ng : List Str) (x : Str) (sg : Scope) (g : Addr) (cdg : Value) (bg : List Stmt) (b : Str) (q : Str) (TT : (V → Hp → VK → Prop) → V → Hp → VK → Prop) : Prop :=
  ∀ (f : Addr) (C0 : Hp → Prop) (s : Shared) (H : Hp) (v0 : V) (Q : VK) (tl gl : V → Hp → VK → Prop),
    (∀ v H Q, C0 H → tl v H Q → gl v H Q) → (∀ H H', Same H H' → C0 H → C0 H') →
    (∀ (e : Expr) (te : TE) (p1 p2 : Pos), PE (cxOf CX0 P w K mg base Ng x sg g cdg A stk s H E0).nox e te → starEach [e] (envOfC x sg s.heap.objs.size g cdg) = [(false, eval e (envOfC x sg s.heap.objs.size g cdg))] →
      PE (cxOf CX0 P w K mg base Ng x sg g cdg A stk s H E0).nox (.Call (.Name b p1) [e] [] p2) (fun σZ HZ Q => σZ[1]? = some (some (.ref f)) ∧ te σZ HZ fun v H1 => gl v H1 Q)) →
    C0 H → TT tl v0 H Q →
    ∃ t, PSs (cxOf CX0 P w K mg base Ng x sg g cdg A stk s H E0).nox bg t ∧ t { nx := fun _ H' => Q .non H', rt := Q } (L2.start Ng [v0, .ref f]) H
def tLam2 (T : List (Addr × Str)) (TT : (V → Hp → VK → Prop) → V → Hp → VK → Prop) (te tb : TE) : TE := fun σ H Q =>
  te σ H fun v0 H1 => LamX.Tabs T H1 ∧ ∀ H2, LamX.ExtN H1 H2 → LamX.Tabs T H2 → TT (fun v H' Q' => tb (σ ++ [some v]) H' Q') v0 H2 Q
section
variable {X : Cx}
theorem pe_lamcall2 {T : List (Addr × Str)} {TT : (V → Hp → VK → Prop) → V → Hp → VK → Prop} {x a b : Str} {x0 : Str} {g c P : Addr} {k : Nat} {st : Stmt} {fd : FuncData} {Ng : List Str}
    {params : Arguments} {body e0 : Expr} {scope : Scope} {te tb : TE} {p lpos pos : Pos} (hg : Gl X x) (hm : X.mg x = some (.ref g)) (F : Fun X.K x x st g fd) (hb : L2.Binds X.K fd [x0, b] []) (Sg : FnScope Ng [x0, b] (defScope st)) (hNg : Ng[1]? = some b) (hva : Vis (defScope st) b)
    (hG : ∀ cdv, Gives2 X.prog X.w X.K X.mg X.base X.A X.stack Ng x (defScope st) g cdv (defBody st) b (X.env.qual ++ "<lambda>") TT)
    (TB : LamX.TabB X.base X.mg c P) (hcode : X.env.code = .ref c) (hmT : (P, X.env.qual ++ "<lambda>") ∈ T) (hu : ∀ p ∈ T, p.1 = P → p.2 = X.env.qual ++ "<lambda>") {gd : Prop} (hgd : gd → X.A.guards = some []) (hr : Room (k + 2) X.A) (L : Lam1 X.env.scope scope a) (hna : a ∉ X.N) (hdef : defaultsOf params X.env = ([], []))
    (hbind : ∀ (q : Str) (cl : List (Str × Addr)) (pm cv ctv u : Value), bindArgs (PySem.W.kla_fn "<lambda>" q params body scope cl pm cv ctv) ⟨[u], []⟩ = pure [(a, u)])
    (he : PE X e0 te)
    (hbody : ∀ (A : Around) (outer : List Env) (s : Shared) (H : Hp) (f c' : Addr), (gd → (A.deeper (LamX.lamEnv X scope s.heap.objs.size f c')).guards = some []) → Room k (A.deeper (LamX.lamEnv X scope s.heap.objs.size f c')) → PE (lamCx1 X a A outer s H scope f c') body tb)
    (hdb : (x == ("__debug__" : Str)) = false := by decide) (hd : (b == ("__debug__" : Str)) = false := by decide) (hcd : (b == ("__classdict__" : Str)) = false := by decide)
    (hs1 : starEach (e0 :: [.Lambda params body scope lpos]) X.env = (false, eval e0 X.env) :: starEach [.Lambda params body scope lpos] X.env := by rfl) :
    PE X (.Call (.Name x p) [e0, .Lambda params body scope lpos] [] pos) (tLam2 T TT te tb) := by
  obtain ⟨oc, od, kV, doc, pm, an, cdv, ct, osl, rfl, lk, hcg⟩ := F.ex
  refine ⟨fun pins s σ H Q I h => ?_⟩
  refine wpAny_Call_Name_kw (ld_glob I hg hm ?_ hdb)
  refine PySem.W.callWith_K (h₀ := X.base) I.ok.mod.kin F.kp ?_ hs1 (by rfl)
  rw [hs1]
  show wpAny _ _ (spliced ((false, _) :: backTo pos (starEach [.Lambda params body scope lpos] X.env))) _ _ s
  refine Calls.spliced_cons (thn (he.run pins s σ H _ I h) fun u0 s1 ⟨v0, H1, I1, r0, hT, h⟩ => ?_)
  refine Calls.spliced_cons (LamX.lam_make2 I1 TB hcode hmT hu hT hdef (L.has I.ok) fun f c' pm' ctv H2 s' I2 eN T1 hf hfn hfr hco => ?_)
  refine Calls.spliced_nil ⟨I2.kIn, ?_⟩
  have rc : codeAny (model X.prog X.w) X.A (.call (.ref g) ⟨[u0, .ref f], []⟩) (CR CX0 X.stack X.prog X.w H2 s' Q E0) s' := by
    refine LamX.run_ofS (N := Ng) (ps := [x0, b]) (us := [u0, .ref f]) (vs := [v0, .ref f]) lk hcg Sg hr I2.env0 (hb s' [u0, .ref f] I2.kIn rfl) (.cons r0 (.cons rfl .nil)) rfl fun hr' => ?_
    obtain ⟨t', ht', hq'⟩ := hG cdv f (fun H => H c' = some (LamX.CodeO c' (X.env.qual ++ "<lambda>"))) s' H2 v0 Q (fun v H' Q' => tb (σ ++ [some v]) H' Q') (fun v H' Q' => H' c' = some (LamX.CodeO c' (X.env.qual ++ "<lambda>")) ∧ tb (σ ++ [some v]) H' Q') (fun _ _ _ a b => ⟨a, b⟩) (fun _ _ z e => z _ _ e) (fun e te p1 p2 he hse => pe_act1 (i := 1) I2 L hna hf hfn hfr (hbind _ _ _ _ _) hgd hr' (fun A outer s H hg2 hr2 => hbody A outer s H f c' hg2 hr2) hNg hva he hd hcd hse) hco (h H2 eN T1)
    exact ⟨t', ht'.nox, hq'⟩
  refine wpAny_call (codeAny_mono rc fun r s2 hq => ?_)
  cases r with
  | error e => exact (show False from hq).elim
  | ok fl =>
    cases fl with
    | ret u => exact I2.after hq
    | next => exact False.elim hq
    | brk => exact False.elim hq
    | cont => exact False.elim hq
end

/-! ### first_wrong, by the truths that its test tells -/
def fwV : Nat → List Bool → V
  | _, [] => .non
  | i, true :: r => fwV (i + 1) r
  | i, false :: _ => .int (i : Nat)
theorem fwV_all {i n : Nat} : fwV i (List.replicate n true) = .non := by
  induction n generalizing i with
  | zero => rfl
  | succ n ih => rw [List.replicate_succ]; exact ih
def TTfw (K : PySem.W.Frag) (tl : V → Hp → VK → Prop) (v0 : V) (H : Hp) (Q : VK) : Prop := ∃ (p : Addr) (xs : List V) (bs : List Bool), v0 = .ref p ∧ SqT K H p xs ∧ bs.length = xs.length ∧
  (∀ (i : Nat) x b H', xs[i]? = some x → bs[i]? = some b → Same H H' → ∀ Q' : VK, (∀ H'', Same H' H'' → Q' (.bl b) H'') → tl x H' Q') ∧ ∀ H', Same H H' → Q (fwV 0 bs) H'
theorem fw_step {bs : List Bool} {i : Nat} {b : Bool} (h : bs[i]? = some b) : fwV i (bs.drop i) = if b then fwV (i + 1) (bs.drop (i + 1)) else .int (i : Nat) := by
  have hi : i < bs.length := (List.getElem?_eq_some_iff.mp h).1
  rw [List.drop_eq_getElem_cons hi, show bs[i] = b from (List.getElem?_eq_some_iff.mp h).2]
  cases b <;> rfl
theorem v_lam {T : List (Addr × Str)} {TT : (V → Hp → VK → Prop) → V → Hp → VK → Prop} {te tb : TE} {σ : L2.St} {H : Hp} {Q : VK} (h : te σ H fun v0 H1 => LamX.Tabs T H1 ∧ ∀ H2, LamX.ExtN H1 H2 → LamX.Tabs T H2 → TT (fun v H' Q' => tb (σ ++ [some v]) H' Q') v0 H2 Q) : tLam2 T TT te tb σ H Q := h
end Vc
namespace Vc
open PySem PySem.Spec PyProof.Rows L2
/-! ### defs that make code: their code objects and tables -/
abbrev Cds := List (Addr × Addr × Str)
def Tb (cs : Cds) (H : Hp) : Prop := ∀ p ∈ cs, LamX.TabS H p.2.1 p.2.2
/-- all but the tables stays, and they go on telling their own code -/
def Ex (cs : Cds) (H H' : Hp) : Prop := LamX.ExtN H H' ∧ (Tb cs H → Tb cs H')
theorem Ex.refl {cs : Cds} {H : Hp} : Ex cs H H := ⟨fun _ _ e _ => e, fun t => t⟩
theorem Ex.trans {cs : Cds} {H H1 H2 : Hp} (a : Ex cs H H1) (b : Ex cs H1 H2) : Ex cs H H2 := ⟨fun c o e n => b.1 c o (a.1 c o e n) n, fun t => b.2 (a.2 t)⟩
theorem Tb.same {cs : Cds} {H H' : Hp} (t : Tb cs H) (s : Same H H') : Tb cs H' := fun p hp => (t p hp).ext s
theorem Ex.of {cs : Cds} {H H' : Hp} (s : Same H H') : Ex cs H H' := ⟨fun c o e _ => s c o e, fun t => t.same s⟩
theorem Ex.tup {cs : Cds} {H H' : Hp} {p : Addr} {xs : List V} (x : Ex cs H H') (h : H p = some (.tup xs)) : H' p = some (.tup xs) := x.1 _ _ h fun _ z => nomatch z
theorem Ex.lst {cs : Cds} {H H' : Hp} {p : Addr} {xs : List V} (x : Ex cs H H') (h : H p = some (.lst xs)) : H' p = some (.lst xs) := x.1 _ _ h fun _ z => nomatch z
theorem Ex.seqT {cs : Cds} {K : PySem.W.Frag} {H H' : Hp} {p : Addr} {xs : List V} (x : Ex cs H H') (h : SqT K H p xs) : SqT K H' p xs := by
  rcases h with (h | ⟨o, h⟩) | h
  · exact .inl (.inl (x.tup h))
  · exact .inl (.inr ⟨o, x.1 _ _ h fun _ z => nomatch z⟩)
  · exact .inr h
theorem Ex.seqL {cs : Cds} {K : PySem.W.Frag} {H H' : Hp} {p : Addr} {xs : List V} (x : Ex cs H H') (h : SqL K H p xs) : SqL K H' p xs := by
  rcases h with (h | ⟨o, h⟩) | h
  · exact .inl (.inl (x.lst h))
  · exact .inl (.inr ⟨o, x.1 _ _ h fun _ z => nomatch z⟩)
  · exact .inr h
/-- all but W and the tables stays -/
def Sy (cs : Cds) (W : Addr) (H H' : Hp) : Prop := (∀ b o, b ≠ W → H b = some o → (∀ ps, o ≠ .tbl ps) → H' b = some o) ∧ (Tb cs H → Tb cs H')
theorem Sy.trans {cs : Cds} {W : Addr} {H H1 H2 : Hp} (a : Sy cs W H H1) (b : Sy cs W H1 H2) : Sy cs W H H2 := ⟨fun c o n e t => b.1 c o n (a.1 c o n e t) t, fun t => b.2 (a.2 t)⟩
theorem Sy.ex {cs : Cds} {W : Addr} {H H' : Hp} (x : Ex cs H H') : Sy cs W H H' := ⟨fun b o _ e t => x.1 b o e t, x.2⟩
/-- the drawn numbers' list is no table -/
theorem tb_sx {cs : Cds} {tl : List V} {W : Addr} {H H' : Hp} (w : Wl tl H W) (s : Sx W H H') (t : Tb cs H) : Tb cs H' := fun p hp => by
  obtain ⟨ps, h1, h2, h3⟩ := t p hp
  obtain ⟨a, b, c, eW⟩ := w
  have nW : ∀ {b : Addr} {o : HO}, H b = some o → (∀ xs, o ≠ .lst xs) → b ≠ W := fun e n z => by
    rw [z, eW] at e
    exact n _ (Option.some.inj e).symm
  refine ⟨ps, s _ _ (nW h1 fun _ z => nomatch z) h1, h2, fun pos cv hc => ?_⟩
  obtain ⟨c, e1, e2⟩ := h3 pos cv hc
  exact ⟨c, e1, s _ _ (nW e2 fun _ z => by unfold LamX.CodeO at z; cases z) e2⟩
theorem Sy.sx {cs : Cds} {tl : List V} {W : Addr} {H H' : Hp} (w : Wl tl H W) (s : Sx W H H') : Sy cs W H H' := ⟨fun b o n e _ => s b o n e, tb_sx w s⟩
theorem Wl.ex {cs : Cds} {tl : List V} {W : Addr} {H H' : Hp} (w : Wl tl H W) (x : Ex cs H H') : Wl tl H' W := by
  obtain ⟨a, b, c, e⟩ := w
  exact ⟨a, b, c, x.lst e⟩
structure FunC (K : PySem.W.Frag) (x qual : Str) (st : Stmt) (f : Addr) (fd : FuncData) (c : Addr) : Prop where
  ex : ∃ (oc : Value) (od : Option Addr) (kV doc pm : Value) (an : Option Addr) (ct : Value) (osl : Array (Option Value)),
    fd = PySem.W.fnOf x qual (defArgs st) (defBody st) (defScope st) .none kV doc pm an (.ref c) ct ∧ K.lookup f = some ⟨oc, od, .func fd, osl⟩ ∧ PySem.W.codeIn K (.ref c) qual = true
section
variable {P : Program} {w : World} {K : PySem.W.Frag} {mg : Str → Option Value} {base : Heap}
theorem func_mk {x qual : Str} {st : Stmt} {f c : Addr} {oc : Value} {od an : Option Addr} {osl : Array (Option Value)} {kV doc pm ct : Value} (l : K.lookup f = some ⟨oc, od, .func (PySem.W.fnOf x qual (defArgs st) (defBody st) (defScope st) .none kV doc pm an (.ref c) ct), osl⟩)
    (h : PySem.W.codeIn K (.ref c) qual = true) : FunC K x qual st f (PySem.W.fnOf x qual (defArgs st) (defBody st) (defScope st) .none kV doc pm an (.ref c) ct) c := ⟨oc, od, kV, doc, pm, an, ct, osl, rfl, l, h⟩
theorem okC {x qual : Str} {st : Stmt} {f c : Addr} {fd : FuncData} {N ps : List Str} {k : Nat} {sp : Sp} (F : FunC K x qual st f fd c) (S : FnScope N ps (defScope st)) (len : ∀ vs H Q E, sp vs H Q E → vs.length = ps.length)
    (hbody : ∀ (A : Around) (outer : List Env) (s : Shared) (H : Hp) (vs : List V) (Q : VK), (A.deeper (envOfC qual (defScope st) s.heap.objs.size f (.ref c))).guards = some [] → Room k (A.deeper (envOfC qual (defScope st) s.heap.objs.size f (.ref c))) → sp vs H Q E0 →
      ∃ t, PSs (cxOf CX0 P w K mg base N qual (defScope st) f (.ref c) A outer s H E0).nox (defBody st) t ∧ t { nx := fun _ H' => Q .non H', rt := Q } (start N vs) H) : FnG P w K mg base (k + 1) f fd ps sp := by
  obtain ⟨oc, od, kV, doc, pm, an, ct, osl, rfl, lk, hcd⟩ := F.ex
  refine ⟨len, fun A outer s H args us vs Q hgd hr e0 hb r hsp => ?_⟩
  have kin : K.In s.heap := e0.mod.kin.keeps fun b o e => (e0.bs b o e).1
  have lim := e0.mod.nolimit.keeps fun b o e => (e0.bs b o e).1
  refine codeAny_call_function hr.depth (kin _ _ lk) rfl S.co S.gen rfl (PySem.W.codeRec_of kin hcd) (hb _ _ _ _ ?_)
  refine wpAny_newFunctionEnv_cells S.kind (fun y hy => ?_) fun env he s1 xx => ?_
  · rcases S.par y.1 (List.of_mem_zip hy).1 with z | z
    · exact Or.inl z
    · exact Or.inr ⟨z, PySem.W.cellsFrom_some _ _ _ (Or.inl z)⟩
  · subst he
    refine ⟨lim.keeps xx.toInCall.keep, codeAny_func ?_⟩
    obtain ⟨t, ht0, hq⟩ := hbody A outer s H vs Q hgd (hr.deeper _) hsp
    have I := inv_start (CX := CX0) (E := E0) (w := w) (P := P) S hr.hd e0 (len _ _ _ _ hsp) r xx
    refine wpAny_mono (ht0.nox.run [] s1 (start N vs) H _ I hq) (fun fl s' hs => ?_) fun e s' hs => hs
    cases fl with
    | ret u => obtain ⟨v, σ', H', J, rv, q⟩ := hs; exact ⟨v, H', J.os, J.bare, J.base, J.hok, rv, q⟩
    | next => obtain ⟨σ', H', J, q⟩ := hs; exact ⟨V.non, H', J.os, J.bare, J.base, J.hok, rfl, q⟩
    | brk => obtain ⟨_, _, _, q⟩ := hs; exact q.elim
    | cont => obtain ⟨_, _, _, q⟩ := hs; exact q.elim
end
/-! ### the end of a law whose defs make code -/
section
variable {P : Program} {w : World} {K : PySem.W.Frag} {mg mb : Str → Option Value} {k : Nat} {fa a : Addr} {fd : FuncData} {x : Str} {sp : Sp} {s : Shared} {vs : List Value} {ns : List Int} {cs : Cds}
/-- the tables' places -/
abbrev tabs (cs : Cds) : List Addr := cs.map (·.2.1)
theorem fromTopT (H : Hp) (hTab : ∀ p ∈ cs, H p.2.1 = some (.tbl #[])) (hA : ∀ b o, H b = some o → b = a ∨ b ∈ tabs cs) (hK : ∀ o, H a = some o → K.lookup a = none) (hO : ∀ b o, H b = some o → (∃ ob xs, o = .frz ob (.lst xs)) ∨ b ∈ tabs cs) (hS : SqL K H a (ns.map V.int)) (hok : HOk P w H s.heap)
    (tT : ∀ p ∈ cs, s.heap.get? p.2.1 = some (PySem.W.tabObj #[])) (tK : ∀ p ∈ cs, K.lookup p.2.1 = none) (tC : ∀ p ∈ cs, PySem.W.CodeHd s.heap p.1 p.2.1)
    (tM : ∃ (bm : Addr) (ob : Obj), mg "__builtins__" = some (.ref bm) ∧ bm ≠ builtinsNs ∧ s.heap.get? bm = some ob ∧ ob.cls = .type "module" ∧ ob.dict = some builtinsNs ∧ ob.data = .plain)
    (kin : K.In s.heap) (hns : s.heap.Ns mainGlobals mg) (hb : s.heap.Ns builtinsNs mb) (hbb : ∀ y : Str, y ≠ "__name__" → mb y = bootBuiltins y) (lim : s.heap.NoLimit) (hg : s.gens = #[])
    (ha : s.heap.get? a = some { cls := .type "list", data := .seq vs.toArray }) (hi : IntsAre vs ns) (hr : Room k callerA)
    (F : ∀ base : Heap, K.In base → base.Ns mainGlobals mg → (∀ p ∈ cs, LamX.TabB base mg p.1 p.2.1) → FnG P w K mg base k fa fd [x] sp) (hbind : ∀ (s : Shared) (u : Value), BindsTo s fd ⟨[u], []⟩ [(x, u)]) (hsp : sp [.ref a] H (fun v _ => v = .bl true) E0) :
    codeAny (model P w) callerA (.call (.ref fa) ⟨[.ref a], []⟩) (fun r s' => r = .ok (.ret (.bool true)) ∧ OldK s.heap s'.heap ∧ s'.os = s.os ∧ AllBare s'.gens) s := by
  have isT : ∀ b ∈ tabs cs, s.heap.get? b = some (PySem.W.tabObj #[]) := fun b z => by
    obtain ⟨p, hp, rfl⟩ := List.mem_map.mp z
    exact tT p hp
  have isK : ∀ b ∈ tabs cs, K.lookup b = none := fun b z => by
    obtain ⟨p, hp, rfl⟩ := List.mem_map.mp z
    exact tK p hp
  -- what is neither the script nor a table is not tracked
  have free : ∀ {b : Addr} {o : Obj}, s.heap.get? b = some o → (b = a → H a = none) → b ∉ tabs cs → H b = none := fun {b o} e q n => by
    cases z : H b with
    | none => rfl
    | some u =>
      rcases hA b u z with eb | eb
      · subst eb
        rw [q rfl] at z
        cases z
      · exact absurd eb n
  have free2 : ∀ {b : Addr} {o : Obj}, s.heap.get? b = some o → (∀ us m, o.data ≠ .seq us m) → o.data ≠ .fields #[] → H b = none := fun {b o} e n1 n2 => by
    refine free e (fun eb => ?_) fun z => ?_
    · subst eb
      rw [ha] at e
      cases e
      exact absurd rfl (n1 _ _)
    · rw [isT b z] at e
      cases e
      exact absurd rfl n2
  have dict : ∀ {b : Addr} {m : Str → Option Value}, s.heap.Ns b m → (hidT s.heap H).Ns b m := fun {b m} z => by
    obtain ⟨o, es, ep, e, d, r⟩ := z
    exact ⟨o, es, ep, hidT_get e (free2 e (fun us m z => by rw [d] at z; cases z) fun z => by rw [d] at z; cases z), d, r⟩
  have kin' : K.In (hidT s.heap H) := fun b o e => hidT_get (kin b o e) (free (kin b o e) (fun eb => by
    subst eb
    cases z : H b with
    | none => rfl
    | some u =>
      rw [hK u z] at e
      cases e) fun z => by
    rw [isK b z] at e
    cases e)
  obtain ⟨mc, c1, c2⟩ := lim
  have md : Mod K mg (hidT s.heap H) := ⟨kin', dict hns, ⟨mb, dict hb, hbb⟩, mc, dict c1, c2⟩
  have TB : ∀ p ∈ cs, LamX.TabB (hidT s.heap H) mg p.1 p.2.1 := fun p hp => by
    refine ⟨?_, ?_, fun z => ?_⟩
    · obtain ⟨o, us, f1, f2, f3, f4, f5, f6, f7, e1, r1, r2, r3, r⟩ := tC p hp
      refine ⟨o, us, f1, f2, f3, f4, f5, f6, f7, hidT_get e1 (free2 e1 (fun us m z => by rw [r2] at z; cases z) fun z => ?_), r1, r2, r3, r⟩
      rw [r2] at z
      cases z
      simp at r3
    · obtain ⟨bm, ob, b1, b2, b3, b4, b5, b6⟩ := tM
      refine ⟨bm, ob, b1, b2, fun q => ?_, fun q => ?_, hidT_get b3 (free2 b3 (fun us m z => by rw [b6] at z; cases z) fun z => by rw [b6] at z; cases z), b4, b5, b6⟩
      · obtain ⟨o, es, ep, e, hd, _⟩ := hns
        rw [q, e] at b3
        cases b3
        rw [hd] at b6
        cases b6
      · rw [q, tT p hp] at b3
        cases b3
        cases b6
    · obtain ⟨o, es, ep, e, hd, _⟩ := hns
      rw [z, tT p hp] at e
      cases e
      cases hd
  have nil : ∀ b : Addr, b ∉ ([] : List Addr) := fun _ z => nomatch z
  have e0 : Env0 P w K mg (hidT s.heap H) callerA [] s H := ⟨rfl, md, fun _ _ e => of_hidT e, Nat.le_of_eq (hidT_size _ _), trivial, fun b z => (nil b z).elim, hok, .of_eq hg⟩
  have main := (F _ kin' (dict hns) TB).run callerA [] s H ⟨[.ref a], []⟩ [.ref a] [.ref a] (fun v _ => v = .bl true) rfl hr e0 (hbind s _) (.cons rfl .nil) hsp
  refine codeAny_mono main fun r s' h => ?_
  cases r with
  | error _ => exact (show False from h).elim
  | ok fl => cases fl with
    | next => exact (show False from h).elim
    | brk => exact (show False from h).elim
    | cont => exact (show False from h).elim
    | ret u =>
      obtain ⟨v, H', os, bare, un, hok', rv, q⟩ := (show CE [] P w H s (fun v _ => v = .bl true) u s' from h)
      subst q
      have eu : u = Value.bool true := rv
      subst eu
      have stays : ∀ b o, b ∉ tabs cs → s.heap.get? b = some o → s'.heap.get? b = some o := fun b o n e => by
        cases q : H b with
        | none => exact un.keep b o e q (nil b) (nil b)
        | some t =>
          rcases hO b t q with ⟨ob, xs, z⟩ | z
          · subst z
            have e1 := (hok b _ q).1
            rw [e] at e1
            cases e1
            exact (hok' b _ (un.frzs b _ _ q)).1
          · exact absurd z n
      have grows : ∀ p ∈ cs, ∃ more : Array Value, s'.heap.get? p.2.1 = some (PySem.W.tabObj more) := fun p hp => by
        obtain ⟨more, z⟩ := un.tbls p.2.1 #[] (hTab p hp)
        exact ⟨_, hok' p.2.1 _ z⟩
      refine ⟨rfl, ⟨fun b o e => ?_, fun b o e => ?_⟩, os, bare⟩
      · by_cases z : b ∈ tabs cs
        · obtain ⟨p, hp, rfl⟩ := List.mem_map.mp z
          obtain ⟨more, hm⟩ := grows p hp
          rw [tT p hp] at e
          cases e
          exact .inr (.inl ⟨((tC p hp).tab (tT p hp)).isCodeTable, rfl, #[], more, rfl, by rw [Array.empty_append]; exact hm⟩)
        · exact .inl (stays b o z e)
      · by_cases z : b ∈ tabs cs
        · obtain ⟨p, hp, rfl⟩ := List.mem_map.mp z
          obtain ⟨more, hm⟩ := grows p hp
          exact ⟨_, hm⟩
        · exact ⟨o, stays b o z e⟩
theorem walkGT {l : PySem.W.OpenLaw} {n : Nat} {q : Program} {loose : List Str} {XP : (Str → Option Value) → Heap → Prop} {YP : World → Heap → Prop} {d : DefRec} {KK : Params → PySem.W.Frag} {sp : PySem.W.Frag → Cds → Sp}
    (hn : l.most = some n) (hn2 : n ≤ sizeLine) (hdf : d.params.defaults = []) (hr : Room k callerA) (hY : ∀ (w : World) (h : Heap), YP w h → (KK w.params).In h)
    (F : ∀ (w : World) (mg : Str → Option Value) (fa : Addr) (h : Heap), YP w h → (KK w.params).In h → h.Ns mainGlobals mg → mg d.name = some (.ref fa) →
      ∃ (fd : FuncData) (cs : Cds), (∀ p ∈ cs, h.get? p.2.1 = some (PySem.W.tabObj #[])) ∧ (∀ p ∈ cs, (KK w.params).lookup p.2.1 = none) ∧ (∀ p ∈ cs, PySem.W.CodeHd h p.1 p.2.1) ∧ (∀ (s : Shared) (u : Value), BindsTo s fd ⟨[u], []⟩ [(x, u)]) ∧
        ∀ base : Heap, (KK w.params).In base → base.Ns mainGlobals mg → (∀ p ∈ cs, LamX.TabB base mg p.1 p.2.1) → FnG l.prog w (KK w.params) mg base k fa fd [x] (sp (KK w.params) cs))
    (hsp : ∀ (K : PySem.W.Frag) (cs : Cds) (H : Hp) (a : Addr) (ns : List Int), ns.length ≤ n → SqL K H a (ns.map V.int) → Tb cs H → sp K cs [.ref a] H (fun v _ => v = .bl true) E0) :
    PySem.W.WalkO q loose XP YP l.row.toRowW d [] (fun f vs => PySem.call f vs) :=
  Att.attach_call hn hdf fun w s0 s mg mb fa o pm cd doc a vs ns G Y ho hd hcd hmg hobj hints hlen hg => by
    have kin := hY w _ Y
    obtain ⟨fd, cs, tT, tK, tC, hb, hF⟩ := F w mg fa _ Y kin G.T.g hmg
    have hl : vs.length ≤ sizeLine := Nat.le_trans (Nat.le_of_eq hints.length) (Nat.le_trans hlen hn2)
    have isT : ∀ b ∈ tabs cs, s.heap.get? b = some (PySem.W.tabObj #[]) := fun b z => by
      obtain ⟨p, hp, rfl⟩ := List.mem_map.mp z
      exact tT p hp
    have aT : a ∉ tabs cs := fun z => by
      have e := isT a z
      rw [hobj] at e
      have e2 : Data.seq vs.toArray _ = Data.fields #[] := congrArg Obj.data (Option.some.inj e)
      cases e2
    have toTb : ∀ H : Hp, (∀ p ∈ cs, H p.2.1 = some (.tbl #[])) → Tb cs H := fun H z p hp => LamX.TabS.nil (z p hp)
    cases hk : (KK w.params).lookup a with
    | some ob =>
      have e := kin a ob hk
      rw [hobj] at e
      cases e
      let H0 : Hp := fun b => if b ∈ tabs cs then some (.tbl #[]) else none
      have inT : ∀ {b u}, H0 b = some u → b ∈ tabs cs ∧ u = .tbl #[] := fun {b u} z => by
        by_cases y : b ∈ tabs cs
        · exact ⟨y, (Option.some.inj ((if_pos y).symm.trans z)).symm⟩
        · have z2 := (if_neg y).symm.trans z
          cases z2
      have hTab : ∀ p ∈ cs, H0 p.2.1 = some (.tbl #[]) := fun p hp => if_pos (List.mem_map.mpr ⟨p, hp, rfl⟩)
      have S : SqL (KK w.params) H0 a (ns.map V.int) := Or.inr ⟨_, vs.toArray, _, hk, rfl, rfl, rfl, by rw [List.size_toArray]; exact hl, by simpa using vals_ints hints⟩
      refine fromTopT H0 hTab (fun _ _ z => .inr (inT z).1) (fun o z => absurd (inT z).1 aT) (fun _ _ z => .inr (inT z).1) S (fun b u z => ?_) tT tK tC G.T.bmain kin G.T.g G.T.b G.T.builtins G.T.nolimit hg hobj hints hr hF hb (hsp _ _ _ _ _ hlen S (toTb _ hTab))
      obtain ⟨z1, rfl⟩ := inT z
      exact isT b z1
    | none =>
      let H0 : Hp := fun b => if b = a then some (HO.frz { cls := .type "list", data := .seq vs.toArray } (.lst (ns.map V.int))) else if b ∈ tabs cs then some (.tbl #[]) else none
      have one : ∀ {b u}, H0 b = some u → (b = a ∧ u = HO.frz { cls := .type "list", data := .seq vs.toArray } (.lst (ns.map V.int))) ∨ (b ∈ tabs cs ∧ u = .tbl #[]) := fun {b u} z => by
        by_cases eb : b = a
        · exact .inl ⟨eb, (Option.some.inj ((if_pos eb).symm.trans z)).symm⟩
        · have z1 := (if_neg eb).symm.trans z
          by_cases y : b ∈ tabs cs
          · exact .inr ⟨y, (Option.some.inj ((if_pos y).symm.trans z1)).symm⟩
          · have z2 := (if_neg y).symm.trans z1
            cases z2
      have hTab : ∀ p ∈ cs, H0 p.2.1 = some (.tbl #[]) := fun p hp => (if_neg (show ¬ p.2.1 = a from fun z => aT (by rw [← z]; exact List.mem_map.mpr ⟨p, hp, rfl⟩))).trans (if_pos (List.mem_map.mpr ⟨p, hp, rfl⟩))
      have S : SqL (KK w.params) H0 a (ns.map V.int) := Or.inl (Or.inr ⟨{ cls := .type "list", data := .seq vs.toArray }, if_pos rfl⟩)
      refine fromTopT H0 hTab (fun _ _ z => (one z).elim (fun y => .inl y.1) fun y => .inr y.1) (fun _ _ => hk) (fun _ _ z => (one z).elim (fun y => .inl ⟨_, _, y.2⟩) fun y => .inr y.1) S (fun b u z => ?_) tT tK tC G.T.bmain kin G.T.g G.T.b G.T.builtins G.T.nolimit hg hobj hints hr hF hb (hsp _ _ _ _ _ hlen S (toTb _ hTab))
      rcases one z with ⟨rfl, rfl⟩ | ⟨z1, rfl⟩
      · exact ⟨hobj, by rw [List.length_map, ← hints.length]; exact hl, vs, _, vals_ints hints, hobj⟩
      · exact isT b z1
end
/-! ### the head's facts -/
def tabOf (K : PySem.W.Frag) (c : Addr) : Addr := match K.lookup c with
  | some ⟨_, _, .fields vs, _⟩ => (match (vs[11]? : Option Value) with | some (.ref p) => p | _ => 0)
  | _ => 0
def cdOk (K : PySem.W.Frag) (c : Addr) : Bool := PySem.W.codeHdIn K c (tabOf K c)
theorem codeHd_of {K : PySem.W.Frag} {h : Heap} {c : Addr} (X : K.In h) (e : cdOk K c = true) : PySem.W.CodeHd h c (tabOf K c) := PySem.W.codeHd_of_K X e
theorem mem_of {b : Addr} {l : List Addr} (h : decide (b ∈ l) = true) : b ∈ l := of_decide_eq_true h
theorem none_of {K : PySem.W.Frag} {b : Addr} (h : (K.lookup b).isNone = true) : K.lookup b = none := Option.isNone_iff_eq_none.mp h
theorem v_lamE {c P : Addr} {q : Str} {H1 : Hp} {G : Hp → Prop} (tb : Tb [(c, P, q)] H1) (h : ∀ H2, Ex [(c, P, q)] H1 H2 → G H2) : LamX.Tabs [(P, q)] H1 ∧ ∀ H2, LamX.ExtN H1 H2 → LamX.Tabs [(P, q)] H2 → G H2 := by
  have to : ∀ {H}, LamX.Tabs [(P, q)] H → Tb [(c, P, q)] H := fun t p hp => by
    rw [List.mem_singleton.mp hp]
    exact t (P, q) List.mem_cons_self
  refine ⟨fun p hp => ?_, fun H2 e t => h H2 ⟨e, fun _ => to t⟩⟩
  rw [List.mem_singleton.mp hp]
  exact tb (c, P, q) List.mem_cons_self
end Vc
namespace Vc
open PySem PySem.Spec PyProof.Rows L2
/-! ### len(set(xs)), xs a list of ints -/
def dist (ns : List Int) : Nat := (PyProof.Rows.firstMet (fun i => ns.getD i 0) ns.length).length
def tLenSetG (K : PySem.W.Frag) (ta : TE) : TE := fun σ H Q => ta σ H fun x H1 => ∃ (l : Addr) (ns : List Int), x = V.ref l ∧ SqL K H1 l (ns.map V.int) ∧ ns.length ≤ 1000 ∧ Q (.int (dist ns : Nat)) H1
theorem v_lenSet {K : PySem.W.Frag} {ta : TE} {σ : L2.St} {H : Hp} {Q : VK} (h : ta σ H fun x H1 => ∃ (l : Addr) (ns : List Int), x = V.ref l ∧ SqL K H1 l (ns.map V.int) ∧ ns.length ≤ 1000 ∧ Q (.int (dist ns : Nat)) H1) : tLenSetG K ta σ H Q := h
theorem pe_lenSetG {X : Cx} {a : Expr} {ta : TE} {p p2 q pos : Pos} (hg : Gl X "len") (hm : X.mg "len" = none) (hg2 : Gl X "set") (hm2 : X.mg "set" = none) (ha : PE X a ta) (hc : X.calm = true)
    (na : starEach [a] X.env = (false, eval a X.env) :: starEach [] X.env := by rfl) : PE X (.Call (.Name "len" p) [.Call (.Name "set" p2) [a] [] q] [] pos) (tLenSetG X.K ta) := by
  refine ⟨fun pins s σ H Q I h => Call_ (ld_blt I hg hm PySem.boot_len (PyProof.Rows.callWith_builtin1 (PyProof.Rows.args_cons ?_ rfl) rfl rfl))⟩
  refine Call_ (ld_blt I hg2 hm2 PyProof.Rows.boot_set (PyProof.Rows.callWith_type1 (PyProof.Rows.args_cons (thn (ha.run pins s σ H _ I h) fun v s1 ⟨x, H1, I1, r1, q1⟩ => PyProof.Rows.args_nil ?_) na) na rfl))
  obtain ⟨l, ns, rfl, hq, hl, q1⟩ := q1
  cases r1
  obtain ⟨its, r, pl, hz⟩ := I1.list hq
  have hs : its.toArray.size = ns.length := by rw [List.size_toArray, ← r.length, List.length_map]
  refine call_set_list (I1.ok.hd hc) pl.isList (ns := ns) (by simpa using r.ints) (by unfold scanBound; omega) fun h' tk hS hk => PyProof.Rows.args_nil ?_
  rw [hs] at hS
  obtain ⟨o, es, ep, t, ho, hex, hd, _, _, _, hf, hn⟩ := hS
  have I2 : Inv X pins σ H1 { s1 with heap := h', toks := tk } := I1.kept fun b o e => hk b o (Heap.lt_size e) e
  have hle := PyProof.Rows.firstMet_length_le (fun i => ns.getD i 0) ns.length
  exact call_len_set ho hex hd hf (by rw [hn]; omega) ⟨.int (dist ns : Nat), H1, I2.tok _, ⟨_, by rw [hn]; rfl⟩, q1⟩
/-- an if behind which both ways are so -/
theorem v_ifC {t : TT} {ts us : TS} {D : Ends} {σ : L2.St} {H : Hp} (P : L2.St → Hp → Prop) (g : ∀ N : L2.St → Hp → Prop, (∀ σ' H', P σ' H' → N σ' H') → tIfS t ts us { D with nx := N } σ H) (h : ∀ σ' H', P σ' H' → D.nx σ' H') : tIfS t ts us D σ H := g D.nx h
/-- what was made since H1, and by the way W: all else stays -/
theorem ex_sy {cs : Cds} {W : Addr} {H H1 H2 : Hp} (hW : H W = none) (s : Same H H1) (y : Sy cs W H1 H2) : Ex cs H H2 :=
  ⟨fun b o e t => y.1 b o (ne_of_none e hW) (s b o e) t, fun t => y.2 (t.same s)⟩
theorem ex_own {cs : Cds} {p : Addr} {H H' : Hp} {o : HO} (x : Ex cs H H') (h : H p = none) (tb : Tb cs H') (hl : ∃ xs, H' p = some (.lst xs)) : Ex cs H (upd H' p o) := by
  refine ⟨fun b u e t => by rw [upd_ne (ne_of_none e h)]; exact x.1 b u e t, fun _ q hq => ?_⟩
  obtain ⟨xs, hx⟩ := hl
  obtain ⟨ps, h1, h2, h3⟩ := tb q hq
  have nP : ∀ {b : Addr} {u : HO}, H' b = some u → (∀ xs, u ≠ .lst xs) → b ≠ p := fun e n z => by
    rw [z, hx] at e
    exact n _ (Option.some.inj e).symm
  refine ⟨ps, by rw [upd_ne (nP h1 fun _ z => nomatch z)]; exact h1, h2, fun pos cv hc => ?_⟩
  obtain ⟨c, e1, e2⟩ := h3 pos cv hc
  exact ⟨c, e1, by rw [upd_ne (nP e2 fun _ z => by unfold LamX.CodeO at z; cases z)]; exact e2⟩
end Vc
namespace Vc
open PySem PySem.Spec PyProof.Rows L2
/-! ### what a call may let out -/
abbrev EF : XK := fun _ _ _ => False
theorem passF {X : Cx} : Passes (L2.CX X.prog X.w) X EF := fun _ _ _ _ _ _ _ c => by
  obtain ⟨_, _, _, _, _, _, _, _, _, _, _, _, z⟩ := c
  exact z.elim
def WE' (W : WX) : XK := fun cls d H => ∀ σ, W cls d σ H
theorem passW {X : Cx} {W : WX} (tk : Takes X W) : Passes (L2.CX X.prog X.w) X (WE' W) := passes_call tk fun _ _ σ _ h => h σ
/-! ### promises that tell what is raised -/
def spx1 (f : V → Hp → VK → XK → Prop) : Sp := fun vs H Q E => ∃ a, vs = [a] ∧ f a H Q E
def spx2 (f : V → V → Hp → VK → XK → Prop) : Sp := fun vs H Q E => ∃ a b, vs = [a, b] ∧ f a b H Q E
def spx3 (f : V → V → V → Hp → VK → XK → Prop) : Sp := fun vs H Q E => ∃ a b c, vs = [a, b, c] ∧ f a b c H Q E
def spx4 (f : V → V → V → V → Hp → VK → XK → Prop) : Sp := fun vs H Q E => ∃ a b c d, vs = [a, b, c, d] ∧ f a b c d H Q E
def spx5 (f : V → V → V → V → V → Hp → VK → XK → Prop) : Sp := fun vs H Q E => ∃ a b c d e, vs = [a, b, c, d, e] ∧ f a b c d e H Q E
theorem lenx1 {f : V → Hp → VK → XK → Prop} {p : Str} : ∀ vs H Q E, spx1 f vs H Q E → vs.length = [p].length := fun _ _ _ _ h => by obtain ⟨a, rfl, _⟩ := h; rfl
theorem lenx2 {f : V → V → Hp → VK → XK → Prop} {p q : Str} : ∀ vs H Q E, spx2 f vs H Q E → vs.length = [p, q].length := fun _ _ _ _ h => by obtain ⟨a, b, rfl, _⟩ := h; rfl
theorem lenx3 {f : V → V → V → Hp → VK → XK → Prop} {p q r : Str} : ∀ vs H Q E, spx3 f vs H Q E → vs.length = [p, q, r].length := fun _ _ _ _ h => by obtain ⟨a, b, c, rfl, _⟩ := h; rfl
theorem lenx4 {f : V → V → V → V → Hp → VK → XK → Prop} {p q r s : Str} : ∀ vs H Q E, spx4 f vs H Q E → vs.length = [p, q, r, s].length := fun _ _ _ _ h => by obtain ⟨a, b, c, d, rfl, _⟩ := h; rfl
theorem lenx5 {f : V → V → V → V → V → Hp → VK → XK → Prop} {p q r s t : Str} : ∀ vs H Q E, spx5 f vs H Q E → vs.length = [p, q, r, s, t].length := fun _ _ _ _ h => by obtain ⟨a, b, c, d, e, rfl, _⟩ := h; rfl
section
variable {σ : L2.St} {H : Hp} {Q : VK} {E : XK} {a b c d e : V}
theorem x1 {f : V → Hp → VK → XK → Prop} (h : f a H Q E) : spx1 f ([a] ++ []) H Q E := ⟨a, rfl, h⟩
theorem x2 {f : V → V → Hp → VK → XK → Prop} (h : f a b H Q E) : spx2 f ([a, b] ++ []) H Q E := ⟨a, b, rfl, h⟩
theorem x3 {f : V → V → V → Hp → VK → XK → Prop} (h : f a b c H Q E) : spx3 f ([a, b, c] ++ []) H Q E := ⟨a, b, c, rfl, h⟩
end
/-! ### a def that makes code and may raise -/
theorem okXC {P : Program} {w : World} {K : PySem.W.Frag} {mg : Str → Option Value} {base : Heap} {x qual : Str} {st : Stmt} {f c : Addr} {fd : FuncData} {N ps : List Str} {k : Nat} {sp : Sp} (F : FunC K x qual st f fd c) (S : FnScope N ps (defScope st)) (len : ∀ vs H Q E, sp vs H Q E → vs.length = ps.length)
    (hbody : ∀ (A : Around) (outer : List Env) (s : Shared) (H : Hp) (vs : List V) (Q : VK) (E : XK), Room k (A.deeper (envOfC qual (defScope st) s.heap.objs.size f (.ref c))) → sp vs H Q E →
      ∃ t, PSs (cxOf (L2.CX P w) P w K mg base N qual (defScope st) f (.ref c) A outer s H E) (defBody st) t ∧ t { nx := fun _ H' => Q .non H', rt := Q } (start N vs) H) : FnOk P w K mg base (L2.CX P w) (k + 1) f fd ps sp := by
  obtain ⟨oc, od, kV, doc, pm, an, ct, osl, rfl, lk, hcd⟩ := F.ex
  exact fn_of lk hcd S len fun A outer s H vs Q E hr hsp => hbody A outer s H vs Q E hr hsp
/-! ### a call of a local name that holds a def -/
theorem pe_callVO {X : Cx} {CX : CXT} {E : XK} {k i : Nat} {f : Addr} {fd : FuncData} {ps : List Str} {ds : List Value} {dvs : List V} {sp : Sp} {x : Str} {e : Expr} {es : List Expr} {t : TA} {p pos : Pos}
    (F : FnOk X.prog X.w X.K X.mg X.base CX k f fd ps sp) (hr : Room k X.A) (hk : PySem.W.keepIn X.K (.ref f) = true) (hb : Binds X.K fd ps ds) (hd : Vals dvs ds) (hx : Passes CX X E) (hN : X.N[i]? = some x) (hv : Vis X.env.scope x) (ha : PA X (e :: es) t)
    (he : starEach (e :: es) X.env = (false, eval e X.env) :: starEach es X.env) (hpl : (backTo pos (starEach es X.env)).any (·.1) = false)
    (h1 : (x == ("__debug__" : Str)) = false := by decide) (h2 : (x == ("__classdict__" : Str)) = false := by decide) :
    PE X (.Call (.Name x p) (e :: es) [] pos) (fun σ H Q => σ[i]? = some (some (.ref f)) ∧ tCall sp dvs E t σ H Q) := by
  refine ⟨fun pins s σ H Q I h => ?_⟩
  obtain ⟨hs, h⟩ := h
  refine wpAny_Call_Name_kw (thn ((pe_var (pos := p) (i := i) hN hv h1 h2).run pins s σ H (fun v H1 => v = .ref f ∧ H1 = H) I ⟨.ref f, hs, rfl, rfl⟩) fun u s1 ⟨v, H1, I1, r1, ev, eH⟩ => ?_)
  subst ev eH
  cases r1
  exact PySem.W.callWith_K (h₀ := X.base) I.ok.mod.kin hk (thn (ha.run pos pins s1 σ _ _ I1 h) fun us s2 hh => by obtain ⟨vs, H2, I2, r, q⟩ := hh; exact ⟨I2.kIn, run_fn F hr hb hd hx I2 r q⟩) he hpl
/-- x(e0, y), y a def of the module that x calls -/
def tHeld2 (TT : (V → Hp → VK → Prop) → V → Hp → VK → Prop) (sp : Sp) (fh : Addr) (te th : TE) : TE := fun σ H Q => te σ H fun v0 H1 => th σ H1 fun vf H2 => vf = .ref fh ∧ TT (fun v H' Q' => sp [v] H' Q' EF) v0 H2 Q
theorem pe_held2 {X : Cx} {TT : (V → Hp → VK → Prop) → V → Hp → VK → Prop} {x b y x0 : Str} {g fh : Addr} {k : Nat} {st : Stmt} {fd fdh : FuncData} {Ng : List Str} {sp : Sp} {e0 eh : Expr} {te th : TE} {p pos : Pos} (hg : Gl X x) (hm : X.mg x = some (.ref g)) (F : Fun X.K x x st g fd) (hb : L2.Binds X.K fd [x0, b] [])
    (Sg : FnScope Ng [x0, b] (defScope st)) (hNg : Ng[1]? = some b) (hva : Vis (defScope st) b) (hG : ∀ cdv q, Gives2 X.prog X.w X.K X.mg X.base X.A X.stack Ng x (defScope st) g cdv (defBody st) b q TT)
    (Fh : FnOk X.prog X.w X.K X.mg X.base (L2.CX X.prog X.w) k fh fdh [y] sp) (kh : PySem.W.keepIn X.K (.ref fh) = true) (bh : L2.Binds X.K fdh [y] []) (hr : Room (k + 1) X.A) (he : PE X e0 te) (hh : PE X eh th)
    (hdb : (x == ("__debug__" : Str)) = false := by decide) (hd : (b == ("__debug__" : Str)) = false := by decide) (hcd : (b == ("__classdict__" : Str)) = false := by decide)
    (hs3 : starEach (e0 :: [eh]) X.env = (false, eval e0 X.env) :: starEach [eh] X.env := by rfl) (hs2 : starEach [eh] X.env = [(false, eval eh X.env)] := by rfl) :
    PE X (.Call (.Name x p) [e0, eh] [] pos) (tHeld2 TT sp fh te th) := by
  obtain ⟨oc, od, kV, doc, pm, an, cdv, ct, osl, rfl, lk, hcg⟩ := F.ex
  refine ⟨fun pins s σ H Q I h => ?_⟩
  refine wpAny_Call_Name_kw (ld_glob I hg hm ?_ hdb)
  refine PySem.W.callWith_K (h₀ := X.base) I.ok.mod.kin F.kp ?_ hs3 (by rw [hs2]; rfl)
  rw [hs3, hs2]
  show wpAny _ _ (spliced ((false, _) :: backTo pos [(false, eval eh X.env)])) _ _ s
  refine Calls.spliced_cons (thn (he.run pins s σ H _ I h) fun u0 s1 ⟨v0, H1, I1, r0, h1⟩ => ?_)
  refine Calls.spliced_cons (thn (hh.run pins s1 σ H1 _ I1 h1) fun uh s2 ⟨vh, H2, I2, rh, ev, h2⟩ => ?_)
  subst ev
  obtain rfl : uh = Value.ref fh := rh
  refine Calls.spliced_nil ⟨I2.kIn, ?_⟩
  have rc : codeAny (model X.prog X.w) X.A (.call (.ref g) ⟨[u0, .ref fh], []⟩) (CR CX0 X.stack X.prog X.w H2 s2 Q E0) s2 := by
    refine LamX.run_ofS (N := Ng) (ps := [x0, b]) (us := [u0, .ref fh]) (vs := [v0, .ref fh]) lk hcg Sg hr I2.env0 (hb s2 [u0, .ref fh] I2.kIn rfl) (.cons r0 (.cons rfl .nil)) rfl fun hr' => ?_
    obtain ⟨t', ht', hq'⟩ := hG cdv "" fh (fun _ => True) s2 H2 v0 Q (fun v H' Q' => sp [v] H' Q' EF) (fun v H' Q' => sp [v] H' Q' EF) (fun _ _ _ _ z => z) (fun _ _ _ _ => True.intro)
      (fun e te p1 p2 he hse => pe_callVO (X := (cxOf CX0 X.prog X.w X.K X.mg X.base Ng x (defScope st) g cdv X.A X.stack s2 H2 E0).nox) (i := 1) Fh hr' kh bh .nil passF hNg hva (pa_cons he pa_nil hse) hse rfl hd hcd) True.intro h2
    exact ⟨t', ht'.nox, hq'⟩
  refine wpAny_call (codeAny_mono rc fun r s2 hq => ?_)
  cases r with
  | error e => exact (show False from hq).elim
  | ok fl =>
    cases fl with
    | ret u => exact I2.after hq
    | next => exact False.elim hq
    | brk => exact False.elim hq
    | cont => exact False.elim hq
theorem v_held {TT : (V → Hp → VK → Prop) → V → Hp → VK → Prop} {sp : Sp} {fh : Addr} {te th : TE} {σ : L2.St} {H : Hp} {Q : VK} (h : te σ H fun v0 H1 => th σ H1 fun vf H2 => vf = .ref fh ∧ TT (fun v H' Q' => sp [v] H' Q' EF) v0 H2 Q) : tHeld2 TT sp fh te th σ H Q := h
/-! ### a method called with keywords -/
def tMethK (C : Addr) (m : Str) (sp : Sp) (gV : List V → List V → List V) (E : XK) (ta : TE) (t tk : TA) : TE := fun σ H Q => ta σ H fun x H1 => ∃ a dx fs, x = .ref a ∧ H1 a = some (.ins C dx fs) ∧ fs.lookup m = none ∧ t σ H1 fun vs H2 => tk σ H2 fun zs H3 => sp (gV (x :: vs) zs) H3 Q E
theorem pe_methK0 {X : Cx} {CX : CXT} {k : Nat} {f C : Addr} {fd : FuncData} {ps ks : List Str} {sp : Sp} {E : XK} {m : Str} {pos apos : Pos} {o : Expr} {kws : List Keyword} {ta : TE} {tk : TA} {g : List Value → List Value → List Value} {gV : List V → List V → List V} {pl : Sem Bool}
    (he : PE X o ta) (c : Cls X.K C) (hm : Meth X.K C m f) (F : FnOk X.prog X.w X.K X.mg X.base CX k f fd ps sp) (hr : Room k X.A) (hb : KBinds X.K fd ps ks g gV) (hx : Passes CX X E) (hkw : PK X kws tk)
    (hall : (backToKw pos (keywordEach kws X.env)).all (·.1.isSome) = true := by rfl) (hks : (backToKw pos (keywordEach kws X.env)).filterMap (·.1) = ks := by rfl)
    (hpl : ((backTo pos (starEach [] X.env)).any (·.1) || (backToKw pos (keywordEach kws X.env)).any (·.1.isNone)) = false := by rfl)
    (ht : eval (.Call (.Attribute o m apos) [] kws pos) X.env = (do
      let ov ← eval o X.env
      standAt apos.atName
      let (f, first) ← holding [ov] (getMethod ov m pl)
      callWith pos f first (backTo pos (starEach [] X.env)) (backToKw pos (keywordEach kws X.env))) := by rfl) :
    PE X (.Call (.Attribute o m apos) [] kws pos) (tMethK C m sp gV E ta tNil tk) := by
  refine ⟨fun pins s σ H Q I h => PySem.W.methodCall_KW (pl := pl) (thn (he.run pins s σ H _ I h) fun u s1 ⟨x, H1, I1, rx, a, dx, fs, ex, ea, l, q⟩ => ?_) ht⟩
  subst ex
  obtain rfl : u = Value.ref a := rx
  refine getmeth_ok I1 ea c hm l (PySem.W.callWith_KW0 (first := [.ref a]) (h₀ := X.base) I.ok.mod.kin hm.kp hall (thn (hkw.run pos pins s1 σ H1 _ I1 q) fun ws s2 ⟨zs, H2, I2, rz, q2⟩ => ⟨I2.kIn, ?_⟩) hpl)
  rw [hks]
  exact run_fnk (us := [.ref a]) (vs := [.ref a]) F hr hb hx I2 (.cons rfl .nil) rz q2
/-! ### raise C(), C an own class without __init__ -/
structure ExC (K : PySem.W.Frag) (C : Addr) : Prop where
  ex : ∃ (bmB : List Value), ExcBaseFacts "ValueError" "ValueError.__new__" "ValueError.__init__" bmB ∧ PySem.W.excIn K C bmB "ValueError.__new__" = true
  kp : PySem.W.keepIn K (.ref C) = true
  sub : PySem.W.subIn K (.ref C) (.type "BaseException") = some true
  ty : PySem.W.typeIn K (.ref C) = some (.type "type")
  one : PySem.W.exmOne K (.ref C) (.ref C) = some true
def tRaise (C : Addr) (W : WX) : TS := fun _ σ H => W (.ref C) none σ H
theorem ps_raise0 {X : Cx} {C : Addr} {W : WX} {x : Str} {p pos pos2 : Pos} (hc : X.calm = true) (T : ExC X.K C) (gC : X.mg x = some (.ref C)) (hg : Gl X x) (tk : Takes X W) (hdb : (x == ("__debug__" : Str)) = false := by decide) :
    PS X (.Raise (some (.Call (.Name x p) [] [] pos)) none pos2) (tRaise C W) := by
  obtain ⟨bmB, F, q⟩ := T.ex
  refine ps_raise (t := fun _ H Q => Q (.ref C) none H) hc tk fun pins s σ H Q I h => wpAny_Call_Name_kw (ld_glob I hg gC (PySem.W.callWith_K0 I.kIn T.kp ?_) hdb)
  show wpAny _ _ (call (.ref C) []) _ _ _
  obtain ⟨bm, N, nm, qn, bs, hdct, sn, sub, ab, col, dd, k0, k1, k2, k3, k5, mN, hC, hN, hni, Tl⟩ := exc_obj I.kIn q
  exact wpAny_call_exc_subT F Tl hC hN hni (fun h' e hm => mk_of I hm (raises_own T.sub T.ty) h (I.hok.gone hm.new)) (Nat.zero_le _)
theorem v_raise {C : Addr} {W : WX} {D : Ends} {σ : L2.St} {H : Hp} (h : W (.ref C) none σ H) : tRaise C W D σ H := h
/-! ### try: body, except C: return a constant -/
def tTry1 (K : PySem.W.Frag) (C : Addr) (ts : TS) (tb : XK → TS) : TS := fun D σ H => tb (WE' (wOnly K (.ref C) (fun _ _ _ => ts) (fun _ _ _ _ => False) D)) D σ H
theorem ps_try1 {X : Cx} {C : Addr} {x : Str} {body : List Stmt} {b₀ : Stmt} {ts : TS} {tb : XK → TS} {np pos pos' : Pos} (hs : X.stack = X.env :: X.outer) (hf : X.env.frame = some X.env.locals) (hg : Gl X x) (gC : X.mg x = some (.ref C)) (hd : (x == ("__debug__" : Str)) = false)
    (hb : ∀ (EX : XK) (pn : List (Addr × Obj)) (xe : Value → Shared → Prop), Passes (L2.CX X.prog X.w) (X.tr pn xe) EX → PSs (X.tr pn xe) body (tb EX))
    (hsu : ∀ (a : Addr) (pn : List (Addr × Obj)), PSs (X.suite a pn) [b₀] ts) :
    PS X (.Try body [.ExceptHandler (some (.Name x np)) none [b₀] pos'] [] [] pos) (tTry1 X.K C ts tb) :=
  ps_try_only (c := .ref C) (tb := fun W => tb (WE' W)) (ts := fun _ _ _ => ts) (Wout := fun _ _ _ _ => False) hs hf ⟨hg, hd, .inl gC⟩ LamX.takes0 (fun W pn xe tk _ => hb (WE' W) pn xe (passW tk)) (fun a oe cls d pn _ _ => hsu a _)
theorem v_try1 {K : PySem.W.Frag} {C : Addr} {ts : TS} {tb : XK → TS} {D : Ends} {σ : L2.St} {H : Hp} (T : ExC K C) (h : ∀ E : XK, (∀ d H', (∀ σ', ts D σ' H') → E (.ref C) d H') → tb E D σ H) : tTry1 K C ts tb D σ H :=
  h _ fun d H' q σ' => ⟨true, T.one, fun _ a _ => q σ', fun z => nomatch z⟩
/-! ### fields, methods -/
section
variable {K : PySem.W.Frag} {σ : L2.St} {H : Hp} {Q : VK} {E : XK} {D : Ends} {a C dx : Addr} {fs : List (Str × V)} {f m : Str} {v : V} {te ta tv : TE} {tA : TA} {sp : Sp} {dvs : List V}
theorem v_fld (h : te σ H fun x H1 => ∃ a C dx fs v, x = .ref a ∧ H1 a = some (.ins C dx fs) ∧ Cls K C ∧ NoAttr K C f ∧ fs.lookup f = some v ∧ Q v H1) : tFld K te f σ H Q := h
theorem v_fldI (e : H a = some (.ins C dx fs)) (c : Cls K C) (n : NoAttr K C f) (l : fs.lookup f = some v) (q : Q v H) : ∃ a' C' dx' fs' v', V.ref a = .ref a' ∧ H a' = some (.ins C' dx' fs') ∧ Cls K C' ∧ NoAttr K C' f ∧ fs'.lookup f = some v' ∧ Q v' H := ⟨a, C, dx, fs, v, rfl, e, c, n, l, q⟩
theorem v_sfld (h : tv σ H fun y H1 => ta σ H1 fun x H2 => ∃ a C dx fs, x = .ref a ∧ H2 a = some (.ins C dx fs) ∧ Cls K C ∧ NoAttr K C f ∧ fs.length < 1000 ∧ D.nx σ (upd H2 a (.ins C dx (putF f y fs)))) : sFld K ta tv f D σ H := h
theorem v_meth (h : ta σ H fun x H1 => ∃ a dx fs, x = .ref a ∧ H1 a = some (.ins C dx fs) ∧ fs.lookup m = none ∧ tA σ H1 fun vs H2 => sp (x :: (vs ++ dvs)) H2 Q E) : tMeth C m sp dvs E ta tA σ H Q := h
theorem v_methK {gV : List V → List V → List V} {tk : TA} (h : ta σ H fun x H1 => ∃ a dx fs, x = .ref a ∧ H1 a = some (.ins C dx fs) ∧ fs.lookup m = none ∧ tA σ H1 fun vs H2 => tk σ H2 fun zs H3 => sp (gV (x :: vs) zs) H3 Q E) : tMethK C m sp gV E ta tA tk σ H Q := h
theorem v_make (h : tA σ H fun vs H1 => ∀ x dx, H1 x = none → H1 dx = none → dx ≠ x → sp (.ref x :: (vs ++ dvs)) (upd (upd H1 dx (.own x)) x (.ins C dx [])) (fun v H2 => v = .non ∧ Q (.ref x) H2) E) : tMake C sp dvs E tA σ H Q := h
end
end Vc
namespace Vc
open PySem PySem.Spec PyProof.Rows L2
/-! ### tuples stay, whatever is changed -/
def TK (H H' : Hp) : Prop := ∀ b xs, (H b = some (.tup xs) → H' b = some (.tup xs)) ∧ ∀ o, H b = some (.frz o (.tup xs)) → H' b = some (.frz o (.tup xs))
theorem TK.refl {H : Hp} : TK H H := fun _ _ => ⟨id, fun _ => id⟩
theorem TK.trans {H H1 H2 : Hp} (a : TK H H1) (b : TK H1 H2) : TK H H2 := fun c xs => ⟨fun e => (b c xs).1 ((a c xs).1 e), fun o e => (b c xs).2 o ((a c xs).2 o e)⟩
theorem TK.same {H H' : Hp} (s : Same H H') : TK H H' := fun c xs => ⟨fun e => s _ _ e, fun o e => s _ _ e⟩
theorem TK.sx {tl : List V} {W : Addr} {H H' : Hp} (w : Wl tl H W) (s : Sx W H H') : TK H H' := fun c xs => by
  obtain ⟨a, b, d, eW⟩ := w
  exact ⟨fun e => s _ _ (fun z => by rw [z, eW] at e; cases e) e, fun o e => s _ _ (fun z => by rw [z, eW] at e; cases e) e⟩
theorem TK.ex {cs : Cds} {H H' : Hp} (x : Ex cs H H') : TK H H' := fun c xs => ⟨fun e => x.1 _ _ e (fun _ z => nomatch z), fun o e => x.1 _ _ e (fun _ z => nomatch z)⟩
theorem TK.mutL {p : Addr} {ys : List V} {H : Hp} {o : HO} (h : H p = some (.lst ys)) : TK H (upd H p o) := fun c xs =>
  ⟨fun e => by rw [upd_ne fun z => by rw [z, h] at e; cases e]; exact e, fun o e => by rw [upd_ne fun z => by rw [z, h] at e; cases e]; exact e⟩
theorem TK.mutI {p C dx : Addr} {fs : List (Str × V)} {H : Hp} {o : HO} (h : H p = some (.ins C dx fs)) : TK H (upd H p o) := fun c xs =>
  ⟨fun e => by rw [upd_ne fun z => by rw [z, h] at e; cases e]; exact e, fun o e => by rw [upd_ne fun z => by rw [z, h] at e; cases e]; exact e⟩
theorem TK.seq {K : PySem.W.Frag} {H H' : Hp} {p : Addr} {xs : List V} (k : TK H H') (h : SqT K H p xs) : SqT K H' p xs := by
  rcases h with (h | ⟨o, h⟩) | h
  · exact .inl (.inl ((k p xs).1 h))
  · exact .inl (.inr ⟨o, (k p xs).2 o h⟩)
  · exact .inr h
/-! ### data in tuples alone -/
mutual
inductive TD (K : PySem.W.Frag) (H : Hp) : V → D → Prop
  | bl (b : Bool) : TD K H (.bl b) (.bl b)
  | int (i : Int) : TD K H (.int i) (.int i)
  | str (s : PySem.Str) : TD K H (.str s) (.str s)
  | tup {a : Addr} {xs : List V} {ds : List D} (e : SqT K H a xs) (h : TDs K H xs ds) : TD K H (.ref a) (.tup ds)
inductive TDs (K : PySem.W.Frag) (H : Hp) : List V → List D → Prop
  | nil : TDs K H [] []
  | cons {v : V} {vs : List V} {d : D} {ds : List D} (h : TD K H v d) (t : TDs K H vs ds) : TDs K H (v :: vs) (d :: ds)
end
section
variable {K : PySem.W.Frag} {H H' : Hp}
mutual
theorem TD.to (k : TK H H') : ∀ (d : D) (v : V), TD K H v d → TD K H' v d
  | .non, _, h => by cases h
  | .bl _, _, h => by cases h; exact .bl _
  | .int _, _, h => by cases h; exact .int _
  | .str _, _, h => by cases h; exact .str _
  | .lst _, _, h => by cases h
  | .tup ds, _, h => by cases h with | tup e h => exact .tup (k.seq e) (TDs.to k ds _ h)
  | .dic, _, h => by cases h
theorem TDs.to (k : TK H H') : ∀ (ds : List D) (vs : List V), TDs K H vs ds → TDs K H' vs ds
  | [], _, h => by cases h; exact .nil
  | d :: ds, _, h => by cases h with | cons h t => exact .cons (TD.to k d _ h) (TDs.to k ds _ t)
end
theorem TD.tk {v : V} {d : D} (h : TD K H v d) (k : TK H H') : TD K H' v d := TD.to k d v h
theorem TDs.tk {vs : List V} {ds : List D} (h : TDs K H vs ds) (k : TK H H') : TDs K H' vs ds := TDs.to k ds vs h
mutual
theorem TD.dp : ∀ (d : D) (v : V), TD K H v d → Dp K H v d.toP
  | .non, _, h => by cases h
  | .bl _, _, h => by cases h; exact .bl _
  | .int _, _, h => by cases h; exact .int _
  | .str _, _, h => by cases h; exact .str _
  | .lst _, _, h => by cases h
  | .tup ds, _, h => by cases h with | tup e h => exact .tup e (TDs.dp ds _ h)
  | .dic, _, h => by cases h
theorem TDs.dp : ∀ (ds : List D) (vs : List V), TDs K H vs ds → DpAll K H vs (D.toPs ds)
  | [], _, h => by cases h; exact .nil
  | d :: ds, _, h => by cases h with | cons h t => exact .cons (TD.dp d _ h) (TDs.dp ds _ t)
end
theorem TDs.len {vs : List V} : ∀ {ds : List D}, TDs K H vs ds → vs.length = ds.length
  | [], h => by cases h; rfl
  | _ :: ds, h => by cases h with | cons _ t => rw [List.length_cons, List.length_cons, t.len]
theorem TDs.get {x : V} : ∀ {vs : List V} {ds : List D} {i : Nat}, TDs K H vs ds → vs[i]? = some x → ∃ d, ds[i]? = some d ∧ TD K H x d
  | [], _, i, _, e => by simp at e
  | v :: vs, d :: ds, 0, h, e => by
    cases h with
    | cons h t =>
      rw [List.getElem?_cons_zero] at e
      cases e
      exact ⟨d, rfl, h⟩
  | v :: vs, d :: ds, i + 1, h, e => by
    cases h with
    | cons h t =>
      rw [List.getElem?_cons_succ] at e
      rw [List.getElem?_cons_succ]
      exact t.get e
theorem TDs.at {d : D} : ∀ {vs : List V} {ds : List D} {i : Nat}, TDs K H vs ds → ds[i]? = some d → ∃ x, vs[i]? = some x ∧ TD K H x d
  | _, [], i, _, e => by simp at e
  | v :: vs, d :: ds, 0, h, e => by
    cases h with
    | cons h t =>
      rw [List.getElem?_cons_zero] at e
      cases e
      exact ⟨v, rfl, h⟩
  | v :: vs, d :: ds, i + 1, h, e => by
    cases h with
    | cons h t =>
      rw [List.getElem?_cons_succ] at e
      rw [List.getElem?_cons_succ]
      exact t.at e
theorem TDs.app {vs ws : List V} {ds es : List D} (a : TDs K H vs ds) (b : TDs K H ws es) : TDs K H (vs ++ ws) (ds ++ es) := by
  induction vs generalizing ds with
  | nil => cases a; exact b
  | cons v vs ih => cases a with | cons h t => exact .cons h (ih t)
theorem TDs.set {v : V} {d : D} : ∀ {vs : List V} {ds : List D} {i : Nat}, TDs K H vs ds → TD K H v d → TDs K H (vs.set i v) (ds.set i d)
  | [], [], _, _, _ => .nil
  | [], _ :: _, _, h, _ => by cases h
  | _ :: _, [], _, h, _ => by cases h
  | _ :: vs, _ :: ds, 0, h, x => by cases h with | cons h t => exact .cons x t
  | _ :: vs, _ :: ds, i + 1, h, x => by cases h with | cons h t => exact .cons h (t.set x)
theorem tds_ints : ∀ ns : List Nat, TDs K H (ns.map vN) (ns.map fun n : Nat => D.int (n : Int))
  | [] => .nil
  | n :: ns => .cons (.int _) (tds_ints ns)
theorem tds_ints_of : ∀ {vs : List V} {ns : List Nat}, TDs K H vs (ns.map fun n : Nat => D.int (n : Int)) → vs = ns.map vN
  | [], [], _ => rfl
  | [], _ :: _, h => by cases h
  | _ :: _, [], h => by cases h
  | v :: vs, n :: ns, h => by
    cases h with
    | cons h t =>
      cases h
      rw [tds_ints_of t]
      rfl
end
/-! ### all but x and l stays -/
def Fr2 (x l : Addr) (H H' : Hp) : Prop := ∀ b o, b ≠ x → b ≠ l → H b = some o → H' b = some o
theorem Fr2.refl {x l : Addr} {H : Hp} : Fr2 x l H H := fun _ _ _ _ e => e
theorem Fr2.trans {x l : Addr} {H H1 H2 : Hp} (a : Fr2 x l H H1) (b : Fr2 x l H1 H2) : Fr2 x l H H2 := fun c o n1 n2 e => b c o n1 n2 (a c o n1 n2 e)
theorem Fr2.same {x l : Addr} {H H' : Hp} (s : Same H H') : Fr2 x l H H' := fun b o _ _ e => s b o e
theorem Fr2.x {x l : Addr} {H : Hp} {o : HO} : Fr2 x l H (upd H x o) := fun b u n _ e => by rw [upd_ne n]; exact e
theorem Fr2.l {x l : Addr} {H : Hp} {o : HO} : Fr2 x l H (upd H l o) := fun b u _ n e => by rw [upd_ne n]; exact e
/-! ### a comprehension over enumerate of a tuple -/
theorem lc_enq {K : PySem.W.Frag} {a : Addr} {xs : List V} {g : TG} {tt : TT} {te : TE} {vs : List Nat} {σ : L2.St} {H1 : Hp} {D : Addr} {Qd : Hp → Prop} (Pv : Nat → Hp → Prop) (h0 : Pv 0 (upd H1 D (.lst []))) (hl : ∀ i H, i ≤ xs.length → Pv i H → SqT K H a xs)
    (hs : ∀ i x H T H', xs[i]? = some x → Pv i H → H T = none → Same H H' → H' T = some (.tup [.int (i : Nat), x]) → g (.ref T) (wipe σ vs) H' fun σ2 H2 => wipe σ2 vs = wipe σ vs ∧ tt σ2 H2 fun b H3 =>
      if b = true then te σ2 H3 fun y H4 => ∃ acc, H4 D = some (.lst acc) ∧ acc.length < sizeLine ∧ Pv (i + 1) (upd H4 D (.lst (acc ++ [y]))) else Pv (i + 1) H3) (hd : ∀ H, Pv xs.length H → Qd H) :
    ∃ W : Nat → Nat → Hp → Prop, (∃ m, W 0 m (upd H1 D (.lst []))) ∧ ∀ i m H, W i m H →
      ((Itq K a).stop i H ∧ Qd H) ∨ ((Itq K a).go i H ∧ ∃ Nx : Hp → Prop, (∀ H', Nx H' → ∃ m', m' < m ∧ W (i + 1) m' H') ∧ ∀ x H', (Itq K a).yld i H x H' → g x (wipe σ vs) H' fun σ2 H2 => wipe σ2 vs = wipe σ vs ∧ tt σ2 H2 fun b H3 =>
        if b = true then te σ2 H3 fun y H4 => ∃ acc, H4 D = some (.lst acc) ∧ acc.length < sizeLine ∧ Nx (upd H4 D (.lst (acc ++ [y]))) else Nx H3) := by
  refine ⟨fun i m H => m + i = xs.length ∧ Pv i H, ⟨xs.length, Nat.add_zero _, h0⟩, ?_⟩
  rintro i m H ⟨hm, p⟩
  have t := hl i H (by omega) p
  cases m with
  | zero =>
    have e : i = xs.length := by omega
    subst e
    exact .inl ⟨⟨xs, t, Nat.le_refl _⟩, hd H p⟩
  | succ m =>
    have hi : xs[i]? = some (xs[i]'(by omega)) := List.getElem?_eq_getElem (by omega)
    refine .inr ⟨⟨xs, _, t, hi⟩, Pv (i + 1), fun H' p' => ⟨m, Nat.lt_succ_self _, by omega, p'⟩, ?_⟩
    rintro x H' ⟨T, y, rfl, hT, rfl, hy⟩
    exact hs i y H T _ (hy xs t) p hT (same_new hT) upd_same
/-! ### fields by their names -/
theorem lk_hit {f : Str} {v : V} {fs : List (Str × V)} : ((f, v) :: fs).lookup f = some v := by simp [List.lookup]
theorem lk_miss {f g : Str} {v : V} {fs : List (Str × V)} (h : (f == g) = false) : ((g, v) :: fs).lookup f = fs.lookup f := by simp [List.lookup, h]
theorem pf_hit {f : Str} {v w : V} {fs : List (Str × V)} : putF f v ((f, w) :: fs) = (f, v) :: fs := by
  show (if f = f then (f, v) :: fs else _) = _
  rw [if_pos rfl]
theorem pf_miss {f g : Str} {v w : V} {fs : List (Str × V)} (h : ¬ g = f) : putF f v ((g, w) :: fs) = (g, w) :: putF f v fs := by
  show (if g = f then _ else (g, w) :: putF f v fs) = _
  rw [if_neg h]
theorem v_sfa {K : PySem.W.Frag} {σ : L2.St} {H : Hp} {D : Ends} {f : Str} {ta tv : TE} {rd : V → V → Hp → VK → Prop} (h : ta σ H fun x H1 => ∃ a C dx fs v, x = .ref a ∧ H1 a = some (.ins C dx fs) ∧ Cls K C ∧ NoAttr K C f ∧ fs.lookup f = some v ∧
  tv σ H1 fun y H2 => rd v y H2 fun z H3 => ∃ dx' fs', H3 a = some (.ins C dx' fs') ∧ fs'.length < 1000 ∧ D.nx σ (upd H3 a (.ins C dx' (putF f z fs')))) : sFldAug K ta tv rd f D σ H := h
theorem Tb.mutI {cs : Cds} {p C dx : Addr} {fs : List (Str × V)} {H : Hp} {o : HO} (tb : Tb cs H) (h : H p = some (.ins C dx fs)) : Tb cs (upd H p o) := fun q hq => by
  obtain ⟨ps, h1, h2, h3⟩ := tb q hq
  have nP : ∀ {b : Addr} {u : HO}, H b = some u → (∀ C dx fs, u ≠ .ins C dx fs) → b ≠ p := fun e n z => by
    rw [z, h] at e
    exact n _ _ _ (Option.some.inj e).symm
  refine ⟨ps, by rw [upd_ne (nP h1 fun _ _ _ z => nomatch z)]; exact h1, h2, fun pos cv hc => ?_⟩
  obtain ⟨c, e1, e2⟩ := h3 pos cv hc
  exact ⟨c, e1, by rw [upd_ne (nP e2 fun _ _ _ z => by unfold LamX.CodeO at z; cases z)]; exact e2⟩
theorem Tb.mutL {cs : Cds} {p : Addr} {ys : List V} {H : Hp} {o : HO} (tb : Tb cs H) (h : H p = some (.lst ys)) : Tb cs (upd H p o) := fun q hq => by
  obtain ⟨ps, h1, h2, h3⟩ := tb q hq
  have nP : ∀ {b : Addr} {u : HO}, H b = some u → (∀ xs, u ≠ .lst xs) → b ≠ p := fun e n z => by
    rw [z, h] at e
    exact n _ (Option.some.inj e).symm
  refine ⟨ps, by rw [upd_ne (nP h1 fun _ z => nomatch z)]; exact h1, h2, fun pos cv hc => ?_⟩
  obtain ⟨c, e1, e2⟩ := h3 pos cv hc
  exact ⟨c, e1, by rw [upd_ne (nP e2 fun _ z => by unfold LamX.CodeO at z; cases z)]; exact e2⟩
/-! ### what was told: None, True or False -/
def rV : Option Bool → V
  | none => .non
  | some t => .bl t
def rIsR : R2 := fun x y H Q => ∃ (r : Option Bool) (b : Bool), x = rV r ∧ y = .bl b ∧ Q (.bl (decide (r = some b))) H
theorem op_isR {X : Cx} : OpR X (compareOp .Is) rIsR := by
  intro pins s σ H x y v u Q I rx ry h
  obtain ⟨r, b, rfl, rfl, q⟩ := h
  cases (show u = Value.bool b from ry)
  cases r with
  | none =>
    cases (show v = Value.none from rx)
    exact wpAny_is_other rfl (fun z => nomatch z) ⟨.bl false, H, I, rfl, by simpa using q⟩
  | some a =>
    cases (show v = Value.bool a from rx)
    by_cases e : a = b
    · subst e
      exact wpAny_is_self rfl ⟨.bl true, H, I, rfl, by simpa using q⟩
    · exact wpAny_is_other rfl (fun z => e (Value.bool.inj z)) ⟨.bl false, H, I, rfl, by simpa [e] using q⟩
theorem v_isR {r : Option Bool} {b : Bool} {H : Hp} {Q : VK} (q : Q (.bl (decide (r = some b))) H) : rIsR (rV r) (.bl b) H Q := ⟨r, b, rfl, rfl, q⟩
theorem rV_non {r : Option Bool} : (rV r = .non) ↔ r = none := by cases r <;> simp [rV]
theorem Tb.fr2 {cs : Cds} {x l C dx : Addr} {fs : List (Str × V)} {ys : List V} {H H' : Hp} (tb : Tb cs H) (h1 : H x = some (.ins C dx fs)) (h2 : H l = some (.lst ys)) (f : Fr2 x l H H') : Tb cs H' := fun q hq => by
  obtain ⟨ps, e1, e2, e3⟩ := tb q hq
  have nx : ∀ {b : Addr} {u : HO}, H b = some u → (∀ C dx fs, u ≠ .ins C dx fs) → b ≠ x := fun e n z => by
    rw [z, h1] at e
    exact n _ _ _ (Option.some.inj e).symm
  have nl : ∀ {b : Addr} {u : HO}, H b = some u → (∀ xs, u ≠ .lst xs) → b ≠ l := fun e n z => by
    rw [z, h2] at e
    exact n _ (Option.some.inj e).symm
  refine ⟨ps, f _ _ (nx e1 fun _ _ _ z => nomatch z) (nl e1 fun _ z => nomatch z) e1, e2, fun pos cv hc => ?_⟩
  obtain ⟨c, g1, g2⟩ := e3 pos cv hc
  exact ⟨c, g1, f _ _ (nx g2 fun _ _ _ z => by unfold LamX.CodeO at z; cases z) (nl g2 fun _ z => by unfold LamX.CodeO at z; cases z) g2⟩
def sp5 (f : V → V → V → V → V → Hp → VK → Prop) : Sp := fun vs H Q _ => ∃ a b c d e, vs = [a, b, c, d, e] ∧ f a b c d e H Q
theorem len5 {f : V → V → V → V → V → Hp → VK → Prop} {p q r s t : Str} : ∀ vs H Q E, sp5 f vs H Q E → vs.length = [p, q, r, s, t].length := fun _ _ _ _ h => by obtain ⟨a, b, c, d, e, rfl, _⟩ := h; rfl
theorem c5 {f : V → V → V → V → V → Hp → VK → Prop} {H : Hp} {Q : VK} {E : XK} {a b c d e : V} (h : f a b c d e H Q) : sp5 f ([a, b, c, d, e] ++ []) H Q E := ⟨a, b, c, d, e, rfl, h⟩
end Vc
namespace Vc
open PySem PySem.Spec PyProof.Rows L2
/-! ### a class made by names -/
theorem kbn3 {K : PySem.W.Frag} {fd : FuncData} {ps ks : List Str} {is : List Nat} (h : KBinds K fd ps ks (gpick 1 2 is) (gpick 1 2 is)) (hk : ks.length = 2) (hp : ps.length = 3) (hl : ∀ a b c : Value, (picks is [a, b, c]).length = 3) : KBn K fd ps 1 ks (gpick 1 2 is) (gpick 1 2 is) :=
  ⟨fun s us ws kin l1 l2 => h.to s us ws kin (by
    rw [hk] at l2
    match us, ws, l1, l2 with
    | [a], [b, c], _, _ => rw [hp]; exact hl a b c), h.rel⟩
theorem v_makeK {C : Addr} {n m : Nat} {sp : Sp} {gV : List V → List V → List V} {E : XK} {t tk : TA} {σ : L2.St} {H : Hp} {Q : VK} (h : t σ H fun vs H1 => tk σ H1 fun zs H2 => vs.length = n ∧ zs.length = m ∧ ∀ x dx, H2 x = none → H2 dx = none → dx ≠ x →
  sp (gV (.ref x :: vs) zs) (upd (upd H2 dx (.own x)) x (.ins C dx [])) (fun v H3 => v = .non ∧ Q (.ref x) H3) E) : tMakeK C n m sp gV E t tk σ H Q := h
end Vc
namespace Vc
open PySem PySem.Spec PyProof.Rows L2
/-! ### errors that keep a value: their class, as written -/
def exB (K : PySem.W.Frag) (C : Addr) : Bool := match K.lookup C with
  | some ⟨.type "type", _, .cls cd, sl⟩ => (match cd.mro, sl.toList with
    | .ref C2 :: bm, [_, _, _, _, some (.builtin n), _] => C2 == C && (n == "ValueError.__new__" && (cd.hasDict && (!cd.hasDel && PySem.HandSPX.refsVE bm)))
    | _, _ => false)
  | _ => false
theorem exB_cls {K : PySem.W.Frag} {C : Addr} (h : exB K C = true) : ∃ nm q N bs bm sn sub ab col dd k0 k1 k2 k3 k5, K.lookup C = some (excClassObj nm q C N bs bm true sn sub ab col dd k0 k1 k2 k3 k5 "ValueError.__new__") ∧ PySem.HandSPX.refsVE bm = true := by
  unfold exB at h
  split at h
  · rename_i dd cd sl e
    split at h
    · rename_i C2 bm a0 a1 a2 a3 n a5 em es
      simp only [Bool.and_eq_true, beq_iff_eq, Bool.not_eq_true'] at h
      obtain ⟨rfl, rfl, h3, h4, h5⟩ := h
      obtain ⟨nm, bs, mro, ns, qn, hd, sn, sb, ab, col, del⟩ := cd
      dsimp only at em h3 h4
      subst em h3 h4
      obtain ⟨sl⟩ := sl
      dsimp only at es
      subst es
      exact ⟨_, _, _, _, _, _, _, _, _, _, _, _, _, _, _, e, h5⟩
    · cases h
  · cases h
/-- an error class of the program with one value, its own __init__ -/
structure Er (K : PySem.W.Frag) (C fI : Addr) (f : Str) : Prop where
  ox : OexC K C
  ini : PySem.W.findIn K (.ref C) "__init__" = some (some (.ref fI))
  tyI : PySem.W.typeIn K (.ref fI) = some (.type "function")
  no : PySem.W.findIn K (.ref C) f = some none
  xf : XfC K C
  one : PySem.W.exmOne K (.ref C) (.ref C) = some true
/-- the promise of such an __init__ -/
def ini2 (C : Addr) (f : Str) : V → V → Hp → VK → Prop := fun s v H Q => ∃ a, s = .ref a ∧ H a = some (exo a C none) ∧ ∀ d, H d = none → d ≠ a → Q .non (upd (upd H d (exd d [(f, v)])) a (exo a C (some d)))
theorem v_ost {K : PySem.W.Frag} {f : Str} {to te : TE} {D : Ends} {σ : L2.St} {H : Hp} (h : te σ H fun y H1 => to σ H1 fun x H2 => ∃ a C : Addr, x = .ref a ∧ OexC K C ∧ PySem.W.findIn K (.ref C) f = some none ∧ H2 a = some (exo a C none) ∧ ∀ d, H2 d = none → d ≠ a → D.nx σ (upd (upd H2 d (exd d [(f, y)])) a (exo a C (some d))))
    (m1 : ∀ {P Q : VK}, (∀ v H, P v H → Q v H) → te σ H P → te σ H Q) (m2 : ∀ {H : Hp} {P Q : VK}, (∀ v H, P v H → Q v H) → to σ H P → to σ H Q) : tOst K f to te D σ H :=
  m1 (fun y H1 h1 => m2 (fun x H2 ⟨a, C, e, T, n, q⟩ => ⟨a, C, e, T, n, .inl q⟩) h1) h
theorem mono_var {i : Nat} : ∀ (σ : L2.St) (H : Hp) (A B : VK), (∀ v H1, A v H1 → B v H1) → tVar i σ H A → tVar i σ H B := fun _ _ _ _ m ⟨v, e, q⟩ => ⟨v, e, m _ _ q⟩
theorem mono_c {c : V} : ∀ (σ : L2.St) (H : Hp) (A B : VK), (∀ v H1, A v H1 → B v H1) → tC c σ H A → tC c σ H B := fun _ _ _ _ m q => m _ _ q
/-! ### raise C(e) -/
def tRaise1 (C : Addr) (f : Str) (te : TE) (W : WX) : TS := fun _ σ H => te σ H fun v H1 => ∀ d H2, H1 d = none → Same H1 H2 → H2 d = some (.xd [(f, v)]) → W (.ref C) (some d) σ H2
theorem PMk.imp {X : Cx} {e : Expr} {t u : L2.St → Hp → XK → Prop} (h : PMk X e t) (m : ∀ σ H Q, u σ H Q → t σ H Q) : PMk X e u := fun pins s σ H Q I hu => h pins s σ H Q I (m σ H Q hu)
theorem ps_raise1 {X : Cx} {C fI : Addr} {k : Nat} {fd : FuncData} {f p1 p2 : Str} {W : WX} {x : Str} {e : Expr} {te : TE} {p pos pos2 : Pos} (hc : X.calm = true) (T : Er X.K C fI f) (gC : X.mg x = some (.ref C)) (hg : Gl X x)
    (F : FnOk X.prog X.w X.K X.mg X.base (L2.CX X.prog X.w) k fI fd [p1, p2] (sp2 (ini2 C f))) (hr : Room (k + 1) X.A) (hb : L2.Binds X.K fd [p1, p2] []) (tk : Takes X W) (he : PE X e te)
    (mono : ∀ σ H (A B : VK), (∀ v H1, A v H1 → B v H1) → te σ H A → te σ H B)
    (hdb : (x == ("__debug__" : Str)) = false := by decide) (h1 : starEach [e] X.env = [(false, eval e X.env)] := by rfl) :
    PS X (.Raise (some (.Call (.Name x p) [e] [] pos)) none pos2) (tRaise1 C f te W) := by
  have mk := PMk.imp (u := fun σ H Q => te σ H fun v H1 => ∀ d H2, H1 d = none → Same H1 H2 → H2 d = some (.xd [(f, v)]) → Q (.ref C) (some d) H2)
    (pmk_oex (pos := pos) (p := p) T.ox T.ini T.tyI F hr hb .nil passF hg gC (pa_cons he pa_nil h1) hdb h1 (by rw [show starEach [] X.env = [] from rfl]; rfl)) (fun σ H Q hq => by
      refine mono _ _ _ _ (fun v H1 q => ?_) hq
      refine ⟨by simp, fun a ha => ⟨.ref a, v, rfl, a, rfl, upd_same, fun d hd hda => ⟨rfl, d, [(f, v)], upd_same, by rw [upd_ne hda]; exact upd_same, ?_, ?_⟩⟩⟩
      · rw [upd_ne hda] at hd
        exact hd
      · have hd' : H1 d = none := by
          rw [upd_ne hda] at hd
          exact hd
        refine q d _ hd' (fun b o eb => ?_) upd_same
        have nb : b ≠ a := fun z => by rw [z, ha] at eb; cases eb
        have nd : b ≠ d := fun z => by rw [z, hd'] at eb; cases eb
        rw [upd_ne nd, del_ne nb, upd_ne nb, upd_ne nd, upd_ne nb]
        exact eb)
  exact ps_raise hc tk mk
/-! ### try with several named clauses -/
abbrev Cl3 := Value × Nat × (Addr → Value → Option Addr → TS)
def goneE (D : Ends) (i : Nat) : Ends := ⟨fun σ H => D.nx (σ.set i none) H, D.rt, fun σ H => D.bk (σ.set i none) H, fun σ H => D.ct (σ.set i none) H⟩
def wNm (K : PySem.W.Frag) (Wo : WX) (D : Ends) : List Cl3 → WX
  | [] => Wo
  | z :: r => fun cl d σ H => ∃ b, PySem.W.exmOne K cl z.1 = some b ∧ (b = true → ∀ a, H a = none → z.2.2 a cl d (goneE D z.2.1) (σ.set z.2.1 (some (.ref a))) H) ∧ (b = false → wNm K Wo D r cl d σ H)
inductive NmOk (X : Cx) : List ExceptHandler → List Cl3 → Prop
  | nil : NmOk X [] []
  | cons {x n : Str} {i : Nat} {c : Value} {ts : Addr → Value → Option Addr → TS} {b0 : Stmt} {bs : List Stmt} {p1 p2 : Pos} {hs : List ExceptHandler} {l : List Cl3} (hc : Names X x c) (hi : X.N[i]? = some n) (hl : X.env.kindOf n = some .local)
      (su : ∀ (a : Addr) (o : Obj) (cl : Value) (d : Option Addr) (pn : List (Addr × Obj)), Zc cl d o → (∃ us, o.data = .fields us) → PSs (X.suite a ((a, o) :: pn)) (b0 :: bs) (ts a cl d)) (r : NmOk X hs l) :
      NmOk X (.ExceptHandler (some (.Name x p1)) (some n) (b0 :: bs) p2 :: hs) ((c, i, ts) :: l)
section
variable {X : Cx}
/-- how a run behind the clauses ends: the name goes -/
theorem nm_end {pins : List (Addr × Obj)} {D : Ends} {a : Addr} {o : Obj} {n : Str} {i : Nat} {p2 : Pos} (ok : X.Ok) (hN : X.N.Nodup) (hi : X.N[i]? = some n) (hl : X.env.kindOf n = some .local) {f : Flow} {s6 : Shared}
    (h : SP (X.suite a ((a, o) :: (X.pn ++ pins))) [] (goneE D i) f s6) : wpAny (model X.prog X.w) X.A (do bindName X.env n .none; unbindBehindTheSuite X.env n p2) (fun _ s7 => SP X pins D f s7) X.xe s6 := by
  have go : ∀ {σ6 : L2.St} {H6 : Hp} {R : Shared → Prop}, Inv (X.suite a ((a, o) :: (X.pn ++ pins))) [] σ6 H6 s6 → (∀ s7, Inv X pins (σ6.set i none) H6 s7 → R s7) → wpAny (model X.prog X.w) X.A (do bindName X.env n .none; unbindBehindTheSuite X.env n p2) (fun _ s7 => R s7) X.xe s6 :=
    fun J k => gone_ok (J.unsuite ok) hN hi hl k
  cases f with
  | ret u =>
    obtain ⟨v, σ6, H6, J, r, q⟩ := h
    exact go J fun s7 J7 => ⟨v, _, _, J7, r, q⟩
  | next => obtain ⟨σ6, H6, J, q⟩ := h; exact go J fun s7 J7 => ⟨_, _, J7, q⟩
  | brk => obtain ⟨σ6, H6, J, q⟩ := h; exact go J fun s7 J7 => ⟨_, _, J7, q⟩
  | cont => obtain ⟨σ6, H6, J, q⟩ := h; exact go J fun s7 J7 => ⟨_, _, J7, q⟩
/-- what the clauses do with an exception that has been noted -/
theorem nm_go {B : Heap} {pins : List (Addr × Obj)} {D : Ends} {Wo : WX} {s1 : Shared} {h3 : Heap} {sI : Shared} {σ : L2.St} {H : Hp} {a : Addr} {cl : Value} {d : Option Addr} (hs : X.stack = X.env :: X.outer) (hf : X.env.frame = some X.env.locals) (hN : X.N.Nodup) (tk : Takes X Wo) (ok : X.Ok) (J : Inv X pins σ H sI) (na : H a = none)
    (fl : PySem.HandSPX.FlyingZ B (X.env :: X.outer) a (Zc cl d) h3) (at_ : ∀ h4, B.StaysIn h4 → h3.UpToSlots h4 → Inv X pins σ H { s1 with heap := h4 })
    (out : ∀ h4, PySem.HandSPX.HeldZ B (X.env :: X.outer) a (Zc cl d) X.env.locals h4 → h3.UpToSlots h4 → Wo cl d σ H → XE X Wo (.ref a) { s1 with heap := h4 }) :
    ∀ {l : List Cl3} {hds : List ExceptHandler}, NmOk X hds l → wNm X.K Wo D l cl d σ H → wpAny (model X.prog X.w) X.A (handleBy (.ref a) X.env hds) (SP X pins D) X.xe { s1 with heap := h3 } := by
  obtain ⟨o3, us3, e3, z3, d3⟩ := fl.there
  have nfr : a ∉ frs (X.env :: X.outer) := fun hm => by
    obtain ⟨_, o', e', q'⟩ := fl.2.2.1.mem hm
    have e2 : o3 = o' := Option.some.inj (e3.symm.trans e')
    subst e2
    exact q' _ d3
  have nL : a ≠ X.env.locals := fun z => nfr (List.mem_filterMap.mpr ⟨_, .head _, by rw [hf, z]⟩)
  have nF : a ∉ X.fs := fun hm => by
    obtain ⟨ev, he, q⟩ := List.mem_filterMap.mp hm
    exact nfr (List.mem_filterMap.mpr ⟨ev, .tail _ he, q⟩)
  have J3 := at_ h3 fl.1 (Heap.UpToSlots.refl _)
  have S3 := J3.suite e3 d3 na nL nF
  intro l hds hk
  induction hk with
  | nil =>
    intro w
    refine wpAny_handleBy_nil ?_
    obtain ⟨_, _, _, o, us, T, oT, t', he, hz, hd, h1, hr⟩ := id fl
    unfold PySem.passOn
    refine wpAny_bind (wpAny_field he hd h1 ?_)
    rw [if_neg (by simp : ¬ ((Value.ref T == Value.none) = true))]
    have last : wpAny (model X.prog X.w) X.A (setFlight (.ref a) X.env.frame) (fun _ s4 => wpAny (model X.prog X.w) X.A (throw (.ref a) : Sem Flow) (SP X pins D) X.xe s4) X.xe { s1 with heap := h3 } := by
      rw [hf]
      exact PySem.HandSPX.setFlight_upZ fl fun h4 hh up => wpAny_throw (tk _ _ (out h4 hh up w))
    first
      | exact wpAny_bind (wpAny_pure (wpAny_bind last))
      | exact wpAny_bind last
  | @cons x n i c ts b0 bs p1 p2 hs2 l2 hc hi hl su r ih =>
    intro w
    obtain ⟨b, hb, yes, no⟩ := w
    refine wpAny_handleBy_cons (codeAny_handlers_test ?_) (fun q => nomatch q)
    have tyL : PySem.W.Looks (model X.prog X.w) h3 (typeOf (.ref a)) cl := fun _ _ _ _ k q => wpAny_typeOf_ref (k _ _ e3) (by rw [z3.1]; exact q)
    have look := PySem.W.exm_one (M := model X.prog X.w) J3.kIn tyL hb
    have ask : ∀ {Q E : Value → Shared → Prop}, Q c { s1 with heap := h3 } → wpAny (model X.prog X.w) (X.A.mark (some (.ref a))) (eval (.Name x p1) X.env) Q E { s1 with heap := h3 } := fun {Q E} q => by
      rcases hc with ⟨g1, g2, m | ⟨m, v, nn⟩⟩
      · exact ld_glob (X := X.suite a ((a, o3) :: (X.pn ++ pins))) S3 g1 m q g2
      · exact ld_blt (X := X.suite a ((a, o3) :: (X.pn ++ pins))) S3 g1 m v q nn g2
    refine ask (look.here ?_)
    cases b with
    | false => exact ih (no rfl)
    | true =>
      refine codeAny_handlers_suite_as (PySem.HandSPX.lands_againZ fl fun h4 fl4 up4 => ?_)
      obtain ⟨o4, us4, e4, z4, d4⟩ := fl4.there
      have S4 := (at_ h4 fl4.1 up4).suite e4 d4 na nL nF
      exact store_ok (X := X.suite a ((a, o4) :: (X.pn ++ pins))) (v := .ref a) S4 hN hi (.inl hl) rfl (fun s5 S5 => wpAny_mono ((su a o4 cl d (X.pn ++ pins) z4 ⟨_, d4⟩).run [] s5 _ H _ S5 (yes rfl a na)) (fun f s6 h6 => nm_end ok hN hi hl h6) fun _ _ z => z.elim) (.inr hl)
theorem ps_try_nm {body : List Stmt} {h0 : ExceptHandler} {hds : List ExceptHandler} {l : List Cl3} {pos : Pos} {tb : WX → TS} {Wo : WX} (hs : X.stack = X.env :: X.outer) (hf : X.env.frame = some X.env.locals) (hN : X.N.Nodup) (tk : Takes X Wo)
    (hb : ∀ (W : WX) (pn : List (Addr × Obj)) (xe : Value → Shared → Prop), Takes (X.tr pn xe) W → PassesOwn (model X.prog X.w) X.A X.env xe → PSs (X.tr pn xe) body (tb W)) (hh : NmOk X (h0 :: hds) l) :
    PS X (.Try body (h0 :: hds) [] [] pos) (fun D σ H => tb (wNm X.K Wo D l) D σ H) := by
  refine ⟨fun pins s σ H D I h => wpAny_Try_except ?_⟩
  have ok := I.ok
  have hfr : X.A.frames = some (X.env :: X.outer) := ok.frames.trans (by rw [hs])
  let xe : Value → Shared → Prop := fun e s1 => wpAny (model X.prog X.w) X.A (noteFrame e X.env) (fun _ s2 => wpAny (model X.prog X.w) X.A (setFlight e none) (fun _ s3 => wpAny (model X.prog X.w) X.A (handleBy e X.env (h0 :: hds)) (SP X pins D) X.xe s3) X.xe s2) X.xe s1
  have run := (hb (wNm X.K Wo D l) (X.pn ++ pins) xe (fun u s1 x => ?_) PassesOwn.looking).run [] s σ H D (I.toTry _) h
  · refine wpAny_mono run (fun f s1 h1 => ?_) fun _ _ z => z
    cases f with
    | ret u => obtain ⟨v, σ', H', J, r, q⟩ := h1; exact ⟨v, σ', H', J.ofTry ok, r, q⟩
    | next => obtain ⟨σ', H', J, q⟩ := h1; exact wpAny_execs_nil ⟨σ', H', J.ofTry ok, q⟩
    | brk => obtain ⟨σ', H', J, q⟩ := h1; exact ⟨σ', H', J.ofTry ok, q⟩
    | cont => obtain ⟨σ', H', J, q⟩ := h1; exact ⟨σ', H', J.ofTry ok, q⟩
  · obtain ⟨a, B, sI, pins1, σ1, H1, cl, d, rfl, J1, nb, up, sky, na, os, ag, w⟩ := x
    have J : Inv X pins σ1 H1 sI := J1.ofTry ok
    have sky1 : Sky B (X.env :: X.outer) a (Zc cl d) X.env.locals s1.heap := by rw [← hs]; exact sky
    show wpAny (model X.prog X.w) X.A (noteFrame (.ref a) X.env) _ _ _
    refine Sky.land Zc.steady hfr hf sky1 fun h3 fl up3 => nm_go (B := B) (s1 := s1) (sI := sI) hs hf hN tk ok J na fl (fun h4 st u4 => J.landed nb st ((up.trans up3).trans u4) os ag) (fun h4 hh4 u4 q => ?_) hh w
    exact ⟨a, B, sI, pins, σ1, H1, cl, d, rfl, J, nb, (up.trans up3).trans u4, .inr (.inr (by rw [hs]; exact hh4)), na, os, ag, q⟩
end
/-! ### one clause without a name, what it does not take goes on -/
def tTry1X (K : PySem.W.Frag) (C : Addr) (Eo : XK) (ts : TS) (tb : XK → TS) : TS := fun D σ H => tb (WE' (wOnly K (.ref C) (fun _ _ _ => ts) (fun cl d _ H => Eo cl d H) D)) D σ H
theorem ps_try1X {X : Cx} {C : Addr} {Eo : XK} {x : Str} {body : List Stmt} {b₀ : Stmt} {ts : TS} {tb : XK → TS} {np pos pos' : Pos} (hs : X.stack = X.env :: X.outer) (hf : X.env.frame = some X.env.locals) (hg : Gl X x) (gC : X.mg x = some (.ref C)) (hd : (x == ("__debug__" : Str)) = false)
    (tk : Takes X (fun cl d _ H => Eo cl d H)) (hb : ∀ (EX : XK) (pn : List (Addr × Obj)) (xe : Value → Shared → Prop), Passes (L2.CX X.prog X.w) (X.tr pn xe) EX → PSs (X.tr pn xe) body (tb EX))
    (hsu : ∀ (a : Addr) (pn : List (Addr × Obj)), PSs (X.suite a pn) [b₀] ts) :
    PS X (.Try body [.ExceptHandler (some (.Name x np)) none [b₀] pos'] [] [] pos) (tTry1X X.K C Eo ts tb) :=
  ps_try_only (c := .ref C) (tb := fun W => tb (WE' W)) (ts := fun _ _ _ => ts) (Wout := fun cl d _ H => Eo cl d H) hs hf ⟨hg, hd, .inl gC⟩ tk (fun W pn xe tk _ => hb (WE' W) pn xe (passW tk)) (fun a oe cls d pn _ _ => hsu a _)
theorem v_try1X {K : PySem.W.Frag} {C : Addr} {Eo : XK} {ts : TS} {tb : XK → TS} {D : Ends} {σ : L2.St} {H : Hp} (T : ExC K C)
    (h : ∀ E : XK, (∀ d H', (∀ σ', ts D σ' H') → E (.ref C) d H') → (∀ C2 d H', PySem.W.exmOne K (.ref C2) (.ref C) = some false → Eo (.ref C2) d H' → E (.ref C2) d H') → tb E D σ H) : tTry1X K C Eo ts tb D σ H :=
  h _ (fun d H' q σ' => ⟨true, T.one, fun _ a _ => q σ', fun z => nomatch z⟩) fun C2 d H' n q σ' => ⟨false, n, fun z => (nomatch z), fun _ => q⟩
/-! ### several clauses with names -/
def tTryN (K : PySem.W.Frag) (Eo : XK) (l : List Cl3) (tb : WX → TS) : TS := fun D σ H => tb (wNm K (fun cl d _ H => Eo cl d H) D l) D σ H
theorem v_tryN {K : PySem.W.Frag} {Eo : XK} {l : List Cl3} {tb : WX → TS} {D : Ends} {σ : L2.St} {H : Hp} (h : ∀ W : WX, (∀ cl d σ' H', wNm K (fun cl d _ H => Eo cl d H) D l cl d σ' H' → W cl d σ' H') → tb W D σ H) : tTryN K Eo l tb D σ H := h _ fun _ _ _ _ q => q
theorem wNm_hit {K : PySem.W.Frag} {Wo : WX} {D : Ends} {i : Nat} {ts : Addr → Value → Option Addr → TS} {r : List Cl3} {C : Addr} {d : Option Addr} {σ : L2.St} {H : Hp} (one : PySem.W.exmOne K (.ref C) (.ref C) = some true) (q : ∀ a, H a = none → ts a (.ref C) d (goneE D i) (σ.set i (some (.ref a))) H) : wNm K Wo D ((.ref C, i, ts) :: r) (.ref C) d σ H :=
  ⟨true, one, fun _ => q, fun z => nomatch z⟩
theorem wNm_miss {K : PySem.W.Frag} {Wo : WX} {D : Ends} {i : Nat} {ts : Addr → Value → Option Addr → TS} {r : List Cl3} {C C2 : Addr} {d : Option Addr} {σ : L2.St} {H : Hp} (n : PySem.W.exmOne K (.ref C) (.ref C2) = some false) (q : wNm K Wo D r (.ref C) d σ H) : wNm K Wo D ((.ref C2, i, ts) :: r) (.ref C) d σ H :=
  ⟨false, n, fun z => (nomatch z), fun _ => q⟩
theorem passAtV {X : Cx} {W : WX} (tk : Takes X W) (σ : L2.St) : PassesAt (L2.CX X.prog X.w) X σ (fun cl d H => W cl d σ H) := fun pins H s e s' I c =>
  tk _ _ (XE.of_call (W := W) I (fun _ _ _ q => q) c)
/-- err.f behind 'as err' -/
theorem v_xf {a : Addr} {C : Addr} {d : Addr} {f : Str} {te : TE} {σ : L2.St} {H : Hp} {Q : VK} {v : V} (h : te σ H fun x H1 => x = .ref a ∧ H1 d = some (.xd [(f, v)]) ∧ Q v H1) (m : ∀ {P R : VK}, (∀ v H, P v H → R v H) → te σ H P → te σ H R) : tXf a (.ref C) (some d) C f te σ H Q :=
  m (fun x H1 ⟨e, e2, q⟩ => ⟨e, rfl, d, _, v, rfl, e2, by simp [List.lookup], q⟩) h
theorem ps_tryN {X : Cx} {body : List Stmt} {h0 : ExceptHandler} {hds : List ExceptHandler} {l : List Cl3} {pos : Pos} {tb : WX → TS} {Eo : XK} (hs : X.stack = X.env :: X.outer) (hf : X.env.frame = some X.env.locals) (hN : X.N.Nodup) (tk : Takes X (fun cl d _ H => Eo cl d H))
    (hb : ∀ (W : WX) (pn : List (Addr × Obj)) (xe : Value → Shared → Prop), Takes (X.tr pn xe) W → PSs (X.tr pn xe) body (tb W)) (hh : NmOk X (h0 :: hds) l) : PS X (.Try body (h0 :: hds) [] [] pos) (tTryN X.K Eo l tb) :=
  ps_try_nm hs hf hN tk (fun W pn xe t _ => hb W pn xe t) hh
theorem v_callS {sp : Sp} {dvs : List V} {E : L2.St → XK} {t : TA} {σ : L2.St} {H : Hp} {Q : VK} (h : t σ H fun vs H1 => sp (vs ++ dvs) H1 Q (E σ)) : tCallSD sp dvs E t σ H Q := h
theorem v_raise1 {C : Addr} {f : Str} {te : TE} {W : WX} {D : Ends} {σ : L2.St} {H : Hp} (h : te σ H fun v H1 => ∀ d H2, H1 d = none → Same H1 H2 → H2 d = some (.xd [(f, v)]) → W (.ref C) (some d) σ H2) : tRaise1 C f te W D σ H := h
section
variable {K : PySem.W.Frag} {H : Hp} {Q : VK}
theorem v_isIntB {b : Bool} (h : Q (.bl true) H) : rIsi K [.bl b, .ty "int"] H Q := ⟨_, _, _, _, true, rfl, .ty _, .base (.bl b), kit_ty (by decide +kernel), h⟩
theorem v_isBoolB {b : Bool} (h : Q (.bl true) H) : rIsi K [.bl b, .ty "bool"] H Q := ⟨_, _, _, _, true, rfl, .ty _, .base (.bl b), kit_ty (by decide +kernel), h⟩
theorem v_isIntN (h : Q (.bl false) H) : rIsi K [.non, .ty "int"] H Q := ⟨_, _, _, _, false, rfl, .ty _, .base .non, kit_ty (by decide +kernel), h⟩
theorem v_isIntS {s : Str} (h : Q (.bl false) H) : rIsi K [.str s, .ty "int"] H Q := ⟨_, _, _, _, false, rfl, .ty _, .base (.str s), kit_ty (by decide +kernel), h⟩
end
theorem x4 {f : V → V → V → V → Hp → VK → XK → Prop} {H : Hp} {Q : VK} {E : XK} {a b c d : V} (h : f a b c d H Q E) : spx4 f ([a, b, c, d] ++ []) H Q E := ⟨a, b, c, d, rfl, h⟩
end Vc
namespace Vc
open PySem PySem.Spec PyProof.Rows L2
/-! ### either of two readings -/
theorem PE.or {X : Cx} {e : Expr} {t u : TE} (h : PE X e t) (k : PE X e u) : PE X e (fun σ H Q => t σ H Q ∨ u σ H Q) := ⟨fun pins s σ H Q I q => q.elim (h.run pins s σ H Q I) (k.run pins s σ H Q I)⟩
/-! ### numbers and truths in sums -/
def nb : V → Option Int
  | .int i => some i
  | .bl b => some (if b = true then 1 else 0)
  | _ => none
def rNbI (g : Int → Int → Int) : R2 := fun x y H Q => ∃ i j, nb x = some i ∧ y = .int j ∧ Q (.int (g i j)) H
def rINb (g : Int → Int → Int) : R2 := fun x y H Q => ∃ i j, x = .int i ∧ nb y = some j ∧ Q (.int (g i j)) H
section
variable {X : Cx}
theorem op_addNb : OpR X (binaryOp .Add) (rNbI fun i j => i + j) := by
  intro pins s σ H x y v u Q I rx ry h
  obtain ⟨i, j, hi, rfl, q⟩ := h
  obtain ⟨t, rfl⟩ := ry
  cases x <;> simp only [nb, Option.some.injEq, reduceCtorEq] at hi
  · subst hi
    cases rx
    exact PySem.IntBool.add_bool_int ⟨.int _, H, I.tok _, ⟨_, rfl⟩, q⟩
  · subst hi
    exact op_add pins s σ H (.int _) (.int j) _ _ Q I rx ⟨t, rfl⟩ ⟨_, _, rfl, rfl, q⟩
theorem op_subNb : OpR X (binaryOp .Sub) (rNbI fun i j => i - j) := by
  intro pins s σ H x y v u Q I rx ry h
  obtain ⟨i, j, hi, rfl, q⟩ := h
  obtain ⟨t, rfl⟩ := ry
  cases x <;> simp only [nb, Option.some.injEq, reduceCtorEq] at hi
  · subst hi
    cases rx
    exact PySem.IntBool.sub_bool_int ⟨.int _, H, I.tok _, ⟨_, rfl⟩, q⟩
  · subst hi
    exact op_sub pins s σ H (.int _) (.int j) _ _ Q I rx ⟨t, rfl⟩ ⟨_, _, rfl, rfl, q⟩
theorem op_subIb : OpR X (binaryOp .Sub) (rINb fun i j => i - j) := by
  intro pins s σ H x y v u Q I rx ry h
  obtain ⟨i, j, rfl, hj, q⟩ := h
  obtain ⟨t, rfl⟩ := rx
  cases y <;> simp only [nb, Option.some.injEq, reduceCtorEq] at hj
  · subst hj
    cases ry
    exact PySem.IntBool.sub_int_bool ⟨.int _, H, I.tok _, ⟨_, rfl⟩, q⟩
  · subst hj
    exact op_sub pins s σ H (.int i) (.int _) _ _ Q I ⟨t, rfl⟩ ry ⟨_, _, rfl, rfl, q⟩
end
/-! ### a tuple the other way round -/
theorem adj_back (n : Nat) : Builtin.Slice.sliceAdjust none none (-1) (n : Int) = ((n : Int) - 1, -1) := rfl
theorem plc_back (n : Nat) : Builtin.Slice.slicePlaces ((n : Int) - 1) (-1) (-1) = n := by
  unfold Builtin.Slice.slicePlaces
  rw [if_neg (by decide)]
  by_cases h : (n : Int) - 1 > -1
  · rw [if_pos h, show (- -1 : Int) = 1 from rfl, Int.ediv_one]
    omega
  · rw [if_neg h]
    omega
theorem fm_some {α : Type} (f : Nat → Option α) (g : Nat → α) : ∀ n, (∀ m, m < n → f m = some (g m)) → (List.range n).filterMap f = (List.range n).map g
  | 0, _ => rfl
  | n + 1, h => by
    rw [List.range_succ, List.filterMap_append, List.map_append, fm_some f g n fun m hm => h m (by omega)]
    congr 1
    rw [List.filterMap_cons_some (h n (by omega))]
    rfl
theorem pick_back (xs : Array Value) : ((List.range xs.size).filterMap fun (m : Nat) => xs[(((xs.size : Nat) : Int) - 1 + (m : Int) * -1).toNat]?).toArray = xs.toList.reverse.toArray := by
  congr 1
  rw [fm_some _ (fun m => xs.toList.reverse.getD m .none) xs.size fun m hm => by
    have h1 : (((xs.size : Nat) : Int) - 1 + (m : Int) * -1).toNat = xs.size - 1 - m := by omega
    have h2 : m < xs.toList.reverse.length := by simpa using hm
    rw [h1, List.getD_eq_getElem?_getD, List.getElem?_eq_getElem h2, List.getElem_reverse]
    simp only [Option.getD_some, Array.length_toList, Array.getElem_toList]
    exact Array.getElem?_eq_getElem _]
  apply List.ext_getElem?
  intro i
  rw [List.getElem?_map]
  by_cases hi : i < xs.size
  · rw [List.getElem?_range hi, Option.map_some, List.getD_eq_getElem?_getD]
    have h2 : i < xs.toList.reverse.length := by simpa using hi
    rw [List.getElem?_eq_getElem h2]
    rfl
  · rw [List.getElem?_eq_none (by simpa using hi), List.getElem?_eq_none (by simpa using hi)]
    rfl
section
variable {prog : Program} {w : World} {A : Around} {E : Value → Shared → Prop} {s : Shared}
theorem app_back {sl : Addr} {k : Int} {u : Tok} {n : Nat} {Q : Int × Int × Nat → Shared → Prop} (hs : s.heap.IsSliceOf sl .none .none (.int (-1) u)) (h : Q ((n : Int) - 1, -1, n) s) : wpAny (model prog w) A (Builtin.Slice.sliceApplied (.ref sl) (pure (n : Int))) Q E s := by
  obtain ⟨o, ho, hc, hd⟩ := id hs
  unfold Builtin.Slice.sliceApplied Builtin.Slice.sliceFields
  refine wpAny_bind (wpAny_bind (wpAny_field ho hd (x := .none) rfl (wpAny_bind (wpAny_field ho hd (x := .none) rfl (wpAny_bind (wpAny_field ho hd (x := .int (-1) u) rfl (wpAny_pure ?_)))))))
  refine wpAny_bind (slicePart_int ?_)
  show wpAny _ _ (if ((-1 : Int) == 0) = true then _ else _) _ _ s
  rw [if_neg (by decide)]
  refine wpAny_bind (slicePart_none (wpAny_bind (slicePart_none (wpAny_bind (wpAny_pure ?_)))))
  show wpAny _ _ (pure ((n : Int) - 1, (-1 : Int), Builtin.Slice.slicePlaces ((n : Int) - 1) (-1) (-1))) _ _ s
  rw [plc_back]
  exact wpAny_pure h
theorem get_back {t sl : Addr} {xs : Array Value} {u : Tok} {Q : Value → Shared → Prop} (ht : IsTup s.heap t xs) (hs : s.heap.IsSliceOf sl .none .none (.int (-1) u)) (hz : xs.size ≤ sizeLine)
    (h : Q (.ref s.heap.objs.size) { s with heap := s.heap.push { cls := .type "tuple", data := .seq xs.toList.reverse.toArray } }) : wpAny (model prog w) A (getItem (.ref t) (.ref sl)) Q E s := by
  have hk : sizeOk (.seq xs.toList.reverse.toArray) := by
    show xs.toList.reverse.toArray.size ≤ sizeLine
    rw [List.size_toArray, List.length_reverse, Array.length_toList]
    exact hz
  obtain ⟨o, ho, hc, hd⟩ := id hs
  unfold getItem
  try with_reducible refine wpAny_holding ?_
  first | refine wpAny_bind (wpAny_pure ?_) | skip
  refine wpAny_bind (wpAny_sequenceKey ht.typeIs (by decide) (wpAny_bind (wpAny_callSpecial?_slot (name := Str.ofString "__getitem__") ht.typeIs PyProof.Rows.slot_tuple_getitem (wpAny_call_entry PyProof.Rows.slot_tuple_getitem ht.typeIs entry_tuple_getitem ?_ (args_tuple_getitem _ _)))))
  show wpAny _ _ (Builtin.Tuple.tupleItemsOf (.ref t) >>= _) _ _ s
  refine wpAny_bind (tupleItemsOf_ ht (wpAny_bind (wpAny_typeOf (T := "slice") ⟨o, ho, hc⟩ ?_)))
  rw [if_pos (by decide)]
  refine wpAny_bind (app_back (k := 0) hs ?_)
  show wpAny _ _ (if ((((xs.size : Nat) : Int) - 1) == 0 && (-1 : Int) == 1 && xs.size == xs.size) = true then _ else _) _ _ s
  rw [if_neg (by simp), pick_back]
  first
    | exact wpAny_bind (m := Builtin.Tuple.tupleExact _) (wpAny_newObj_type (wpAny_pure ⟨_, rfl, wpAny_pure h⟩) hk)
    | exact wpAny_bind (m := Builtin.Tuple.tupleExact _) (wpAny_newObj_type (wpAny_bind (wpAny_pure (wpAny_pure ⟨_, rfl, wpAny_pure h⟩))) hk)
    | exact wpAny_bind (wpAny_bind (m := Builtin.Tuple.tupleExact _) (wpAny_newObj_type (wpAny_pure (wpAny_pure ⟨_, rfl, wpAny_pure h⟩)) hk))
    | exact wpAny_bind (wpAny_bind (m := Builtin.Tuple.tupleExact _) (wpAny_newObj_type (wpAny_pure ⟨_, rfl, wpAny_pure h⟩) hk))
end
/-! ### x[::-1] -/
def revS (z : PySem.Str) : PySem.Str := ⟨((Builtin.Str.strSliceIndices none none (-1) z.length).filterMap (z.cps[·]?)).toArray⟩
def tBack (K : PySem.W.Frag) (te : TE) : TE := fun σ H Q => te σ H fun x H1 => (∃ a xs, x = .ref a ∧ SqT K H1 a xs ∧ ∀ p, H1 p = none → Q (.ref p) (upd H1 p (.tup xs.reverse))) ∨ (∃ z, x = .str z ∧ (revS z).length ≤ sizeLine ∧ Q (.str (revS z)) H1)
theorem pe_back {X : Cx} {e : Expr} {te : TE} {k : Nat} {p1 p2 p3 pos : Pos} (he : PE X e te) : PE X (.Subscript e (.Slice none none (some (.UnaryOp .USub (.Constant (.int 1) k p1) p2)) p3) pos) (tBack X.K te) := by
  refine ⟨fun pins s σ H Q I h => Subscript_ (thn (he.run pins s σ H _ I h) fun v s1 ⟨x, H1, I1, r1, q1⟩ => ?_)⟩
  have st : PO X (some (.UnaryOp .USub (.Constant (.int 1) k p1) p2)) (tPart (tUn (rU fun i => .int (-i)) (tC (.int 1)))) := po_some (pe_un un_neg pe_int)
  refine wpAny_Slice (thn (po_none.run pins s1 σ H1 (fun o H2 => o = none ∧ H2 = H1) I1 ⟨rfl, rfl⟩) fun vl s2 ⟨l, H2, I2, pl, el, e2⟩ => thn (po_none.run pins s2 σ H2 (fun o H3 => o = none ∧ H3 = H2) I2 ⟨rfl, rfl⟩) fun vu s3 ⟨u, H3, I3, pu, eu, e3⟩ => thn (st.run pins s3 σ H3 (fun o H4 => o = some (-1) ∧ H4 = H3) I3 ⟨1, rfl, -1, rfl, rfl, rfl⟩) fun vs s4 ⟨o, H4, I4, ps, eo, e4⟩ => ?_)
  subst el e2 eu e3 eo e4
  cases pl
  cases pu
  cases ps with
  | int i t0 =>
    have I5 : Inv X pins σ H4 { s4 with heap := s4.heap.push { cls := .type "slice", data := .fields #[.none, .none, .int (-1) t0] } } := I4.kept (t' := s4.toks) fun b ob q => Heap.get?_push_of_some _ q
    rcases q1 with ⟨a, xs, rfl, hx, q⟩ | ⟨z, rfl, hz, q⟩
    · cases r1
      obtain ⟨its, r, ht, hz⟩ := I5.tuple hx
      have hlen : its.toArray.size = xs.length := by rw [List.size_toArray]; exact r.length.symm
      show wpAny (model X.prog X.w) X.A (subscriptTail e (.Slice none none (some (.UnaryOp .USub (.Constant (.int 1) k p1) p2)) p3) (.ref a) (.ref s4.heap.objs.size)) (EP X pins σ Q) X.xe { s4 with heap := s4.heap.push { cls := .type "slice", data := .fields #[.none, .none, .int (-1) t0] } }
      refine tail_any (ops := [.ref a, .ref s4.heap.objs.size]) ht.typeIs PyProof.Rows.slot_tuple_getitem.lookup (get_back ht (Heap.IsSliceOf.new ..) (by rw [hlen]; exact hz) ?_) (by with_unfolding_all rfl)
      refine ⟨.ref _, _, I5.laid (t' := s4.toks) (o := .tup xs.reverse) (fun b ob q => Heap.get?_push_of_some _ q) (Nat.le_refl _) ?_, rfl, q _ (I5.hok.fresh (Nat.le_refl _))⟩
      exact ⟨by rw [List.length_reverse]; exact hz, _, by simpa using r.reverse, IsTup.new _ _⟩
    · obtain ⟨tz, rfl⟩ := r1
      show wpAny (model X.prog X.w) X.A (subscriptTail e (.Slice none none (some (.UnaryOp .USub (.Constant (.int 1) k p1) p2)) p3) (.str z tz) (.ref s4.heap.objs.size)) (EP X pins σ Q) X.xe { s4 with heap := s4.heap.push { cls := .type "slice", data := .fields #[.none, .none, .int (-1) t0] } }
      refine tail_any (ops := [.ref s4.heap.objs.size]) (typeIs_str _ _ _) PySem.F.slot_str_getitem.lookup (PySem.wpAny_getItem_str_slice (l := none) (u := none) (st := some (-1, t0)) ⟨_, Heap.get?_push_size _ rfl, rfl, rfl⟩ rfl ?_) (by with_unfolding_all rfl)
      show Made.post (if ((-1 : Int) == 1 && _) = true then Made.val (.str z tz) else Made.str (revS z)) _ _
      rw [if_neg (by simp)]
      exact ⟨hz, ⟨.str _, H4, I5.tok _, ⟨_, rfl⟩, q⟩⟩
theorem v_backT {K : PySem.W.Frag} {te : TE} {σ : L2.St} {H : Hp} {Q : VK} (h : te σ H fun x H1 => (∃ a xs, x = .ref a ∧ SqT K H1 a xs ∧ ∀ p, H1 p = none → Q (.ref p) (upd H1 p (.tup xs.reverse))) ∨ (∃ z, x = .str z ∧ (revS z).length ≤ sizeLine ∧ Q (.str (revS z)) H1)) : tBack K te σ H Q := h
/-! ### x.upper() -/
def tUp (te : TE) : TE := fun σ H Q => te σ H fun x H1 => ∃ z, x = .str z ∧ z.length ≤ 5000000 ∧ Q (.str (Txt.upper z)) H1
theorem pe_up {X : Cx} {o : Expr} {te : TE} {p1 p2 : Pos} (he : PE X o te) (hb : attributeBase o "upper" X.env (eval o X.env) = eval o X.env := by rfl) (hl : (p1.endLine == p2.line) = true := by rfl) : PE X (.Call (.Attribute o "upper" p1) [] [] p2) (tUp te) := by
  refine ⟨fun pins s σ H Q I h => ?_⟩
  refine J1.ev_upper hb hl (thn (he.run pins s σ H _ I h) fun v s1 ⟨x, H1, I1, r1, z, e, hz, q⟩ => ?_)
  subst e
  obtain ⟨t, rfl⟩ := r1
  exact ⟨z, t, rfl, by omega, fun t' k => ⟨.str _, H1, I1.tok _, ⟨_, rfl⟩, q⟩⟩
end Vc
namespace Vc
open PySem PySem.Spec PyProof.Rows L2
/-! ### all(..) over a text's signs, by a test that sees the module's names -/
def EltG (prog : Program) (w : World) (mg : Str → Option Value) (scope : Scope) (x : Str) (elt : Expr) (pb : Nat → Bool) : Prop :=
  ∀ (ce : Env) (B : Around) (F : Value → Shared → Prop) (c : Nat) (u : Tok) (r : Shared) (m : Str → Option Value), ce.scope = scope → ce.globals = mainGlobals → r.heap.Ns mainGlobals mg → r.heap.Ns ce.locals m → m x = some (.str ⟨#[c]⟩ u) →
    wpAny (model prog w) B (eval elt ce) (fun y r' => y = .bool (pb c) ∧ Keeps r r') F r
theorem gen_sg {X : Cx} {pins : List (Addr × Obj)} {σ : L2.St} {H : Hp} {s : Shared} {c P : Addr} {elt iter : Expr} {x : Str} {px gp : Pos} {scope : Scope} {pb : Nat → Bool} {te : TE} {k : Nat} {G : Value → Shared → Prop} {R : Str → Hp → Prop}
    (room : Room k X.A) (tb : GxR.TabB X.base X.mg c P) (cod : X.env.code = .ref c) (S : GxR.GenS X.env scope x) (it : PE X iter te) (el : EltG X.prog X.w X.mg scope x elt pb) (fold : ∀ v, genFold iter X.env v = pure v)
    (I : Inv X pins σ H s) (h : te σ H fun v H1 => ∃ a : Str, v = .str a ∧ GxR.TabG H1 P ∧ R a H1) (out : ∀ a H1 g z, R a H1 → GxR.Ready X pins σ H1 P a pb g z → G (.ref g) z) :
    wpAny (model X.prog X.w) X.A (eval (.GeneratorExp elt [⟨.Name x px, iter, [], 0⟩] scope gp) X.env) G X.xe s := by
  refine wpAny_GeneratorExp_walksQ room.hd S.co (closure_ok S.free) S.cell S.dot S.loc S.kind (by have := room.dp; omega) (thn (it.run pins s σ H _ I h) fun xv y ⟨v, H1, J, rv, hv⟩ => ?_) fold
  obtain ⟨a, rfl, ⟨ps, eP, tr⟩, hR⟩ := hv
  obtain ⟨u0, rfl⟩ := id rv
  refine wpAny_pyIter_str fun o St walk st0 => ?_
  have gP : y.heap.get? P = some { cls := .none, data := .fields ps } := J.hok P _ eP
  have lP := Heap.lt_size gP
  have gP' : (y.heap.push o).get? P = some { cls := .none, data := .fields ps } := Heap.get?_push_of_some _ gP
  have chd : PySem.W.CodeHd (y.heap.push o) c P := tb.code.keeps fun b z e => Heap.get?_push_of_some _ (J.bk b z e)
  have nlim := J.nolimit.push o
  have glob0 : (y.heap.push o).Ns mainGlobals X.mg := (J.mod.glob.keeps J.bk).push o
  obtain ⟨bm, ob, b1, b2, b3, b4, b5, b6, b7, b8⟩ := tb.bm
  have nsP : cStatics ≠ P := fun e => by
    obtain ⟨_, hn, _⟩ := J.nolimit
    obtain ⟨o', _, _, ho, hd, _⟩ := hn
    rw [e, gP] at ho
    cases ho
    cases hd
  have ltS : cStatics < y.heap.objs.size := by
    obtain ⟨_, hn, _⟩ := J.nolimit
    exact hn.lt
  have ltG : mainGlobals < y.heap.objs.size := (J.mod.glob.keeps J.bk).lt
  refine ⟨nlim, ?_⟩
  -- the code object: new, or found in the table
  suffices key : ∀ (cv : Value) (h3 : Heap) (tk : Nat) (ps3 : Array Value), Heap.ExtBut P (y.heap.push o) h3 ∧ (y.heap.push o).objs.size ≤ h3.objs.size ∧ h3.get? P = some { cls := .none, data := .fields ps3 } ∧ (∃ more, ps3 = ps ++ more) ∧ TriplesOk ps3.toList → wpAny (model X.prog X.w) X.A (builtinsFor X.env.globals X.env.builtins) _ X.xe { y with heap := h3, toks := tk } by
    cases among : codeAmong gp ps.toList with
    | some cv => exact wpAny_genexprCode_hit cod (chd.code gP' tr) among (key cv _ y.toks ps ⟨Heap.ExtBut.refl _ _, Nat.le_refl _, gP', ⟨#[], by simp⟩, tr⟩)
    | none =>
      refine wpAny_genexprCodeX cod (chd.code gP' tr) (chd.tab gP') among fun c2 h2 tk ext ge lt isC _ tab _ => ?_
      obtain ⟨_, _, _, _, _, _, _, _, _, _, _, _, _, _, _, _, _, _, _, tr2, _⟩ := isC
      exact key _ h2 tk _ ⟨ext, Nat.le_trans ge (Nat.le_of_lt lt), tab.2, ⟨_, rfl⟩, tr2⟩
  rintro cv h3 tk ps3 ⟨ext, ge, gP3, ⟨more, rfl⟩, tr3⟩
  have sz := Heap.size_push y.heap o
  have ltG3 : mainGlobals < h3.objs.size := Nat.lt_of_lt_of_le ltG (Nat.le_trans (by rw [sz]; exact Nat.le_succ _) ge)
  have kp : ∀ b z, b ≠ P → y.heap.get? b = some z → h3.get? b = some z := fun b z n e => ext b z n (Heap.get?_push_of_some _ e)
  have glob3 : h3.Ns mainGlobals X.mg := glob0.extBut ext tb.gP
  refine wpAny_builtinsFor (m := X.mg) (by rw [J.ok.glob]; exact glob3) b1 b2 (kp _ _ b4 (J.bk _ _ b5)) b6 b7 b8 ?_
  have inOne : ∀ {b : Addr}, b ∈ [y.heap.objs.size] → b = y.heap.objs.size := fun hb => List.mem_singleton.mp hb
  refine ⟨y.heap.objs.size, [y.heap.objs.size], [y.heap.objs.size], a.cps.size, SignAt a, St, fun _ => true, fun i z => ∃ cc, a.cps[i]? = some cc ∧ z = .bool (pb cc), rfl, walk, (walk X.A room.hd).frame _ _ _ st0 fun b hb z e => ext b z (fun q => Nat.ne_of_lt lP (q.symm.trans (inOne hb))) e,
    fun b hb => ?_, nlim.extBut ext nsP, fun hb => Nat.ne_of_lt ltS (inOne hb), fun href hk => ?_, fun g h5 tk5 gs bare ag sz5 k5 W5 at5 => ?_⟩
  · rw [inOne hb]
    show y.heap.objs.size < h3.objs.size
    omega
  · constructor
    · intro B F i v r m hA hPv hn hm hst
      simp only [List.forIn_nil]
      exact wpAny_pure ⟨rfl, GxR.keeps_refl _⟩
    · intro B F i v r m hA hPv hp hn hm hst
      obtain ⟨cc, u, hcc, rfl⟩ := hPv
      have gR : r.heap.Ns mainGlobals X.mg := glob3.at fun z e => hst mainGlobals (List.mem_range.mpr ltG3) (fun hb => Nat.ne_of_lt ltG (inOne hb)) z (hk _ _ e)
      exact wpAny_mono (el _ B F cc u r m rfl J.ok.glob gR hn hm) (fun z r' q => ⟨⟨cc, hcc, q.1⟩, q.2⟩) fun _ _ e => e
  · simp only [GxR.passing_true, List.length_range] at W5
    refine out a H1 g _ hR ⟨_, _, _, _, _, W5.in4_1, at5, fun j z sj Qj Ej hz hQj => ?_, fun s' mv => ?_⟩
    · obtain ⟨i, hij, cc, hcc, rfl⟩ := hz
      obtain ⟨hj, ej⟩ := List.getElem?_eq_some_iff.mp hij
      rw [List.getElem_range] at ej
      subst ej
      have q : Qj (GxR.trF pb a.cps.toList j) sj := hQj
      rw [GxR.trF_some (show a.cps.toList[j]? = some cc by rw [Array.getElem?_toList]; exact hcc)] at q
      exact wpAny_truthy_bool q
    · have notW : ∀ b z, y.heap.get? b = some z → b ∉ h3.objs.size :: [y.heap.objs.size] := fun b z e hb => by
        have l := Heap.lt_size e
        rcases List.mem_cons.mp hb with q | q
        · rw [q] at l
          have l2 : (h3.objs.size : Nat) < y.heap.objs.size := l
          omega
        · rw [inOne q] at l
          exact Nat.lt_irrefl _ l
      have J2 := GxR.inv_tab (more := more) (h' := s'.heap) (g' := s'.gens) (d' := s'.drawn) (t' := s'.toks) J eP (fun b z n e => mv.heap b z (notW b z e) (k5 b z (kp b z n e))) (mv.heap P _ (notW P _ gP) (k5 P _ gP3)) (AllBare.movedS (J.bare.push bare) mv)
      rw [GxR.sh_eta y s' mv.os] at J2
      exact ⟨_, ⟨⟨_, upd_same, tr3⟩, fun b hb => upd_ne hb⟩, J2⟩
theorem pe_allG {X : Cx} {c P : Addr} {elt iter : Expr} {x : Str} {px p gp pos : Pos} {scope : Scope} {pb : Nat → Bool} {te : TE} {k : Nat} (room : Room k X.A) (hg : Gl X "all") (hm : X.mg "all" = none) (hb : bootBuiltins "all" = some (.builtin "all"))
    (tb : GxR.TabB X.base X.mg c P) (cod : X.env.code = .ref c) (S : GxR.GenS X.env scope x) (it : PE X iter te) (el : EltG X.prog X.w X.mg scope x elt pb) (fold : ∀ v, genFold iter X.env v = pure v)
    (he : starEach [.GeneratorExp elt [⟨.Name x px, iter, [], 0⟩] scope gp] X.env = (false, eval (.GeneratorExp elt [⟨.Name x px, iter, [], 0⟩] scope gp) X.env) :: starEach [] X.env := by rfl) :
    PE X (.Call (.Name "all" p) [.GeneratorExp elt [⟨.Name x px, iter, [], 0⟩] scope gp] [] pos) (GxR.tAllS P pb te) := by
  refine ⟨fun pins s σ H Q I h => wpAny_Call_Name_kw (ld_blt I hg hm hb (PyProof.Rows.callWith_builtin1 ?_ he (by rfl)))⟩
  rw [he]
  show wpAny _ _ (spliced ((false, eval (.GeneratorExp elt [⟨.Name x px, iter, [], 0⟩] scope gp) X.env) :: backTo pos (starEach [] X.env))) _ _ s
  refine Calls.spliced_cons (gen_sg (R := fun a H1 => ∀ H2, GxR.Tabbed P H1 H2 → Q (.bl (a.cps.toList.all pb)) H2) room tb cod S it el fold I h fun a H1 g z hR hG => ?_)
  obtain ⟨fp, wr, G, F, St, W, st, tr, fin⟩ := hG
  refine Calls.spliced_nil (call_all_walkS (W.self 0 _ _ _ st ⟨g, fp, wr, G, _, F, St, _, rfl, W, st, tr, fun s' mv => ?_⟩))
  obtain ⟨H2, t2, J⟩ := fin s' mv
  refine ⟨.bl _, H2, J, rfl, ?_⟩
  rw [GxR.all_signs a pb]
  exact hR H2 t2
/-- x in NAME, a text of the module -/
theorem elt_inG {prog : Program} {w : World} {mg : Str → Option Value} {scope : Scope} {x g z : Str} {tz : Tok} {p1 p2 p3 : Pos} (hm : mg g = some (.str z tz)) (hk : scope.kind = .function) (hl : scope.names.lookup x = some .local) (hg : scope.names.lookup g = some .globalImplicit)
    (hd : (x == ("__debug__" : Str)) = false := by decide) (hd2 : (g == ("__debug__" : Str)) = false := by decide) : EltG prog w mg scope x (.Compare (.Name x p1) [.In] [.Name g p2] p3) (fun c => decide (c ∈ z.cps.toList)) := by
  intro ce B F c u r m es eg gl hn hx
  refine wpAny_Compare1 ?_
  refine wpAny_Name (wpAny_loadName_local (by rw [es]; exact hk) (show ce.scope.names.lookup x = some .local by rw [es]; exact hl) hn hx ?_) hd
  refine Calls.Name_function_global (by rw [es]; exact hk) (show ce.scope.names.lookup g = some .globalImplicit by rw [es]; exact hg) (Calls.loadGlobal_global (by rw [eg]; exact gl) hm ?_) hd2
  refine PyProof.Rows.in_str ?_
  rw [PySem.StrLaws.found_one z c]
  exact ⟨by simp, GxR.keeps_refl _⟩
end Vc
namespace Vc
open PySem PySem.Spec PyProof.Rows L2
/-! ### a, b, *c = a tuple -/
theorem tuple_from2 {prog : Program} {w : World} {A : Around} (hh : A.handled = none) (I ax : Addr) (hne : ax ≠ I) (x z : Value) (items : List Value) :
    Walks prog w A I [I, ax] [I] items.length (fun i v => items[i]? = some v) (fun i h => h.IsTupleIter I ax (2 + i) ∧ h.IsTuple ax (x :: z :: items).toArray) where
  sub := fun b hb => by simp at hb; simp [hb]
  frame := fun _ _ _ st hk => ⟨st.1.at fun o e => hk I (by simp) o e, st.2.at fun o e => hk ax (by simp) o e⟩
  item := fun i s Q E hi st hQ => by
    refine wpAny_pyNext_tuple_item st.1 st.2 (x := items[i]) (by rw [List.getElem?_toArray, show 2 + i = (i + 1) + 1 by omega, List.getElem?_cons_succ, List.getElem?_cons_succ]; exact List.getElem?_eq_getElem hi) fun h' hit' hs' => ?_
    exact hQ _ h' s.toks (by simp [hi]) ⟨by rw [← Nat.add_assoc]; exact hit', st.2.extBut hs'.extBut hne⟩ fun b o hb e => hs'.extBut b o (fun h => hb (by simp [h])) e
  done := fun s Q E st hQ => wpAny_pyNext_tuple_end hh st.1 st.2 (by simp; omega) fun h' he' => hQ h' s.toks fun b o hb e => he' b o (fun h => hb (by simp [h])) e
  self := fun _ _ _ _ st hQ => wpAny_pyIter_tupleiter st.1 hQ
def gHead2 (K : PySem.W.Frag) (g1 g2 g3 : TG) : TG := fun v σ H Q => ∃ a x y xs, v = .ref a ∧ SqT K H a (x :: y :: xs) ∧ xs.length ≤ 1000 ∧ ∀ l, H l = none → g1 x σ (upd H l (.lst xs)) fun σ1 H1 => g2 y σ1 H1 fun σ2 H2 => g3 (.ref l) σ2 H2 Q
section
variable {X : Cx}
theorem pg_head2 {t1 t0 t2 : Expr} {p2 pos : Pos} {k : Nat} {g1 g0 g2 : TG} (hc : X.calm = true) (h1 : PG X t1 g1) (h0 : PG X t0 g0) (h2 : PG X t2 g2)
    (hs : assignEach [t1, t0, .Starred t2 p2] X.env = [(false, assign t1 X.env), (false, assign t0 X.env), (true, assign t2 X.env)] := by rfl) : PG X (.Tuple [t1, t0, .Starred t2 p2] k pos) (gHead2 X.K g1 g0 g2) := by
  refine ⟨fun pins s σ H v u Q I r hw => ?_⟩
  obtain ⟨a, x, y, xs, e1, hq, hl, hw⟩ := hw
  subst e1
  cases r
  obtain ⟨its, rv, ht, hz⟩ := I.tuple hq
  cases rv with
  | cons rx ryx =>
  cases ryx with
  | cons ry rxs =>
    rename_i ux uy uxs
    have hlt : a ≠ s.heap.objs.size := by obtain ⟨o, ho, _⟩ := ht; exact Nat.ne_of_lt (Heap.lt_size ho)
    rw [assign_Tuple]
    refine wpAny_bind (wpAny_standAt ?_)
    unfold unpack
    rw [hs]
    refine wpAny_bind (wpAny_holding ?_)
    show wpAny _ _ (unpackItems (.ref a) 3 (some 2)) _ _ _
    unfold unpackItems
    refine wpAny_bind ?_
    unfold notIterableAtAll
    refine wpAny_bind (wpAny_specialOf ht.typeIs slot_tuple_iter.lookup ?_)
    refine wpAny_pure ?_
    simp only [Bool.false_eq_true, if_false]
    refine wpAny_bind (wpAny_holding (iter_tuple ht ?_))
    refine wpAny_bind (wpAny_holding (draw_tuple hlt 2 0 _ _ ⟨_, Heap.get?_push_size _ rfl, rfl, rfl⟩ (ht.push _) (by simp) fun h₁ hit₁ hs₁ => ?_))
    have e0 : List.take 2 (List.drop 0 ((ux :: uy :: uxs).toArray.toList)) = [ux, uy] := by simp
    rw [e0]
    rw [if_neg (by simp)]
    have ht₁ : IsTup h₁ a (ux :: uy :: uxs).toArray := (ht.push _).extBut hs₁.extBut hlt
    have hz1 : s.heap.objs.size < h₁.objs.size := by obtain ⟨o, ho, _⟩ := hit₁; exact Heap.lt_size ho
    refine wpAny_bind (wpAny_holding (wpAny_collect_iter (.inr (.inr (.inr rfl))) (tuple_from2 (A := X.A.in1) (I.ok.hd hc) s.heap.objs.size a hlt ux uy uxs).toS (fun _ _ st => Heap.IsTupleIter.typeIs st.1) ⟨hit₁, ht₁⟩ (fun b hb => ?_) (List.mem_cons_self) (fun s' acc hm ha => ?_) ?_))
    · rcases List.mem_cons.mp hb with rfl | hb
      · exact hz1
      · rw [List.mem_singleton.mp hb]
        obtain ⟨o, ho, _⟩ := ht₁
        exact Heap.lt_size ho
    · have ea : acc.toList = uxs := by
        obtain ⟨n1, n2⟩ := ha
        refine List.ext_getElem? fun i => ?_
        cases e : acc[i]? with
        | some y => rw [n2 i y e, Array.getElem?_toList, e]
        | none =>
          have : acc.size ≤ i := by simpa using e
          rw [List.getElem?_eq_none (by simpa using this), List.getElem?_eq_none (by omega)]
      rw [ea]
      rw [if_neg (by simp)]
      have kk : ∀ b o, s.heap.get? b = some o → s'.heap.get? b = some o := fun b o e => hm.heap b o (fun z => by
        rw [List.mem_singleton.mp z] at e
        exact absurd (Heap.lt_size e) (Nat.lt_irrefl _)) (hs₁.extBut b o (Nat.ne_of_lt (Heap.lt_size e)) (Heap.get?_push_of_some _ e))
      rw [show 3 - 2 - 1 = 0 from rfl, Nat.sub_zero, List.take_length, List.drop_length]
      have I1 : Inv X pins σ H s' := by
        have q := I.kept (t' := s'.toks) kk
        obtain ⟨hp', g', d', tk', os'⟩ := s'
        have e2 : g' = s.gens := hm.gens
        have e3 : d' = s.drawn := hm.drawn
        have e4 : os' = s.os := hm.os
        subst e2 e3 e4
        exact q
      refine wpAny_bind (wpAny_newList ?_ ?_)
      · refine wpAny_pure ?_
        have I2 : Inv X pins σ (upd H s'.heap.objs.size (.lst xs)) { s' with heap := s'.heap.push { cls := .type "list", data := .seq uxs.toArray } } :=
          I1.laid (t' := s'.toks) (fun b u e => Heap.get?_push_of_some _ e) (Nat.le_refl _) (show ObjOk X.prog X.w _ _ _ (.lst xs) from ⟨Nat.le_trans hl (by decide), uxs, _, rxs, Heap.get?_push_size _ rfl⟩)
        show wpAny _ _ (assignInOrder [assign t1 X.env, assign t0 X.env, assign t2 X.env] [ux, uy, .ref s'.heap.objs.size]) _ _ _
        refine assignInOrder_cons (thn (h1.run pins _ σ _ x ux _ I2 rx (hw _ (I1.hok.fresh (Nat.le_refl _)))) fun _ s3 ⟨σ3, H3, I3, q3⟩ => ?_)
        refine assignInOrder_cons (thn (h0.run pins s3 σ3 H3 y uy _ I3 ry q3) fun _ s5 ⟨σ5, H5, I5, q5⟩ => ?_)
        refine assignInOrder_cons (thn (h2.run pins s5 σ5 H5 (.ref s'.heap.objs.size) _ _ I5 rfl q5) fun _ s4 ⟨σ4, H4, I4, q4⟩ => ?_)
        exact assignInOrder_nil ⟨σ4, H4, I4, q4⟩
      · rw [← rxs.length]
        exact Nat.le_trans hl (by decide)
    · rw [← rxs.length]
      exact Nat.le_trans hl (by decide)
end
/-! ### a list of what stands for a text's signs -/
theorem lc_str {z : PySem.Str} {g : TG} {tt : TT} {te : TE} {vs : List Nat} {σ : L2.St} {H1 : Hp} {D : Addr} {Qd : Hp → Prop} (Pv : Nat → Hp → Prop) (h0 : Pv 0 (upd H1 D (.lst [])))
    (hs : ∀ i c H, z.cps[i]? = some c → Pv i H → g (.str ⟨#[c]⟩) (wipe σ vs) H fun σ2 H2 => wipe σ2 vs = wipe σ vs ∧ tt σ2 H2 fun b H3 =>
      if b = true then te σ2 H3 fun y H4 => ∃ acc, H4 D = some (.lst acc) ∧ acc.length < sizeLine ∧ Pv (i + 1) (upd H4 D (.lst (acc ++ [y]))) else Pv (i + 1) H3) (hd : ∀ H, Pv z.cps.size H → Qd H) :
    ∃ W : Nat → Nat → Hp → Prop, (∃ m, W 0 m (upd H1 D (.lst []))) ∧ ∀ i m H, W i m H →
      ((Its z).stop i H ∧ Qd H) ∨ ((Its z).go i H ∧ ∃ Nx : Hp → Prop, (∀ H', Nx H' → ∃ m', m' < m ∧ W (i + 1) m' H') ∧ ∀ x H', (Its z).yld i H x H' → g x (wipe σ vs) H' fun σ2 H2 => wipe σ2 vs = wipe σ vs ∧ tt σ2 H2 fun b H3 =>
        if b = true then te σ2 H3 fun y H4 => ∃ acc, H4 D = some (.lst acc) ∧ acc.length < sizeLine ∧ Nx (upd H4 D (.lst (acc ++ [y]))) else Nx H3) := by
  refine ⟨fun i m H => m = z.cps.size - i ∧ i ≤ z.cps.size ∧ Pv i H, ⟨z.cps.size, by simp, Nat.zero_le _, h0⟩, ?_⟩
  rintro i m H ⟨rfl, hi, p⟩
  by_cases hlt : i < z.cps.size
  · refine .inr ⟨hlt, Pv (i + 1), fun H' p' => ⟨z.cps.size - (i + 1), by omega, rfl, hlt, p'⟩, fun x H' y => ?_⟩
    obtain ⟨e, c, hc, y⟩ := y
    subst e y
    exact hs i c _ hc p
  · have e : i = z.cps.size := by omega
    subst e
    exact .inl ⟨Nat.le_refl _, hd H p⟩
/-! ### a tuple beside the empty one -/
def rNeE (K : PySem.W.Frag) : R2 := fun x y H Q => ∃ a b xs, x = .ref a ∧ y = .ref b ∧ SqT K H a xs ∧ SqT K H b [] ∧ Q (.bl (!decide (xs = []))) H
theorem op_neE {X : Cx} (hu : X.A.units + 64 < cLine) : OpR X (compareOp .NotEq) (rNeE X.K) := by
  intro pins s σ H x y v u Q I rx ry h
  obtain ⟨a, b, xs, rfl, rfl, ha, hb, q⟩ := h
  cases rx
  cases ry
  obtain ⟨us, r1, p1, _⟩ := I.tuple ha
  obtain ⟨ws, r2, p2, _⟩ := I.tuple hb
  cases r2
  refine SeqAt.RcNeAt.tuples (e := fun _ => true) (items := us.toArray) (items2 := #[]) p1 p2 (by omega) (fun j h1 h2 => absurd h2 (Nat.not_lt_zero j)) _ _ _ _ ?_
  have e : (!((List.range (min us.toArray.size (#[] : Array Value).size)).all (fun _ => true) && us.toArray.size == (#[] : Array Value).size)) = !decide (xs = []) := by
    have := r1.length
    cases xs <;> cases us <;> simp_all
  rw [e]
  exact ⟨.bl _, H, I, rfl, q⟩
theorem genS_mk {env : Env} {scope : Scope} {x : Str} (k : scope.kind = .function) (co : scope.isCoroutine = false) (c : (scope.names.all fun y => decide (y.2 ≠ .cell) && decide (y.2 ≠ .free)) = true) (d : scope.names.lookup (".0" : Str) = some NameKind.local) (l : scope.names.lookup x = some .local) : GxR.GenS env scope x :=
  ⟨k, co, fun y hy => by
    have := List.all_eq_true.mp c y hy
    simp only [Bool.and_eq_true, decide_eq_true_eq] at this
    exact this.1, d, l, fun y hy e => by
    have := List.all_eq_true.mp c y hy
    simp only [Bool.and_eq_true, decide_eq_true_eq] at this
    exact absurd e this.2⟩
end Vc
namespace Vc
open PySem PySem.Spec PyProof.Rows L2
/-- a promise that nobody can ask for -/
theorem fn_none {P : Program} {w : World} {K : PySem.W.Frag} {mg : Str → Option Value} {base : Heap} {CX : CXT} {k : Nat} {f : Addr} {fd : FuncData} {ps : List Str} {sp : Sp} (len : ∀ vs H Q E, sp vs H Q E → vs.length = ps.length) (no : ∀ vs H Q E, sp vs H Q E → False) : FnOk P w K mg base CX k f fd ps sp :=
  ⟨len, fun _ _ _ _ _ _ _ _ _ _ _ _ _ h => (no _ _ _ _ h).elim⟩
end Vc
namespace Vc
open PySem PySem.Spec PyProof.Rows L2
/-! ### bounds of data: length, depth, signs -/
mutual
def D.asc : D → Bool
  | .str z => z.cps.toList.all fun c => decide (c < 128)
  | .lst ds => D.ascs ds
  | .tup ds => D.ascs ds
  | _ => true
def D.ascs : List D → Bool
  | [] => true
  | d :: ds => d.asc && D.ascs ds
end
theorem asc_all {ds : List D} : D.ascs ds = true ↔ ∀ d ∈ ds, d.asc = true := by
  induction ds with
  | nil => simp [D.ascs]
  | cons d ds ih => simp [D.ascs, ih]
theorem mxs_le {ds : List D} {m : Nat} : D.mxs ds ≤ m ↔ ∀ d ∈ ds, d.mx ≤ m := by
  induction ds with
  | nil => simp [D.mxs]
  | cons d ds ih =>
    simp only [D.mxs, List.mem_cons, forall_eq_or_imp, ← ih]
    omega
theorem deps_le {ds : List D} {m : Nat} : D.deps ds ≤ m ↔ ∀ d ∈ ds, d.dep ≤ m := by
  induction ds with
  | nil => simp [D.deps]
  | cons d ds ih =>
    simp only [D.deps, List.mem_cons, forall_eq_or_imp, ← ih]
    omega
/-- bounds of data: length, depth, signs -/
def Bd (m n : Nat) (d : D) : Prop := d.mx ≤ m ∧ d.dep ≤ n ∧ d.asc = true
theorem Bd.mono {m n m' n' : Nat} {d : D} (h : Bd m n d) (a : m ≤ m') (b : n ≤ n') : Bd m' n' d := ⟨Nat.le_trans h.1 a, Nat.le_trans h.2.1 b, h.2.2⟩
theorem Bd.tup {m n : Nat} {ds : List D} (l : ds.length ≤ m) (h : ∀ d ∈ ds, Bd m n d) : Bd m (n + 1) (.tup ds) :=
  ⟨by simp only [D.mx]; exact Nat.max_le.mpr ⟨l, mxs_le.mpr fun d hd => (h d hd).1⟩, by simp only [D.dep]; exact Nat.succ_le_succ (deps_le.mpr fun d hd => (h d hd).2.1), by simp only [D.asc]; exact asc_all.mpr fun d hd => (h d hd).2.2⟩
theorem Bd.lst {m n : Nat} {ds : List D} (l : ds.length ≤ m) (h : ∀ d ∈ ds, Bd m n d) : Bd m (n + 1) (.lst ds) :=
  ⟨by simp only [D.mx]; exact Nat.max_le.mpr ⟨l, mxs_le.mpr fun d hd => (h d hd).1⟩, by simp only [D.dep]; exact Nat.succ_le_succ (deps_le.mpr fun d hd => (h d hd).2.1), by simp only [D.asc]; exact asc_all.mpr fun d hd => (h d hd).2.2⟩
theorem Bd.of_tup {m n : Nat} {ds : List D} (h : Bd m n (.tup ds)) : ds.length ≤ m ∧ 1 ≤ n ∧ ∀ d ∈ ds, Bd m (n - 1) d := by
  obtain ⟨a, b, c⟩ := h
  simp only [D.mx] at a
  simp only [D.dep] at b
  simp only [D.asc] at c
  have a := Nat.max_le.mp a
  exact ⟨a.1, by omega, fun d hd => ⟨mxs_le.mp a.2 d hd, deps_le.mp (show D.deps ds ≤ n - 1 by omega) d hd, asc_all.mp c d hd⟩⟩
theorem Bd.int {m n : Nat} (i : Int) : Bd m n (.int i) := ⟨Nat.zero_le _, Nat.zero_le _, rfl⟩
theorem Bd.bl {m n : Nat} (b : Bool) : Bd m n (.bl b) := ⟨Nat.zero_le _, Nat.zero_le _, rfl⟩
theorem Bd.non {m n : Nat} : Bd m n .non := ⟨Nat.zero_le _, Nat.zero_le _, rfl⟩
theorem Bd.str {m n : Nat} {z : PySem.Str} (l : z.length ≤ m) (h : ∀ c ∈ z.cps.toList, c < 128) : Bd m n (.str z) := ⟨l, Nat.zero_le _, by simp only [D.asc]; exact List.all_eq_true.mpr fun c hc => decide_eq_true (h c hc)⟩
instance (m n : Nat) : DecidablePred (Bd m n) := fun d => inferInstanceAs (Decidable (_ ∧ _ ∧ _))
/-! ### a sign not in a text; a list beside the empty one -/
def rNotInS : R2 := fun x y H Q => ∃ c z, x = .str ⟨#[c]⟩ ∧ y = .str z ∧ Q (.bl (!decide (c ∈ z.cps.toList))) H
theorem op_notInS {X : Cx} : OpR X (compareOp .NotIn) rNotInS := by
  intro pins s σ H x y v u Q I rx ry h
  obtain ⟨c, z, rfl, rfl, q⟩ := h
  obtain ⟨t1, rfl⟩ := rx
  obtain ⟨t2, rfl⟩ := ry
  refine P.notIn_str ?_
  rw [PySem.StrLaws.found_one z c]
  exact ⟨.bl _, H, I, rfl, q⟩
def rEqEL (K : PySem.W.Frag) : R2 := fun x y H Q => ∃ a b xs, x = .ref a ∧ y = .ref b ∧ SqL K H a xs ∧ SqL K H b [] ∧ Q (.bl (decide (xs = []))) H
theorem op_eqEL {X : Cx} (hu : X.A.units + 64 < cLine) : OpR X (compareOp .Eq) (rEqEL X.K) := by
  intro pins s σ H x y v u Q I rx ry h
  obtain ⟨a, b, xs, rfl, rfl, ha, hb, q⟩ := h
  cases rx
  cases ry
  obtain ⟨us, r1, p1, _⟩ := I.list ha
  obtain ⟨ws, r2, p2, _⟩ := I.list hb
  cases r2
  have fin : ∀ k : Bool, k = decide (xs = []) → SeqAt.RcAt X.A s (.ref a) (.ref b) k → wpAny (model X.prog X.w) X.A (compareOp CmpOp.Eq (Value.ref a) (Value.ref b)) (EP X pins σ Q) X.xe s := fun k e r => r _ _ _ _ (by rw [e]; exact ⟨.bl _, H, I, rfl, q⟩)
  cases xs with
  | nil =>
    cases r1
    exact fin _ rfl (SeqAt.RcAt.lists (e := fun _ => true) (items := #[]) (items2 := #[]) p1.isList p2.isList rfl (by omega) (fun j h1 h2 => absurd h2 (Nat.not_lt_zero j)))
  | cons x xs =>
    exact fin _ (by simp) (SeqAt.RcAt.lists_lengths (items := us.toArray) (items2 := #[]) p1.isList p2.isList (by have := r1.length; cases us <;> simp_all) (by omega))
/-! ### tuples of bounded data: cut, joined, turned round -/
theorem seq_rest {t1 t2 : TS} {D : Ends} {σ : L2.St} {H : Hp} (R : Hp → Prop) (h2 : ∀ H1, R H1 → t2 D σ H1) (h1 : ∀ N : L2.St → Hp → Prop, (∀ H1, R H1 → N σ H1) → t1 { D with nx := N } σ H) : tSeq t1 t2 D σ H := h1 _ h2
theorem seq_restS {t1 t2 : TS} {D : Ends} {σ : L2.St} {H : Hp} (R : L2.St → Hp → Prop) (h2 : ∀ σ1 H1, R σ1 H1 → t2 D σ1 H1) (h1 : ∀ N : L2.St → Hp → Prop, (∀ σ1 H1, R σ1 H1 → N σ1 H1) → t1 { D with nx := N } σ H) : tSeq t1 t2 D σ H := h1 _ h2
theorem Is.sxM {M : Addr → Prop} {W : Addr} {H1 H2 : Hp} {v : V} {d : D} (h : Is M H1 v d) (mW : M W) (s : Sx W H1 H2) : Is M H2 v d := h.fr fun b o n e => s b o (fun z => n (z ▸ mW)) e
theorem IsAll.sxM {M : Addr → Prop} {W : Addr} {H1 H2 : Hp} {v : List V} {d : List D} (h : IsAll M H1 v d) (mW : M W) (s : Sx W H1 H2) : IsAll M H2 v d := h.fr fun b o n e => s b o (fun z => n (z ▸ mW)) e
/-- a tuple of at most L data, each within m, k -/
def TupB (M : Addr → Prop) (H : Hp) (p : Addr) (L m k : Nat) : Prop := ∃ xs es, H p = some (.tup xs) ∧ ¬ M p ∧ IsAll M H xs es ∧ es.length ≤ L ∧ ∀ e ∈ es, Bd m k e
theorem TupB.is {M : Addr → Prop} {H : Hp} {p : Addr} {L m k m2 k2 : Nat} (h : TupB M H p L m k) (l : L ≤ m2) (a : m ≤ m2) (b : k ≤ k2) : ∃ d, Is M H (.ref p) d ∧ Bd m2 (k2 + 1) d := by
  obtain ⟨xs, es, e, n, i, z, f⟩ := h
  exact ⟨.tup es, .tup e n i, Bd.tup (by omega) fun d hd => (f d hd).mono a b⟩
theorem TupB.mono {M : Addr → Prop} {H : Hp} {p : Addr} {L m k L2 m2 k2 : Nat} (h : TupB M H p L m k) (l : L ≤ L2) (a : m ≤ m2) (b : k ≤ k2) : TupB M H p L2 m2 k2 := by
  obtain ⟨xs, es, e, n, i, z, f⟩ := h
  exact ⟨xs, es, e, n, i, by omega, fun d hd => (f d hd).mono a b⟩
theorem TupB.same {M : Addr → Prop} {H H' : Hp} {p : Addr} {L m k : Nat} (h : TupB M H p L m k) (s : Same H H') : TupB M H' p L m k := by
  obtain ⟨xs, es, e, n, i, z, f⟩ := h
  exact ⟨xs, es, s _ _ e, n, i.same s, z, f⟩
theorem TupB.sx {M : Addr → Prop} {W : Addr} {H H' : Hp} {p : Addr} {L m k : Nat} (h : TupB M H p L m k) (mW : M W) (s : Sx W H H') : TupB M H' p L m k := by
  obtain ⟨xs, es, e, n, i, z, f⟩ := h
  exact ⟨xs, es, s _ _ (fun q => n (q ▸ mW)) e, n, i.sxM mW s, z, f⟩
theorem TupB.new {M : Addr → Prop} {H H' : Hp} {p : Addr} {L m k : Nat} {xs : List V} {es : List D} (mo : ∀ b, M b → Old H b) (hp : H p = none) (e : H' p = some (.tup xs)) (i : IsAll M H' xs es) (l : es.length ≤ L) (f : ∀ e ∈ es, Bd m k e) : TupB M H' p L m k :=
  ⟨xs, es, e, fun z => mo p z hp, i, l, f⟩
theorem tb_sl {K : PySem.W.Frag} {M : Addr → Prop} {H : Hp} {p : Addr} {L m k : Nat} {lo hi : Option Int} {Q : VK} (mo : ∀ b, M b → Old H b) (h : TupB M H p L m k) (q : ∀ p' H', Same H H' → TupB M H' p' L m k → Q (.ref p') H') : rSlA K (.ref p) lo hi H Q := by
  obtain ⟨xs, es, e, n, i, z, f⟩ := id h
  refine ⟨p, xs, rfl, sqT_of e, fun _ => q p H (fun _ _ e => e) h, fun _ l hl => ?_⟩
  have s1 : Same H (upd H l (.tup (cutV xs lo hi))) := same_new hl
  refine q l _ s1 (TupB.new (es := (es.drop (HT.sIx xs.length 0 lo)).take (HT.sIx xs.length xs.length hi - HT.sIx xs.length 0 lo)) mo hl upd_same ?_ ?_ ?_)
  · exact ((i.drop _).take _).same s1
  · rw [List.length_take, List.length_drop]
    omega
  · exact fun d hd => f d (List.mem_of_mem_drop (List.mem_of_mem_take hd))
theorem tb_cat {K : PySem.W.Frag} {M : Addr → Prop} {H : Hp} {p p2 : Addr} {L L2 m k : Nat} {Q : VK} (mo : ∀ b, M b → Old H b) (h : TupB M H p L m k) (h2 : TupB M H p2 L2 m k) (hz : L + L2 ≤ 10000) (q : ∀ p' H', Same H H' → TupB M H' p' (L + L2) m k → Q (.ref p') H') : rCatA K (.ref p) (.ref p2) H Q := by
  obtain ⟨xs, es, e, n, i, z, f⟩ := id h
  obtain ⟨ys, es2, e2, n2, i2, z2, f2⟩ := id h2
  have l1 := i.len
  have l2 := i2.len
  refine ⟨p, p2, xs, ys, rfl, rfl, sqT_of e, sqT_of e2, Nat.le_trans (show xs.length + ys.length ≤ 10000 by omega) (by decide), fun _ => q p2 H (fun _ _ e => e) (h2.mono (by omega) (Nat.le_refl _) (Nat.le_refl _)), fun _ _ => q p H (fun _ _ e => e) (h.mono (by omega) (Nat.le_refl _) (Nat.le_refl _)), fun _ _ l hl => ?_⟩
  have s1 : Same H (upd H l (.tup (xs ++ ys))) := same_new hl
  refine q l _ s1 (TupB.new (es := es ++ es2) mo hl upd_same ((i.app i2).same s1) (by rw [List.length_append]; omega) fun d hd => ?_)
  rcases List.mem_append.mp hd with h | h
  · exact f d h
  · exact f2 d h
theorem tb_back {K : PySem.W.Frag} {M : Addr → Prop} {H : Hp} {p : Addr} {L m k : Nat} {te : TE} {σ : L2.St} {Q : VK} (ht : ∀ Q' : VK, Q' (.ref p) H → te σ H Q') (mo : ∀ b, M b → Old H b) (h : TupB M H p L m k) (q : ∀ p' H', Same H H' → TupB M H' p' L m k → Q (.ref p') H') : tBack K te σ H Q := by
  obtain ⟨xs, es, e, n, i, z, f⟩ := id h
  refine ht _ (.inl ⟨p, xs, rfl, sqT_of e, fun l hl => ?_⟩)
  have s1 : Same H (upd H l (.tup xs.reverse)) := same_new hl
  exact q l _ s1 (TupB.new (es := es.reverse) mo hl upd_same (i.rev.same s1) (by rw [List.length_reverse]; exact z) fun d hd => f d (List.mem_reverse.mp hd))
/-! ### texts within bounds: cut, turned round, upper -/
theorem bs_of {m n : Nat} {z : PySem.Str} (h : Bd m n (.str z)) : z.length ≤ m ∧ ∀ c ∈ z.cps.toList, c < 128 := by
  obtain ⟨a, _, c⟩ := h
  refine ⟨a, ?_⟩
  simp only [D.asc] at c
  exact fun x hx => of_decide_eq_true (List.all_eq_true.mp c x hx)
theorem bs_app {m1 m2 m n : Nat} {y z : PySem.Str} (h1 : y.length ≤ m1 ∧ ∀ c ∈ y.cps.toList, c < 128) (h2 : z.length ≤ m2 ∧ ∀ c ∈ z.cps.toList, c < 128) (l : m1 + m2 ≤ m) : Bd m n (.str (y ++ z)) := by
  refine Bd.str ?_ fun c hc => ?_
  · show (y.cps ++ z.cps).size ≤ m
    rw [Array.size_append]
    have a := h1.1
    have b := h2.1
    have a : y.cps.size ≤ m1 := a
    have b : z.cps.size ≤ m2 := b
    omega
  · have : c ∈ (y.cps ++ z.cps).toList := hc
    rw [Array.toList_append] at this
    rcases List.mem_append.mp this with h | h
    · exact h1.2 c h
    · exact h2.2 c h
theorem bs_cut {m m2 n : Nat} {z : PySem.Str} {lo hi : Option Int} (h : z.length ≤ m ∧ ∀ c ∈ z.cps.toList, c < 128) (l : m ≤ m2) : Bd m2 n (.str (cutS z lo hi)) := by
  refine Bd.str (Nat.le_trans (cutS_length z lo hi) (Nat.le_trans h.1 l)) fun c hc => ?_
  exact h.2 c (List.mem_of_mem_drop (List.mem_of_mem_take hc))
theorem rev_len {z : PySem.Str} : (revS z).length ≤ z.length := by
  show (((Builtin.Str.strSliceIndices none none (-1) z.length).filterMap (z.cps[·]?)).toArray).size ≤ _
  rw [List.size_toArray]
  refine Nat.le_trans (List.length_filterMap_le _ _) ?_
  show (sliceRange ((z.length : Int) - 1) (-1) (-1)).length ≤ _
  unfold sliceRange
  rw [List.length_map, List.length_range, if_neg (by decide)]
  split
  · rw [show (- -1 : Int) = 1 from rfl, Int.ediv_one]
    omega
  · exact Nat.zero_le _
theorem bs_rev {m m2 n : Nat} {z : PySem.Str} (h : z.length ≤ m ∧ ∀ c ∈ z.cps.toList, c < 128) (l : m ≤ m2) : Bd m2 n (.str (revS z)) := by
  refine Bd.str (Nat.le_trans rev_len (Nat.le_trans h.1 l)) fun c hc => ?_
  have hc : c ∈ (Builtin.Str.strSliceIndices none none (-1) z.length).filterMap (z.cps[·]?) := hc
  obtain ⟨i, _, e⟩ := List.mem_filterMap.mp hc
  exact h.2 c (by rw [← Array.getElem?_toList] at e; exact List.mem_of_getElem? e)
theorem up_list : ∀ l : List Nat, (∀ c ∈ l, c < 128) → ∃ l' : List Nat, Txt.upper ⟨l.toArray⟩ = ⟨l'.toArray⟩ ∧ l'.length = l.length ∧ ∀ c ∈ l', c < 128
  | [], _ => ⟨[], rfl, rfl, fun _ h => absurd h List.not_mem_nil⟩
  | c :: l, h => by
    obtain ⟨l', e, hl, hc⟩ := up_list l fun x hx => h x (List.mem_cons_of_mem _ hx)
    have h0 : c < 128 := h c List.mem_cons_self
    refine ⟨(if 97 ≤ c ∧ c ≤ 122 then c - 32 else c) :: l', ?_, by simp [hl], fun x hx => ?_⟩
    · have : (⟨(c :: l).toArray⟩ : PySem.Str) = (⟨#[c]⟩ : PySem.Str) ++ (⟨l.toArray⟩ : PySem.Str) := by
        show _ = (⟨#[c] ++ l.toArray⟩ : PySem.Str)
        simp
      rw [this, PySem.W.KOpn.upper_app, PySem.W.KOpn.upper_one h0, e]
      show (⟨_ ++ _⟩ : PySem.Str) = _
      simp
    · rcases List.mem_cons.mp hx with rfl | hx
      · split <;> omega
      · exact hc x hx
theorem bs_up {m m2 n : Nat} {z : PySem.Str} (h : z.length ≤ m ∧ ∀ c ∈ z.cps.toList, c < 128) (l : m ≤ m2) : Bd m2 n (.str (Txt.upper z)) := by
  obtain ⟨l', e, hl, hc⟩ := up_list z.cps.toList h.2
  rw [show (⟨z.cps.toList.toArray⟩ : PySem.Str) = z from by simp] at e
  rw [e]
  refine Bd.str ?_ hc
  show l'.toArray.size ≤ m2
  rw [List.size_toArray, hl, Array.length_toList]
  exact Nat.le_trans h.1 l
/-! ### f(k = v, ..), a def that may raise -/
section
variable {X : Cx} {CX : CXT} {k : Nat} {f : Addr} {fd : FuncData} {ps ks : List Str} {sp : Sp} {E : XK} {x : Str} {p pos : Pos} {kws : List Keyword} {tk : TA}
theorem pe_callK0O {g} {gV : List V → List V → List V} (F : FnOk X.prog X.w X.K X.mg X.base CX k f fd ps sp) (hr : Room k X.A) (hg : Gl X x) (hm : X.mg x = some (.ref f)) (hk : PySem.W.keepIn X.K (.ref f) = true) (hb : KBinds X.K fd ps ks g gV) (hx : Passes CX X E)
    (hkw : PK X kws tk) (hall : (backToKw pos (keywordEach kws X.env)).all (·.1.isSome) = true := by rfl) (hks : (backToKw pos (keywordEach kws X.env)).filterMap (·.1) = ks := by rfl)
    (hdb : (x == ("__debug__" : Str)) = false := by decide)
    (hpl : ((backTo pos (starEach [] X.env)).any (·.1) || (backToKw pos (keywordEach kws X.env)).any (·.1.isNone)) = false := by rfl) : PE X (.Call (.Name x p) [] kws pos) (tCallK sp gV E tNil tk) := by
  refine ⟨fun pins s σ H Q I h => ?_⟩
  refine wpAny_Call_Name_kw (ld_glob I hg hm ?_ hdb)
  refine PySem.W.callWith_KW0 (h₀ := X.base) I.ok.mod.kin hk hall ?_ hpl
  refine thn (hkw.run pos pins s σ H _ I h) fun ws s2 ⟨zs, H2, I2, rz, q2⟩ => ⟨I2.kIn, ?_⟩
  rw [hks]
  exact run_fnk (us := []) (vs := []) F hr hb hx I2 .nil rz q2
end
end Vc
namespace Vc
open PySem PySem.Spec PyProof.Rows L2
/-! ### the head by names, with the tables of code objects -/
section
variable {P : Program} {w : World} {K : PySem.W.Frag} {mg mb : Str → Option Value} {k : Nat} {fa a : Addr} {fd : FuncData} {x : Str} {sp : Sp} {s : Shared} {vs : List Value} {ns : List Int} {cs : Cds}
theorem walkGX {l : PySem.W.OpenLaw} {n : Nat} {q : Program} {loose : List Str} {XP : (Str → Option Value) → Heap → Prop} {YP : World → Heap → Prop} {d : DefRec} {sp : PySem.W.Frag → Cds → Sp}
    (hn : l.most = some n) (hn2 : n ≤ sizeLine) (hdf : d.params.defaults = []) (hr : Room k callerA)
    (F : ∀ (w : World) (mg : Str → Option Value) (fa : Addr) (h : Heap), YP w h → h.Ns mainGlobals mg → mg d.name = some (.ref fa) →
      ∃ (K : PySem.W.Frag) (fd : FuncData) (cs : Cds), K.In h ∧ (∀ p ∈ cs, h.get? p.2.1 = some (PySem.W.tabObj #[])) ∧ (∀ p ∈ cs, K.lookup p.2.1 = none) ∧ (∀ p ∈ cs, PySem.W.CodeHd h p.1 p.2.1) ∧ (∀ (s : Shared) (u : Value), BindsTo s fd ⟨[u], []⟩ [(x, u)]) ∧
        ∀ base : Heap, K.In base → base.Ns mainGlobals mg → (∀ p ∈ cs, LamX.TabB base mg p.1 p.2.1) → FnG l.prog w K mg base k fa fd [x] (sp K cs))
    (hsp : ∀ (K : PySem.W.Frag) (cs : Cds) (H : Hp) (a : Addr) (ns : List Int), ns.length ≤ n → SqL K H a (ns.map V.int) → Tb cs H → sp K cs [.ref a] H (fun v _ => v = .bl true) E0) :
    PySem.W.WalkO q loose XP YP l.row.toRowW d [] (fun f vs => PySem.call f vs) :=
  Att.attach_call hn hdf fun w s0 s mg mb fa o pm cd doc a vs ns G Y ho hd hcd hmg hobj hints hlen hg => by
    obtain ⟨K, fd, cs, kin, tT, tK, tC, hb, hF⟩ := F w mg fa _ Y G.T.g hmg
    have hl : vs.length ≤ sizeLine := Nat.le_trans (Nat.le_of_eq hints.length) (Nat.le_trans hlen hn2)
    have isT : ∀ b ∈ tabs cs, s.heap.get? b = some (PySem.W.tabObj #[]) := fun b z => by
      obtain ⟨p, hp, rfl⟩ := List.mem_map.mp z
      exact tT p hp
    have aT : a ∉ tabs cs := fun z => by
      have e := isT a z
      rw [hobj] at e
      have e2 : Data.seq vs.toArray _ = Data.fields #[] := congrArg Obj.data (Option.some.inj e)
      cases e2
    have toTb : ∀ H : Hp, (∀ p ∈ cs, H p.2.1 = some (.tbl #[])) → Tb cs H := fun H z p hp => LamX.TabS.nil (z p hp)
    cases hk : K.lookup a with
    | some ob =>
      have e := kin a ob hk
      rw [hobj] at e
      cases e
      let H0 : Hp := fun b => if b ∈ tabs cs then some (.tbl #[]) else none
      have inT : ∀ {b u}, H0 b = some u → b ∈ tabs cs ∧ u = .tbl #[] := fun {b u} z => by
        by_cases y : b ∈ tabs cs
        · exact ⟨y, (Option.some.inj ((if_pos y).symm.trans z)).symm⟩
        · have z2 := (if_neg y).symm.trans z
          cases z2
      have hTab : ∀ p ∈ cs, H0 p.2.1 = some (.tbl #[]) := fun p hp => if_pos (List.mem_map.mpr ⟨p, hp, rfl⟩)
      have S : SqL K H0 a (ns.map V.int) := Or.inr ⟨_, vs.toArray, _, hk, rfl, rfl, rfl, by rw [List.size_toArray]; exact hl, by simpa using vals_ints hints⟩
      refine fromTopT H0 hTab (fun _ _ z => .inr (inT z).1) (fun o z => absurd (inT z).1 aT) (fun _ _ z => .inr (inT z).1) S (fun b u z => ?_) tT tK tC G.T.bmain kin G.T.g G.T.b G.T.builtins G.T.nolimit hg hobj hints hr hF hb (hsp _ _ _ _ _ hlen S (toTb _ hTab))
      obtain ⟨z1, rfl⟩ := inT z
      exact isT b z1
    | none =>
      let H0 : Hp := fun b => if b = a then some (HO.frz { cls := .type "list", data := .seq vs.toArray } (.lst (ns.map V.int))) else if b ∈ tabs cs then some (.tbl #[]) else none
      have one : ∀ {b u}, H0 b = some u → (b = a ∧ u = HO.frz { cls := .type "list", data := .seq vs.toArray } (.lst (ns.map V.int))) ∨ (b ∈ tabs cs ∧ u = .tbl #[]) := fun {b u} z => by
        by_cases eb : b = a
        · exact .inl ⟨eb, (Option.some.inj ((if_pos eb).symm.trans z)).symm⟩
        · have z1 := (if_neg eb).symm.trans z
          by_cases y : b ∈ tabs cs
          · exact .inr ⟨y, (Option.some.inj ((if_pos y).symm.trans z1)).symm⟩
          · have z2 := (if_neg y).symm.trans z1
            cases z2
      have hTab : ∀ p ∈ cs, H0 p.2.1 = some (.tbl #[]) := fun p hp => (if_neg (show ¬ p.2.1 = a from fun z => aT (by rw [← z]; exact List.mem_map.mpr ⟨p, hp, rfl⟩))).trans (if_pos (List.mem_map.mpr ⟨p, hp, rfl⟩))
      have S : SqL K H0 a (ns.map V.int) := Or.inl (Or.inr ⟨{ cls := .type "list", data := .seq vs.toArray }, if_pos rfl⟩)
      refine fromTopT H0 hTab (fun _ _ z => (one z).elim (fun y => .inl y.1) fun y => .inr y.1) (fun _ _ => hk) (fun _ _ z => (one z).elim (fun y => .inl ⟨_, _, y.2⟩) fun y => .inr y.1) S (fun b u z => ?_) tT tK tC G.T.bmain kin G.T.g G.T.b G.T.builtins G.T.nolimit hg hobj hints hr hF hb (hsp _ _ _ _ _ hlen S (toTb _ hTab))
      rcases one z with ⟨rfl, rfl⟩ | ⟨z1, rfl⟩
      · exact ⟨hobj, by rw [List.length_map, ← hints.length]; exact hl, vs, _, vals_ints hints, hobj⟩
      · exact isT b z1
end
def isTab : Option Obj → Bool
  | some ⟨.none, none, .fields vs, sl⟩ => vs.isEmpty && sl.isEmpty
  | _ => false
theorem isTab_ok {o : Option Obj} (h : isTab o = true) : o = some (PySem.W.tabObj #[]) := by
  unfold isTab at h
  split at h
  · simp only [Bool.and_eq_true, Array.isEmpty_iff] at h
    obtain ⟨rfl, rfl⟩ := h
    rfl
  · cases h
def asT (g : Addr → Option Obj) (n : Nat) : List Addr := (He.asD g n).filter fun a => !isTab (g a)
/-- the code object of a def -/
def cdV (K : PySem.W.Frag) (p : Str × Option Str) : Option Addr := match K.lookup (He.fAd K p) with
  | some ⟨_, _, .func fd, _⟩ => (match fd.code with
    | .ref c => some c
    | _ => none)
  | _ => none
def cdOf (K : PySem.W.Frag) (p : Str × Option Str) : Addr := (cdV K p).getD 0
def tabQ (g : Addr → Option Obj) (K : PySem.W.Frag) (p : Str × Option Str) : Bool :=
  (cdV K p).isSome && (isTab (g (tabOf K (cdOf K p))) && ((K.lookup (tabOf K (cdOf K p))).isNone && cdOk K (cdOf K p)))
abbrev AlT : Type := Bool × Bool × He.AlD
def obsK (ok : PySem.W.Frag → Bool) (fa : List He.Fa) (fn : List He.DefD) (cd : List (Str × Option Str)) (g : Addr → Option Obj) (K : PySem.W.Frag) : AlT := (ok K, cd.all (tabQ g K), He.obsD fa fn K)
def obsT (ok : PySem.W.Frag → Bool) (fa : List He.Fa) (fn : List He.DefD) (cd : List (Str × Option Str)) (n : Nat) (g : Addr → Option Obj) : AlT := obsK ok fa fn cd g (He.frG g (asT g n))
structure SaysT (ok : PySem.W.Frag → Bool) (fa : List He.Fa) (fn : List He.DefD) (cd : List (Str × Option Str)) (h : Heap) (K : PySem.W.Frag) : Prop where
  kin : K.In h
  ok : ok K = true
  d : He.SaysD fa fn K
  tab : ∀ p ∈ cd, (cdV K p).isSome = true ∧ h.get? (tabOf K (cdOf K p)) = some (PySem.W.tabObj #[]) ∧ K.lookup (tabOf K (cdOf K p)) = none ∧ cdOk K (cdOf K p) = true
def hookT (ok : PySem.W.Frag → Bool) (fa : List He.Fa) (fn : List He.DefD) (cd : List (Str × Option Str)) (n : Nat) : PySem.W.Hook where
  α := AlT
  obs := fun s => obsT ok fa fn cd n s.heap.get?
  val := fun _ => (true, true, He.valD fn)
  says := fun _ h => ∃ K : PySem.W.Frag, SaysT ok fa fn cd h K
  of := fun _ s e => by
    have e : obsT ok fa fn cd n s.heap.get? = (true, true, He.valD fn) := e
    refine ⟨_, He.frG_in, congrArg (fun z : AlT => z.1) e, congrArg (fun z : AlT => z.2.2) e, fun p hp => ?_⟩
    have q := List.all_eq_true.mp (show (cd.all (tabQ s.heap.get? (He.frG s.heap.get? (asT s.heap.get? n)))) = true from congrArg (fun z : AlT => z.2.1) e) p hp
    unfold tabQ at q
    simp only [Bool.and_eq_true] at q
    exact ⟨q.1, isTab_ok q.2.1, Option.isNone_iff_eq_none.mp q.2.2.1, q.2.2.2⟩
  keeps := fun _ _ _ ⟨K, c⟩ k => ⟨K, PySem.W.Frag.In.keeps c.kin k, c.ok, c.d, fun p hp => ⟨(c.tab p hp).1, k _ _ (c.tab p hp).2.1, (c.tab p hp).2.2⟩⟩
theorem obsT_eq {ok : PySem.W.Frag → Bool} {fa : List He.Fa} {fn : List He.DefD} {cd : List (Str × Option Str)} {n : Nat} {g : Addr → Option Obj} {s : Shared} (h : ∀ a, g a = s.heap.get? a) : obsT ok fa fn cd n g = (hookT ok fa fn cd n).obs s := by
  have e : g = s.heap.get? := funext h
  rw [e] <;> rfl
/-- one def without defaults -/
def dfOf (x : Str) (st : Stmt) : He.DefD := ⟨(x, none), x, x, defArgs st, defBody st, defScope st, [], []⟩
def dmOf (C x q : Str) (st : Stmt) : He.DefD := ⟨(C, some x), x, q, defArgs st, defBody st, defScope st, [], []⟩
theorem fun_ofD {K : PySem.W.Frag} {x q : Str} {st : Stmt} {f : Addr} {fd : FuncData} (F : FunD K x q (defArgs st) (defBody st) (defScope st) [] [] f fd) : Fun K x q st f fd := by
  obtain ⟨⟨oc, od, dV, kV, doc, pm, an, cdv, ct, osl, e, l, c, d, _⟩, kp⟩ := F
  rcases d with ⟨_, rfl⟩ | ⟨h, _⟩
  · exact ⟨⟨oc, od, kV, doc, pm, an, cdv, ct, osl, e, l, c⟩, kp⟩
  · exact absurd rfl h
theorem funC_ofD {K : PySem.W.Frag} {x q : Str} {st : Stmt} {p : Str × Option Str} {fd : FuncData} (F : FunD K x q (defArgs st) (defBody st) (defScope st) [] [] (He.fAd K p) fd) (hc : (cdV K p).isSome = true) : FunC K x q st (He.fAd K p) fd (cdOf K p) := by
  obtain ⟨⟨oc, od, dV, kV, doc, pm, an, cdv, ct, osl, e, l, c, d, _⟩, kp⟩ := F
  rcases d with ⟨_, rfl⟩ | ⟨h, _⟩
  · have ec : ∃ c, cdv = .ref c ∧ cdV K p = some c := by
      unfold cdV at hc ⊢
      rw [l] at hc ⊢
      subst e
      simp only [PySem.W.fnOf] at hc ⊢
      cases cdv <;> simp_all
    obtain ⟨c', rfl, ec⟩ := ec
    have ec : cdOf K p = c' := by
      unfold cdOf
      rw [ec]
      rfl
    subst ec
    exact ⟨oc, od, kV, doc, pm, an, ct, osl, e, l, c⟩
  · exact absurd rfl h
theorem SaysT.def_ {ok : PySem.W.Frag → Bool} {fa : List He.Fa} {fn : List He.DefD} {cd : List (Str × Option Str)} {h : Heap} {K : PySem.W.Frag} (c : SaysT ok fa fn cd h K) (i : Nat) {x : Str} {st : Stmt} (e : fn[i]? = some (dfOf x st) := by rfl) :
    ∃ fd, FunD K x x (defArgs st) (defBody st) (defScope st) [] [] (He.fAd K (x, none)) fd := He.SaysD.def_ c.d i (d := dfOf x st) e
theorem SaysT.meth_ {ok : PySem.W.Frag → Bool} {fa : List He.Fa} {fn : List He.DefD} {cd : List (Str × Option Str)} {h : Heap} {K : PySem.W.Frag} (c : SaysT ok fa fn cd h K) (i : Nat) {C x q : Str} {st : Stmt} (e : fn[i]? = some (dmOf C x q st) := by rfl) :
    ∃ fd, FunD K x q (defArgs st) (defBody st) (defScope st) [] [] (He.fAd K (C, some x)) fd := He.SaysD.def_ c.d i (d := dmOf C x q st) e
theorem SaysT.code {ok : PySem.W.Frag → Bool} {fa : List He.Fa} {fn : List He.DefD} {cd : List (Str × Option Str)} {h : Heap} {K : PySem.W.Frag} (c : SaysT ok fa fn cd h K) (p : Str × Option Str) (hp : p ∈ cd) : (cdV K p).isSome = true := (c.tab p hp).1
end Vc

namespace K14
open PySem PySem.Spec PyProof.Rows L2 Vc
local macro_rules | `(tactic| walk_at "v") => `(tactic| first
  | (with_reducible refine v_seq ?_)
  | (with_reducible refine v_fld ?_)
  | (with_reducible refine v_sfld ?_)
  | (with_reducible refine v_sfa ?_)
  | (with_reducible refine v_meth ?_)
  | (with_reducible refine v_methK ?_)
  | (with_reducible refine v_make ?_)
  | (with_reducible refine v_held ?_)
  | (with_reducible refine v_asg ?_)
  | ((with_reducible refine v_var (v := ?vv) ?hv ?_); (case hv => exact rfl))
  | ((with_reducible refine v_name ?_); try dsimp only [List.set_cons_zero, List.set_cons_succ])
  | (with_reducible refine v_c ?_)
  | (with_reducible refine v_op ?_)
  | (with_reducible refine v_cons ?_)
  | (with_reducible refine v_nil ?_)
  | (with_reducible refine v_call ?_)
  | (with_reducible refine v_callK ?_)
  | (with_reducible refine v_cb ?_)
  | (with_reducible refine v_I0 ?_)
  | (with_reducible refine v_ret ?_)
  | (with_reducible refine v_retN ?_)
  | (with_reducible refine v_drop ?_)
  | (with_reducible refine v_if ?_)
  | (with_reducible refine v_ifE ?_)
  | (with_reducible refine v_test ?_)
  | (with_reducible refine v_B ?_)
  | (with_reducible refine v_bl ?_)
  | (with_reducible refine v_and ?_)
  | (with_reducible refine v_or ?_)
  | (with_reducible refine v_not ?_)
  | (with_reducible refine v_andV ?_)
  | (with_reducible refine v_orV ?_)
  | (with_reducible refine v_notV ?_)
  | (with_reducible refine v_chain ?_)
  | (with_reducible refine v_eqI ?_)
  | (with_reducible refine v_neI ?_)
  | (with_reducible refine v_eqS0 ?_)
  | (with_reducible refine v_neS0 ?_)
  | (with_reducible refine v_par ?_)
  | (with_reducible refine v_par3 ?_)
  | ((with_reducible refine v_two ?_); try dsimp only [List.set_cons_zero, List.set_cons_succ])
  | ((with_reducible refine v_three ?_); try dsimp only [List.set_cons_zero, List.set_cons_succ])
  | (with_reducible refine v_un ?_)
  | (with_reducible refine v_U ?_)
  | (with_reducible refine v_isInt ?_)
  | (with_reducible refine v_isBool ?_)
  | (with_reducible refine v_int1 ?_)
  | (with_reducible refine v_abs ?_)
  | (with_reducible refine v_max ?_)
  | (with_reducible refine v_min ?_)
  | (with_reducible refine v_for ?_)
  | (with_reducible refine v_rng1 ?_)
  | (with_reducible refine v_iList ?_)
  | (with_reducible refine v_iTup ?_)
  | (with_reducible refine v_ref ?_)
  | (with_reducible refine v_sl ?_)
  | (with_reducible refine v_noPart ?_)
  | (with_reducible refine v_part ?_)
  | (with_reducible refine v_pInt ?_)
  | (with_reducible refine v_lc ?_)
  | (with_reducible refine v_yes ?_)
  | (with_reducible refine v_if0 ?_)
  | (with_reducible refine v_if1 ?_)
  | (with_reducible refine v_ifn ?_)
  | (with_reducible refine v_gsub ?_)
  | (with_reducible refine v_gcons ?_)
  | (with_reducible refine v_gnil ?_)
  | (with_reducible refine v_tup ?_)
  | (with_reducible refine v_lst ?_)
  | (with_reducible refine v_bmL ?_)
  | ((with_reducible refine v_next ?_); try dsimp only)
  | ((with_reducible refine v_I ?hc ?_); (case hc => first | exact Or.inl (by decide) | exact Or.inr (by decide) | exact cm_r (by decide) (by decide) (by decide) | (show (_ : Int) ≠ _; decide) | (show (0 : Int) < _; decide) | (show _ ∧ _; decide))))
local macro_rules | `(tactic| walk_at "vv") => `(tactic| repeat walk_at "v")
def tP (cs : Cds) : Addr := match cs with
  | (_, p, _) :: _ => p
  | [] => 0
/-- all but the table at P stays, and it is one still -/
def Fg (P : Addr) (H H' : Hp) : Prop := (∀ b o, b ≠ P → H b = some o → H' b = some o) ∧ (GxR.TabG H P → GxR.TabG H' P)
theorem Fg.refl {P : Addr} {H : Hp} : Fg P H H := ⟨fun _ _ _ e => e, id⟩
theorem Fg.trans {P : Addr} {H H1 H2 : Hp} (a : Fg P H H1) (b : Fg P H1 H2) : Fg P H H2 := ⟨fun c o n e => b.1 c o n (a.1 c o n e), fun t => b.2 (a.2 t)⟩
theorem Fg.same {P : Addr} {H H' : Hp} (s : Same H H') : Fg P H H' := ⟨fun c o _ e => s c o e, fun ⟨ps, e, t⟩ => ⟨ps, s _ _ e, t⟩⟩
theorem Fg.tab {P : Addr} {H H' : Hp} (t : GxR.Tabbed P H H') : Fg P H H' := ⟨fun c o n e => by rw [t.2 c n]; exact e, fun _ => t.1⟩
theorem Is.fg {M : Addr → Prop} {P : Addr} {H H' : Hp} {v : V} {d : D} (h : Is M H v d) (m : M P) (f : Fg P H H') : Is M H' v d := h.fr fun b o n e => f.1 b o (fun z => n (z ▸ m)) e
theorem IsAll.fg {M : Addr → Prop} {P : Addr} {H H' : Hp} {vs : List V} {ds : List D} (h : IsAll M H vs ds) (m : M P) (f : Fg P H H') : IsAll M H' vs ds := h.fr fun b o n e => f.1 b o (fun z => n (z ▸ m)) e
def SG : PySem.Str := "abcdefghijklmnopqrstuvwxyz0123456789.-"
def inS (c : Nat) : Bool := decide (c ∈ SG.cps.toList)
def nmB : D → Bool
  | .str z => decide (1 ≤ z.length ∧ z.length ≤ 9) && z.cps.toList.all inS
  | _ => false
def cellsB (j k : Nat) : D → Bool
  | .tup ds => decide (j ≤ ds.length ∧ ds.length ≤ k) && ds.all (D.btw 0 65535)
  | _ => false
def kyB : D → Bool
  | .tup [.str k, n] => decide (k = "node") && n.btw 1 4294967295
  | .tup [.str k, n, r] => if k = "name" then n.btw 0 4294967295 && nmB r else n.btw 1 4294967295 && (decide (k = "piece") && r.btw 0 15)
  | _ => false
def ndB : D → Bool
  | .tup [.str k, l] => if k = "folder" then l.btw 0 0 else decide (k = "file") && l.btw 0 256
  | _ => false
def kind0 : D → PySem.Str
  | .tup (.str k :: _) => k
  | _ => ""
def isNon : D → Bool
  | .non => true
  | _ => false
def vlB (k v : D) : Bool := if kind0 k = "node" then ndB v else if isNon v = true then true else if kind0 k = "name" then v.btw 1 4294967295 else cellsB 1 16 v
theorem nmB_str (z : PySem.Str) : nmB (.str z) = (decide (1 ≤ z.length ∧ z.length ≤ 9) && z.cps.toList.all inS) := rfl
theorem cellsB_tup (j k : Nat) (ds : List D) : cellsB j k (.tup ds) = (decide (j ≤ ds.length ∧ ds.length ≤ k) && ds.all (D.btw 0 65535)) := rfl
theorem ky2 (k : PySem.Str) (n : D) : kyB (.tup [.str k, n]) = (decide (k = "node") && n.btw 1 4294967295) := rfl
theorem ky3 (k : PySem.Str) (n r : D) : kyB (.tup [.str k, n, r]) = if k = "name" then n.btw 0 4294967295 && nmB r else n.btw 1 4294967295 && (decide (k = "piece") && r.btw 0 15) := rfl
theorem kyB_no {ds : List D} (h : ds.length ≠ 2) (h3 : ds.length ≠ 3) : kyB (.tup ds) = false :=
  match ds, h, h3 with
  | [], _, _ => rfl
  | [_], _, _ => by simp [kyB]
  | _ :: _ :: _ :: _ :: _, _, _ => by simp [kyB]
theorem kyB_ns {d0 : D} {ds : List D} (h : d0.isStr = false) : kyB (.tup (d0 :: ds)) = false := by
  cases d0 <;> simp_all [kyB, D.isStr]
theorem nd2 (k : PySem.Str) (l : D) : ndB (.tup [.str k, l]) = if k = "folder" then l.btw 0 0 else decide (k = "file") && l.btw 0 256 := rfl
theorem ndB_no {ds : List D} (h : ds.length ≠ 2) : ndB (.tup ds) = false :=
  match ds, h with
  | [], _ => rfl
  | [_], _ => by simp [ndB]
  | _ :: _ :: _ :: _, _ => by simp [ndB]
theorem ndB_ns {d0 : D} {ds : List D} (h : d0.isStr = false) : ndB (.tup (d0 :: ds)) = false := by
  cases d0 <;> simp_all [ndB, D.isStr]
theorem mx_le {ds : List D} {m : Nat} (h : (D.tup ds).mx ≤ m) : ∀ d ∈ ds, d.mx ≤ m := by
  have : D.mxs ds ≤ m := Nat.le_trans (Nat.le_max_right _ _) h
  clear h
  induction ds with
  | nil => intro d hd; simp at hd
  | cons x xs ih =>
    intro d hd
    simp only [D.mxs] at this
    rcases List.mem_cons.mp hd with rfl | hd
    · omega
    · exact ih (by omega) d hd
theorem mx_len {ds : List D} {m : Nat} (h : (D.tup ds).mx ≤ m) : ds.length ≤ m := Nat.le_trans (Nat.le_max_left _ _) h
theorem fwV_dec {bs : List Bool} : ∀ {i : Nat}, decide (fwV i bs = V.non) = bs.all id := by
  induction bs with
  | nil => intro i; simp [fwV]
  | cons b bs ih =>
    intro i
    cases b with
    | false => simp [fwV]
    | true =>
      rw [show fwV i (true :: bs) = fwV (i + 1) bs from rfl, ih]
      rfl
theorem inV23 (n : Nat) : inV (.int (n : Int)) [.int 2, .int 3] = decide (n = 2 ∨ n = 3) := by
  simp only [inV, List.any_cons, List.any_nil, Bool.or_false, eqV]
  by_cases h2 : n = 2
  · subst h2; rfl
  · by_cases h3 : n = 3
    · subst h3; rfl
    · rw [decide_eq_false (by omega)]
      have a : (2 : Int) ≠ (n : Int) := by omega
      have b : (3 : Int) ≠ (n : Int) := by omega
      simp [a, b]
theorem sg_asc : ∀ c ∈ SG.cps.toList, c < 128 := all_of (P := fun c : Nat => c < 128) (by decide +kernel)
theorem sg_app_len {z : PySem.Str} {x : Nat} : (z ++ (⟨#[x]⟩ : PySem.Str)).length = z.length + 1 := by
  show (z.cps ++ #[x]).size = z.cps.size + 1
  simp
theorem sg_app_mem {z : PySem.Str} {x c : Nat} (h : c ∈ (z ++ (⟨#[x]⟩ : PySem.Str)).cps.toList) : c ∈ z.cps.toList ∨ c = x := by
  have : c ∈ (z.cps ++ #[x]).toList := h
  simpa using this
theorem is_nats {M : Addr → Prop} {H : Hp} : ∀ {ns : List Nat}, IsAll M H (ns.map vN) (ns.map fun n : Nat => D.int n)
  | [] => .nil
  | _ :: _ => .cons (.int _) is_nats
theorem ky_kinds {k : PySem.Str} {ds : List D} (h : kyB (.tup (.str k :: ds)) = true) : k = "node" ∨ k = "name" ∨ k = "piece" := by
  match ds, h with
  | [], h => exact absurd h (by simp [kyB])
  | [n], h =>
    rw [ky2] at h
    simp only [Bool.and_eq_true, decide_eq_true_eq] at h
    exact .inl h.1
  | [n, r], h =>
    rw [ky3] at h
    by_cases e : k = "name"
    · exact .inr (.inl e)
    · rw [if_neg e] at h
      simp only [Bool.and_eq_true, decide_eq_true_eq] at h
      exact .inr (.inr h.2.1)
  | _ :: _ :: _ :: _, h => exact absurd h (by simp [kyB])
theorem inV_two {k a b : PySem.Str} : inV (.str k) [.str a, .str b] = decide (k = a ∨ k = b) := by
  show ((a == k) || ((b == k) || false)) = _
  rw [Bool.or_false]
  by_cases h : k = a
  · subst h; rw [beq_self_eq_true, decide_eq_true (.inl rfl)]; rfl
  · by_cases h2 : k = b
    · subst h2; rw [beq_self_eq_true, decide_eq_true (.inr rfl), Bool.or_true]
    · rw [beq_eq_false_iff_ne.mpr fun z => h z.symm, beq_eq_false_iff_ne.mpr fun z => h2 z.symm, decide_eq_false (by rintro (z | z); exact h z; exact h2 z)]; rfl
def fB : Nat → Nat
  | 0 => 16
  | i + 1 => 2 * fB i + 60
theorem fB_le {i : Nat} (h : i < 3) : fB i ≤ 244 := by
  match i, h with
  | 0, _ => decide
  | 1, _ => decide
  | 2, _ => decide
/-- two lists of equal lists of truths, beside the spring and the table -/
def M4 (T U W P : Addr) (b : Addr) : Prop := b = T ∨ b = U ∨ b = W ∨ b = P
structure TDy (T U W P : Addr) (tv uv : List V) (ds es : List D) (H : Hp) : Prop where
  t : H T = some (.lst tv)
  u : H U = some (.lst uv)
  w : Wl [] H W
  g : GxR.TabG H P
  tu : T ≠ U
  tw : T ≠ W
  tp : T ≠ P
  uw : U ≠ W
  up : U ≠ P
  wp : P ≠ W
  ti : IsAll (M4 T U W P) H tv ds
  ui : IsAll (M4 T U W P) H uv es
section
variable {T U W P : Addr} {tv uv : List V} {ds es : List D} {H H' : Hp}
theorem TDy.fr (h : TDy T U W P tv uv ds es H) (f : ∀ b o, b ≠ W → b ≠ P → H b = some o → H' b = some o) (w : Wl [] H' W) (g : GxR.TabG H' P) : TDy T U W P tv uv ds es H' :=
  ⟨f _ _ h.tw h.tp h.t, f _ _ h.uw h.up h.u, w, g, h.tu, h.tw, h.tp, h.uw, h.up, h.wp, h.ti.fr fun b o n e => f b o (fun z => n (.inr (.inr (.inl z)))) (fun z => n (.inr (.inr (.inr z)))) e, h.ui.fr fun b o n e => f b o (fun z => n (.inr (.inr (.inl z)))) (fun z => n (.inr (.inr (.inr z)))) e⟩
theorem tabG_sx {P W : Addr} {H H' : Hp} (h : GxR.TabG H P) (n : P ≠ W) (s : Sx W H H') : GxR.TabG H' P := by
  obtain ⟨ps, e, t⟩ := h
  exact ⟨ps, s _ _ n e, t⟩
theorem tabG_same {P : Addr} {H H' : Hp} (h : GxR.TabG H P) (s : Same H H') : GxR.TabG H' P := by
  obtain ⟨ps, e, t⟩ := h
  exact ⟨ps, s _ _ e, t⟩
theorem tabG_old {P : Addr} {H : Hp} (h : GxR.TabG H P) : Old H P := by
  obtain ⟨ps, e, t⟩ := h
  intro z
  rw [e] at z
  cases z
theorem wl_fg {P W : Addr} {H H' : Hp} (w : Wl [] H W) (n : P ≠ W) (f : Fg P H H') : Wl [] H' W := by
  obtain ⟨x, y, z, ew⟩ := w
  exact ⟨x, y, z, f.1 _ _ n.symm ew⟩
theorem TDy.same (h : TDy T U W P tv uv ds es H) (s : Same H H') : TDy T U W P tv uv ds es H' := h.fr (fun b o _ _ e => s b o e) (h.w.of s) (tabG_same h.g s)
theorem TDy.sx (h : TDy T U W P tv uv ds es H) (s : Sx W H H') (w : Wl [] H' W) : TDy T U W P tv uv ds es H' := h.fr (fun b o n _ e => s b o n e) w (tabG_sx h.g h.wp s)
theorem TDy.fg (h : TDy T U W P tv uv ds es H) (f : Fg P H H') : TDy T U W P tv uv ds es H' := h.fr (fun b o _ n e => f.1 b o n e) (wl_fg h.w h.wp f) (f.2 h.g)
theorem TDy.old (h : TDy T U W P tv uv ds es H) : ∀ b, M4 T U W P b → Old H b := by
  rintro b (rfl | rfl | rfl | rfl)
  · intro z; rw [h.t] at z; cases z
  · intro z; rw [h.u] at z; cases z
  · exact wl_old h.w
  · exact tabG_old h.g
theorem TDy.free {p : Addr} (h : TDy T U W P tv uv ds es H) (e : H p = none) : ¬ M4 T U W P p := fun z => h.old p z e
theorem wl_upd {W p : Addr} {H : Hp} {o : HO} (w : Wl [] H W) (n : p ≠ W) : Wl [] (upd H p o) W := by
  obtain ⟨x, y, z, ew⟩ := w
  exact ⟨x, y, z, by rw [upd_ne n.symm]; exact ew⟩
theorem tabG_upd {P p : Addr} {H : Hp} {o : HO} (h : GxR.TabG H P) (n : p ≠ P) : GxR.TabG (upd H p o) P := by
  obtain ⟨ps, e, t⟩ := h
  exact ⟨ps, by rw [upd_ne n.symm]; exact e, t⟩
theorem fr4T {o : HO} : Fr (M4 T U W P) H (upd H T o) := fun b _ n e => by rw [upd_ne fun z => n (.inl z)]; exact e
theorem fr4U {o : HO} : Fr (M4 T U W P) H (upd H U o) := fun b _ n e => by rw [upd_ne fun z => n (.inr (.inl z))]; exact e
theorem fr4S (s : Same H H') : Fr (M4 T U W P) H H' := fun b o _ e => s b o e
theorem fr4G (f : Fg P H H') : Fr (M4 T U W P) H H' := fun b o n e => f.1 b o (fun z => n (.inr (.inr (.inr z)))) e
theorem fr4W (s : Sx W H H') : Fr (M4 T U W P) H H' := fun b o n e => s b o (fun z => n (.inr (.inr (.inl z)))) e
theorem TDy.addT {v : V} {d : D} (h : TDy T U W P tv uv ds es H) (i : Is (M4 T U W P) H v d) : TDy T U W P (tv ++ [v]) uv (ds ++ [d]) es (upd H T (.lst (tv ++ [v]))) :=
  ⟨upd_same, by rw [upd_ne h.tu.symm]; exact h.u, wl_upd h.w h.tw, tabG_upd h.g h.tp, h.tu, h.tw, h.tp, h.uw, h.up, h.wp, (h.ti.app (.cons i .nil)).fr fr4T, h.ui.fr fr4T⟩
theorem TDy.addU {v : V} {d : D} (h : TDy T U W P tv uv ds es H) (i : Is (M4 T U W P) H v d) : TDy T U W P tv (uv ++ [v]) ds (es ++ [d]) (upd H U (.lst (uv ++ [v]))) :=
  ⟨by rw [upd_ne h.tu]; exact h.t, upd_same, wl_upd h.w h.uw, tabG_upd h.g h.up, h.tu, h.tw, h.tp, h.uw, h.up, h.wp, h.ti.fr fr4U, (h.ui.app (.cons i .nil)).fr fr4U⟩
theorem cell_bs (bs : List Bool) (l : bs.length ≤ 8) : Cell (.lst (bs.map D.bl)) := .inr ⟨bs, rfl, l⟩
/-- what law_right holds between its turns -/
def RI (T U W P : Addr) (kp kq : V) (kd kd2 : D) (H H' : Hp) (n : Nat) : Prop := ∃ tv uv ds, TDy T U W P tv uv ds ds H' ∧ ds.length = n ∧ (∀ d ∈ ds, Cell d) ∧ Is (M4 T U W P) H' kp kd ∧ Is (M4 T U W P) H' kq kd2 ∧ ∀ b o, b ≠ W → b ≠ P → H b = some o → H' b = some o
theorem tabG_tb {cs : Cds} {H : Hp} {C P : Addr} {q : PySem.Str} {r : Cds} (e : cs = (C, P, q) :: r) (h : Tb cs H) : GxR.TabG H (tP cs) := by
  subst e
  obtain ⟨ps, h1, h2, _⟩ := h _ List.mem_cons_self
  exact ⟨ps, h1, h2⟩
theorem is_key0 {M : Addr → Prop} {p : Addr} {k : PySem.Str} {ks : List D} (i : Is M H (.ref p) (.tup (.str k :: ks))) : ∃ xs, H p = some (.tup (.str k :: xs)) := by
  cases i with
  | tup e n hs =>
  cases hs with
  | cons i0 hr =>
  cases i0
  exact ⟨_, e⟩
theorem seqL_tab {K : PySem.W.Frag} {P a : Addr} {H H2 : Hp} {xs : List V} (tg : GxR.TabG H P) (f : ∀ b o, b ≠ P → H b = some o → H2 b = some o) (h : SqL K H a xs) : SqL K H2 a xs := by
  obtain ⟨ps, ep, _⟩ := tg
  rcases h with (h | ⟨o, h⟩) | h
  · exact .inl (.inl (f _ _ (fun z => by rw [z, ep] at h; cases h) h))
  · exact .inl (.inr ⟨o, f _ _ (fun z => by rw [z, ep] at h; cases h) h⟩)
  · exact .inr h
end
/-! ### the text by places -/
def topS (i : Nat) : Stmt := PySem.Challenge.pw_flashtrees_k14_whole_keys_values_and_nam.main.body.getD i (.Pass ⟨0, 0, 0, 0⟩)
abbrev s_Ldraw : Stmt := topS 27
abbrev N_Ldraw : List Str := ["_law_spring_here", "_law_high", "_law_figure", "_law_seed"]
theorem sc_Ldraw : FnScope N_Ldraw ["_law_spring_here", "_law_high"] (defScope s_Ldraw) := ⟨rfl, rfl, rfl, by decide +kernel, rfl, by decide +kernel, by decide +kernel⟩
abbrev s_Lpick : Stmt := topS 28
abbrev N_Lpick : List Str := ["_law_spring_here", "_law_some"]
theorem sc_Lpick : FnScope N_Lpick ["_law_spring_here", "_law_some"] (defScope s_Lpick) := ⟨rfl, rfl, rfl, by decide +kernel, rfl, by decide +kernel, by decide +kernel⟩
abbrev s_Lodd : Stmt := topS 33
abbrev N_Lodd : List Str := ["_law_spring_here"]
theorem sc_Lodd : FnScope N_Lodd ["_law_spring_here"] (defScope s_Lodd) := ⟨rfl, rfl, rfl, by decide +kernel, rfl, by decide +kernel, by decide +kernel⟩
abbrev s_Lbent : Stmt := topS 34
abbrev N_Lbent : List Str := ["_law_spring_here", "_law_thing", "_law_spot", "_law_way", "_law_sign"]
theorem sc_Lbent : FnScope N_Lbent ["_law_spring_here", "_law_thing"] (defScope s_Lbent) := ⟨rfl, rfl, rfl, by decide +kernel, rfl, by decide +kernel, by decide +kernel⟩
abbrev s_Lthings : Stmt := topS 39
abbrev N_Lthings : List Str := ["_law_spring_here", "_law_thing", "_law_things_here", "_law_turn"]
theorem sc_Lthings : FnScope N_Lthings ["_law_spring_here", "_law_thing"] (defScope s_Lthings) := ⟨rfl, rfl, rfl, by decide +kernel, rfl, by decide +kernel, by decide +kernel⟩
abbrev s_Lgreat : Stmt := topS 29
abbrev N_Lgreat : List Str := ["_law_spring_here", "_law_low", "_law_way"]
theorem sc_Lgreat : FnScope N_Lgreat ["_law_spring_here", "_law_low"] (defScope s_Lgreat) := ⟨rfl, rfl, rfl, by decide +kernel, rfl, by decide +kernel, by decide +kernel⟩
abbrev s_Lname : Stmt := topS 30
abbrev N_Lname : List Str := ["_law_spring_here", "_law_made", "_law_turn"]
theorem sc_Lname : FnScope N_Lname ["_law_spring_here"] (defScope s_Lname) := ⟨rfl, rfl, rfl, by decide +kernel, rfl, by decide +kernel, by decide +kernel⟩
abbrev s_Lkey : Stmt := topS 31
abbrev N_Lkey : List Str := ["_law_spring_here", "_law_way"]
theorem sc_Lkey : FnScope N_Lkey ["_law_spring_here"] (defScope s_Lkey) := ⟨rfl, rfl, rfl, by decide +kernel, rfl, by decide +kernel, by decide +kernel⟩
abbrev s_Lvalue : Stmt := topS 32
abbrev N_Lvalue : List Str := ["_law_spring_here", "_law_key_here", "_law_cells", "_law_turn"]
theorem sc_Lvalue : FnScope N_Lvalue ["_law_spring_here", "_law_key_here"] (defScope s_Lvalue) := ⟨rfl, rfl, rfl, by decide +kernel, rfl, by decide +kernel, by decide +kernel⟩
abbrev s_is_whole : Stmt := topS 4
abbrev N_is_whole : List Str := ["value"]
theorem sc_is_whole : FnScope N_is_whole ["value"] (defScope s_is_whole) := ⟨rfl, rfl, rfl, by decide +kernel, rfl, by decide +kernel, by decide +kernel⟩
abbrev s_is_between : Stmt := topS 5
abbrev N_is_between : List Str := ["value", "least", "most"]
theorem sc_is_between : FnScope N_is_between ["value", "least", "most"] (defScope s_is_between) := ⟨rfl, rfl, rfl, by decide +kernel, rfl, by decide +kernel, by decide +kernel⟩
abbrev s_is_name : Stmt := topS 18
abbrev N_is_name : List Str := ["value"]
theorem sc_is_name : FnScope N_is_name ["value"] (defScope s_is_name) := ⟨rfl, rfl, rfl, by decide +kernel, rfl, by decide +kernel, by decide +kernel⟩
abbrev s_is_key : Stmt := topS 20
abbrev N_is_key : List Str := ["value", "kind", "number", "rest"]
theorem sc_is_key : FnScope N_is_key ["value"] (defScope s_is_key) := ⟨rfl, rfl, rfl, by decide +kernel, rfl, by decide +kernel, by decide +kernel⟩
abbrev s_require_key : Stmt := topS 24
abbrev N_require_key : List Str := ["key"]
theorem sc_require_key : FnScope N_require_key ["key"] (defScope s_require_key) := ⟨rfl, rfl, rfl, by decide +kernel, rfl, by decide +kernel, by decide +kernel⟩
abbrev s_first_wrong : Stmt := topS 6
abbrev N_first_wrong : List Str := ["values", "is_right", "index", "value"]
theorem sc_first_wrong : FnScope N_first_wrong ["values", "is_right"] (defScope s_first_wrong) := ⟨rfl, rfl, rfl, by decide +kernel, rfl, by decide +kernel, by decide +kernel⟩
abbrev s_is_unit : Stmt := topS 10
abbrev N_is_unit : List Str := ["value"]
theorem sc_is_unit : FnScope N_is_unit ["value"] (defScope s_is_unit) := ⟨rfl, rfl, rfl, by decide +kernel, rfl, by decide +kernel, by decide +kernel⟩
abbrev s_are_cells : Stmt := topS 19
abbrev N_are_cells : List Str := ["value", "least", "most"]
theorem sc_are_cells : FnScope N_are_cells ["value", "least", "most"] (defScope s_are_cells) := ⟨rfl, rfl, rfl, by decide +kernel, rfl, by decide +kernel, by decide +kernel⟩
abbrev s_is_node_value : Stmt := topS 21
abbrev N_is_node_value : List Str := ["value", "kind", "length"]
theorem sc_is_node_value : FnScope N_is_node_value ["value"] (defScope s_is_node_value) := ⟨rfl, rfl, rfl, by decide +kernel, rfl, by decide +kernel, by decide +kernel⟩
abbrev s_fits : Stmt := topS 22
abbrev N_fits : List Str := ["key", "value", "kind"]
theorem sc_fits : FnScope N_fits ["key", "value"] (defScope s_fits) := ⟨rfl, rfl, rfl, by decide +kernel, rfl, by decide +kernel, by decide +kernel⟩
abbrev s_is_value : Stmt := topS 23
abbrev N_is_value : List Str := ["key", "value"]
theorem sc_is_value : FnScope N_is_value ["key", "value"] (defScope s_is_value) := ⟨rfl, rfl, rfl, by decide +kernel, rfl, by decide +kernel, by decide +kernel⟩
abbrev s_Lis_whole : Stmt := topS 35
abbrev N_Lis_whole : List Str := ["_law_thing", "_law_low", "_law_high"]
theorem sc_Lis_whole : FnScope N_Lis_whole ["_law_thing", "_law_low", "_law_high"] (defScope s_Lis_whole) := ⟨rfl, rfl, rfl, by decide +kernel, rfl, by decide +kernel, by decide +kernel⟩
abbrev s_Lis_name : Stmt := topS 36
abbrev N_Lis_name : List Str := ["_law_thing", "_law_sign"]
theorem sc_Lis_name : FnScope N_Lis_name ["_law_thing"] (defScope s_Lis_name) := ⟨rfl, rfl, rfl, by decide +kernel, rfl, by decide +kernel, by decide +kernel⟩
abbrev s_Lis_key : Stmt := topS 37
abbrev N_Lis_key : List Str := ["_law_thing"]
theorem sc_Lis_key : FnScope N_Lis_key ["_law_thing"] (defScope s_Lis_key) := ⟨rfl, rfl, rfl, by decide +kernel, rfl, by decide +kernel, by decide +kernel⟩
abbrev s_Lis_value : Stmt := topS 38
abbrev N_Lis_value : List Str := ["_law_key_here", "_law_thing", "_law_each"]
theorem sc_Lis_value : FnScope N_Lis_value ["_law_key_here", "_law_thing"] (defScope s_Lis_value) := ⟨rfl, rfl, rfl, by decide +kernel, rfl, by decide +kernel, by decide +kernel⟩
abbrev s_Lright : Stmt := topS 40
abbrev N_Lright : List Str := ["_law_spring_here", "_law_key_here", "_law_late", "_law_told", "_law_due", "_law_thing", "_law_start"]
theorem sc_Lright : FnScope N_Lright ["_law_spring_here"] (defScope s_Lright) := ⟨rfl, rfl, rfl, by decide +kernel, rfl, by decide +kernel, by decide +kernel⟩
abbrev s_Lspring : Stmt := topS 26
abbrev N_Lspring : List Str := ["_law_script", "_law_turn", "_law_mixed", "_law_cell", "_law_own"]
theorem sc_Lspring : FnScope N_Lspring ["_law_script", "_law_turn"] (defScope s_Lspring) := ⟨rfl, rfl, rfl, by decide +kernel, rfl, by decide +kernel, by decide +kernel⟩
abbrev s_law : Stmt := topS 41
abbrev N_law : List Str := ["_law_script", "_law_turn"]
theorem sc_law : FnScope N_law ["_law_script"] (defScope s_law) := ⟨rfl, rfl, rfl, by decide +kernel, rfl, by decide +kernel, by decide +kernel⟩
abbrev gp_is_key_0_value {α : Type} : List α → List α → List α := gpick 0 1 [0]
theorem kb_is_key_0_value {K : PySem.W.Frag} {f : Addr} {fd : FuncData} (F : Fun K "is_key" "is_key" s_is_key f fd) : KBinds K fd ["value"] ["value"] gp_is_key_0_value gp_is_key_0_value := by
  obtain ⟨oc, od, kV, doc, pm, an, cdv, ct, osl, rfl, lk, hcd⟩ := F.ex
  refine ⟨fun s us ws kin hl => ?_, fun r rz => gpick_rel _ _ _ r rz⟩
  by_cases hc : us.length = 0 ∧ ws.length = 1
  · match us, ws, hc with
    | [], [z0], _ => exact .of_eq rfl
  · rw [show gp_is_key_0_value us ws = [] from if_neg hc] at hl
    simp at hl
abbrev gp_is_name_0_value {α : Type} : List α → List α → List α := gpick 0 1 [0]
theorem kb_is_name_0_value {K : PySem.W.Frag} {f : Addr} {fd : FuncData} (F : Fun K "is_name" "is_name" s_is_name f fd) : KBinds K fd ["value"] ["value"] gp_is_name_0_value gp_is_name_0_value := by
  obtain ⟨oc, od, kV, doc, pm, an, cdv, ct, osl, rfl, lk, hcd⟩ := F.ex
  refine ⟨fun s us ws kin hl => ?_, fun r rz => gpick_rel _ _ _ r rz⟩
  by_cases hc : us.length = 0 ∧ ws.length = 1
  · match us, ws, hc with
    | [], [z0], _ => exact .of_eq rfl
  · rw [show gp_is_name_0_value us ws = [] from if_neg hc] at hl
    simp at hl
abbrev gp_is_value_0_value_key {α : Type} : List α → List α → List α := gpick 0 2 [1, 0]
theorem kb_is_value_0_value_key {K : PySem.W.Frag} {f : Addr} {fd : FuncData} (F : Fun K "is_value" "is_value" s_is_value f fd) : KBinds K fd ["key", "value"] ["value", "key"] gp_is_value_0_value_key gp_is_value_0_value_key := by
  obtain ⟨oc, od, kV, doc, pm, an, cdv, ct, osl, rfl, lk, hcd⟩ := F.ex
  refine ⟨fun s us ws kin hl => ?_, fun r rz => gpick_rel _ _ _ r rz⟩
  by_cases hc : us.length = 0 ∧ ws.length = 2
  · match us, ws, hc with
    | [], [z0, z1], _ => exact .of_eq rfl
  · rw [show gp_is_value_0_value_key us ws = [] from if_neg hc] at hl
    simp at hl
/-! ### what the top has left -/
abbrev q_is_name : Str := (envOfC "is_name" (defScope s_is_name) 0 0 .none).qual ++ "<lambda>"
structure Txt (K : PySem.W.Frag) (mg : Str → Option Value) (base : Heap) where
  C_is_name : Addr
  P_is_name : Addr
  TB_is_name : LamX.TabB base mg C_is_name P_is_name
  f_Ldraw : Addr
  fd_Ldraw : FuncData
  F_Ldraw : Fun K "_law_draw" "_law_draw" s_Ldraw f_Ldraw fd_Ldraw
  g_Ldraw : mg "_law_draw" = some (.ref f_Ldraw)
  bi_Ldraw : Binds K fd_Ldraw ["_law_spring_here", "_law_high"] []
  f_Lpick : Addr
  fd_Lpick : FuncData
  F_Lpick : Fun K "_law_pick" "_law_pick" s_Lpick f_Lpick fd_Lpick
  g_Lpick : mg "_law_pick" = some (.ref f_Lpick)
  bi_Lpick : Binds K fd_Lpick ["_law_spring_here", "_law_some"] []
  f_Lodd : Addr
  fd_Lodd : FuncData
  F_Lodd : Fun K "_law_odd" "_law_odd" s_Lodd f_Lodd fd_Lodd
  g_Lodd : mg "_law_odd" = some (.ref f_Lodd)
  bi_Lodd : Binds K fd_Lodd ["_law_spring_here"] []
  f_Lbent : Addr
  fd_Lbent : FuncData
  F_Lbent : Fun K "_law_bent" "_law_bent" s_Lbent f_Lbent fd_Lbent
  g_Lbent : mg "_law_bent" = some (.ref f_Lbent)
  bi_Lbent : Binds K fd_Lbent ["_law_spring_here", "_law_thing"] []
  f_Lthings : Addr
  fd_Lthings : FuncData
  F_Lthings : Fun K "_law_things" "_law_things" s_Lthings f_Lthings fd_Lthings
  g_Lthings : mg "_law_things" = some (.ref f_Lthings)
  bi_Lthings : Binds K fd_Lthings ["_law_spring_here", "_law_thing"] []
  f_Lgreat : Addr
  fd_Lgreat : FuncData
  F_Lgreat : Fun K "_law_great" "_law_great" s_Lgreat f_Lgreat fd_Lgreat
  g_Lgreat : mg "_law_great" = some (.ref f_Lgreat)
  bi_Lgreat : Binds K fd_Lgreat ["_law_spring_here", "_law_low"] []
  f_Lname : Addr
  fd_Lname : FuncData
  F_Lname : Fun K "_law_name" "_law_name" s_Lname f_Lname fd_Lname
  g_Lname : mg "_law_name" = some (.ref f_Lname)
  bi_Lname : Binds K fd_Lname ["_law_spring_here"] []
  f_Lkey : Addr
  fd_Lkey : FuncData
  F_Lkey : Fun K "_law_key" "_law_key" s_Lkey f_Lkey fd_Lkey
  g_Lkey : mg "_law_key" = some (.ref f_Lkey)
  bi_Lkey : Binds K fd_Lkey ["_law_spring_here"] []
  f_Lvalue : Addr
  fd_Lvalue : FuncData
  F_Lvalue : Fun K "_law_value" "_law_value" s_Lvalue f_Lvalue fd_Lvalue
  g_Lvalue : mg "_law_value" = some (.ref f_Lvalue)
  bi_Lvalue : Binds K fd_Lvalue ["_law_spring_here", "_law_key_here"] []
  f_is_whole : Addr
  fd_is_whole : FuncData
  F_is_whole : Fun K "is_whole" "is_whole" s_is_whole f_is_whole fd_is_whole
  g_is_whole : mg "is_whole" = some (.ref f_is_whole)
  bi_is_whole : Binds K fd_is_whole ["value"] []
  f_is_between : Addr
  fd_is_between : FuncData
  F_is_between : Fun K "is_between" "is_between" s_is_between f_is_between fd_is_between
  g_is_between : mg "is_between" = some (.ref f_is_between)
  bi_is_between : Binds K fd_is_between ["value", "least", "most"] []
  f_is_name : Addr
  fd_is_name : FuncData
  F_is_name : Fun K "is_name" "is_name" s_is_name f_is_name fd_is_name
  g_is_name : mg "is_name" = some (.ref f_is_name)
  bi_is_name : Binds K fd_is_name ["value"] []
  FC_is_name : FunC K "is_name" "is_name" s_is_name f_is_name fd_is_name C_is_name
  f_is_key : Addr
  fd_is_key : FuncData
  F_is_key : Fun K "is_key" "is_key" s_is_key f_is_key fd_is_key
  g_is_key : mg "is_key" = some (.ref f_is_key)
  bi_is_key : Binds K fd_is_key ["value"] []
  f_require_key : Addr
  fd_require_key : FuncData
  F_require_key : Fun K "require_key" "require_key" s_require_key f_require_key fd_require_key
  g_require_key : mg "require_key" = some (.ref f_require_key)
  bi_require_key : Binds K fd_require_key ["key"] []
  f_first_wrong : Addr
  fd_first_wrong : FuncData
  F_first_wrong : Fun K "first_wrong" "first_wrong" s_first_wrong f_first_wrong fd_first_wrong
  g_first_wrong : mg "first_wrong" = some (.ref f_first_wrong)
  bi_first_wrong : Binds K fd_first_wrong ["values", "is_right"] []
  f_is_unit : Addr
  fd_is_unit : FuncData
  F_is_unit : Fun K "is_unit" "is_unit" s_is_unit f_is_unit fd_is_unit
  g_is_unit : mg "is_unit" = some (.ref f_is_unit)
  bi_is_unit : Binds K fd_is_unit ["value"] []
  f_are_cells : Addr
  fd_are_cells : FuncData
  F_are_cells : Fun K "are_cells" "are_cells" s_are_cells f_are_cells fd_are_cells
  g_are_cells : mg "are_cells" = some (.ref f_are_cells)
  bi_are_cells : Binds K fd_are_cells ["value", "least", "most"] []
  f_is_node_value : Addr
  fd_is_node_value : FuncData
  F_is_node_value : Fun K "is_node_value" "is_node_value" s_is_node_value f_is_node_value fd_is_node_value
  g_is_node_value : mg "is_node_value" = some (.ref f_is_node_value)
  bi_is_node_value : Binds K fd_is_node_value ["value"] []
  f_fits : Addr
  fd_fits : FuncData
  F_fits : Fun K "fits" "fits" s_fits f_fits fd_fits
  g_fits : mg "fits" = some (.ref f_fits)
  bi_fits : Binds K fd_fits ["key", "value"] []
  f_is_value : Addr
  fd_is_value : FuncData
  F_is_value : Fun K "is_value" "is_value" s_is_value f_is_value fd_is_value
  g_is_value : mg "is_value" = some (.ref f_is_value)
  bi_is_value : Binds K fd_is_value ["key", "value"] []
  f_Lis_whole : Addr
  fd_Lis_whole : FuncData
  F_Lis_whole : Fun K "_law_is_whole" "_law_is_whole" s_Lis_whole f_Lis_whole fd_Lis_whole
  g_Lis_whole : mg "_law_is_whole" = some (.ref f_Lis_whole)
  bi_Lis_whole : Binds K fd_Lis_whole ["_law_thing", "_law_low", "_law_high"] []
  f_Lis_name : Addr
  fd_Lis_name : FuncData
  F_Lis_name : Fun K "_law_is_name" "_law_is_name" s_Lis_name f_Lis_name fd_Lis_name
  g_Lis_name : mg "_law_is_name" = some (.ref f_Lis_name)
  bi_Lis_name : Binds K fd_Lis_name ["_law_thing"] []
  f_Lis_key : Addr
  fd_Lis_key : FuncData
  F_Lis_key : Fun K "_law_is_key" "_law_is_key" s_Lis_key f_Lis_key fd_Lis_key
  g_Lis_key : mg "_law_is_key" = some (.ref f_Lis_key)
  bi_Lis_key : Binds K fd_Lis_key ["_law_thing"] []
  f_Lis_value : Addr
  fd_Lis_value : FuncData
  F_Lis_value : Fun K "_law_is_value" "_law_is_value" s_Lis_value f_Lis_value fd_Lis_value
  g_Lis_value : mg "_law_is_value" = some (.ref f_Lis_value)
  bi_Lis_value : Binds K fd_Lis_value ["_law_key_here", "_law_thing"] []
  f_Lright : Addr
  fd_Lright : FuncData
  F_Lright : Fun K "_law_right" "_law_right" s_Lright f_Lright fd_Lright
  g_Lright : mg "_law_right" = some (.ref f_Lright)
  bi_Lright : Binds K fd_Lright ["_law_spring_here"] []
  f_Lspring : Addr
  fd_Lspring : FuncData
  F_Lspring : Fun K "_law_spring" "_law_spring" s_Lspring f_Lspring fd_Lspring
  g_Lspring : mg "_law_spring" = some (.ref f_Lspring)
  bi_Lspring : Binds K fd_Lspring ["_law_script", "_law_turn"] []
  f_law : Addr
  fd_law : FuncData
  F_law : Fun K "law" "law" s_law f_law fd_law
  g_law : mg "law" = some (.ref f_law)
  bi_law : Binds K fd_law ["_law_script"] []
  kb_is_key_0_value : KBinds K fd_is_key ["value"] ["value"] gp_is_key_0_value gp_is_key_0_value
  kb_is_name_0_value : KBinds K fd_is_name ["value"] ["value"] gp_is_name_0_value gp_is_name_0_value
  kb_is_value_0_value_key : KBinds K fd_is_value ["key", "value"] ["value", "key"] gp_is_value_0_value_key gp_is_value_0_value_key
  b_abs : mg "abs" = none
  b_all : mg "all" = none
  b_bool : mg "bool" = none
  b_divmod : mg "divmod" = none
  b_enumerate : mg "enumerate" = none
  b_int : mg "int" = none
  b_isinstance : mg "isinstance" = none
  b_len : mg "len" = none
  b_list : mg "list" = none
  b_max : mg "max" = none
  b_min : mg "min" = none
  b_range : mg "range" = none
  b_repr : mg "repr" = none
  b_str : mg "str" = none
  b_tuple : mg "tuple" = none
  t_GREATEST : Tok
  c_GREATEST : mg "GREATEST" = some (.int 4294967295 t_GREATEST)
  t_GREATEST_UNIT : Tok
  c_GREATEST_UNIT : mg "GREATEST_UNIT" = some (.int 65535 t_GREATEST_UNIT)
  t_MOST_CELLS : Tok
  c_MOST_CELLS : mg "MOST_CELLS" = some (.int 256 t_MOST_CELLS)
  t_MOST_SIGNS : Tok
  c_MOST_SIGNS : mg "MOST_SIGNS" = some (.int 9 t_MOST_SIGNS)
  t_PIECES : Tok
  c_PIECES : mg "PIECES" = some (.int 16 t_PIECES)
  t_PIECE_CELLS : Tok
  c_PIECE_CELLS : mg "PIECE_CELLS" = some (.int 16 t_PIECE_CELLS)
  t_SIGNS : Tok
  c_SIGNS : mg "SIGNS" = some (.str "abcdefghijklmnopqrstuvwxyz0123456789.-" t_SIGNS)
abbrev Txt.cs {K : PySem.W.Frag} {mg : Str → Option Value} {base : Heap} (T : Txt K mg base) : Cds := [(T.C_is_name, T.P_is_name, q_is_name)]
section
variable {P : Program} {w : World} {K : PySem.W.Frag} {mg : Str → Option Value} {base : Heap}
def spo_Ldraw (K : PySem.W.Frag) (cs : Cds) : Sp := sp2 fun v m H Q => ∃ (W : Addr) (k : Nat), v = .ref W ∧ m = .int k ∧ Wl [] H W ∧ 0 < k ∧ k < 2 ^ 40 ∧ ∀ (r : Nat) (H' : Hp), r < k → Sx W H H' → Wl [] H' W → Q (.int r) H'
abbrev sp_Ldraw (K : PySem.W.Frag) (cs : Cds) : Sp := spo_Ldraw K cs
theorem ok_Ldraw (T : Txt K mg base) : FnOk P w K mg base (L2.CX P w) 1 T.f_Ldraw T.fd_Ldraw ["_law_spring_here", "_law_high"] (sp_Ldraw K T.cs) := by
  refine T.F_Ldraw.okX sc_Ldraw len2 (fun cdv A outer s H vs Q E hr h => ?_)
  obtain ⟨a0, a1, rfl, h⟩ := h
  refine ⟨_, (pss_cons (ps_if (pt_cmpR op_gt (pe_ix ix_list (pv 0) pe_int (fun _ _ => rfl)) pe_int (nomark _)) (pss_cons (ps_asg (pe_callB cv_divmod (by rfl) T.b_divmod (by decide +kernel) (pa_cons (pe_ix ix_list (pv 0) pe_int (fun _ _ => rfl)) (pa_cons (pv 1) pa_nil))) (pg_tup (by rfl) (pgs_cons (pg_sub (pv 0) pe_int set_list) (pgs_cons (pg_name (i := 2) sc_Ldraw.nd rfl (.inl rfl)) pgs_nil))))
      (pss_one (ps_ret (pv 2)))) pss_nil)
    (pss_cons (ps_asg (pe_op op_add (pe_ix ix_list (pv 0) pe_int (fun _ _ => rfl)) pe_int) (pg_sub (pv 0) pe_int set_list))
    (pss_cons (ps_set (i := 3) sc_Ldraw.nd rfl (.inl rfl) (pe_op op_modN (pe_callTy cv_int (by rfl) T.b_int (by decide +kernel) (pa_cons (pe_op op_add (pe_ix ix_list (pv 0) pe_int (fun _ _ => rfl)) (pe_op op_mul pe_int (pe_ix ix_list (pv 0) pe_int (fun _ _ => rfl)))) pa_nil)) pe_int))
    (pss_cons (ps_asg (pe_op op_modN (pe_callTy cv_int (by rfl) T.b_int (by decide +kernel) (pa_cons (pe_op op_add (pe_op op_mul (pv 3) (pe_op op_add (pe_op op_modN (pe_callTy cv_int (by rfl) T.b_int (by decide +kernel) (pa_cons (pv 3) pa_nil)) pe_int) pe_int)) (pe_op op_mul pe_int (pe_ix ix_list (pv 0) pe_int (fun _ _ => rfl)))) pa_nil)) pe_int) (pg_sub (pv 0) pe_int set_list))
    (pss_one (ps_ret (pe_op op_modN (pe_callTy cv_int (by rfl) T.b_int (by decide +kernel) (pa_cons (pe_op op_fdivN (pe_ix ix_list (pv 0) pe_int (fun _ _ => rfl)) pe_int) pa_nil)) (pv 1)))))))), ?_⟩
  rw [show L2.start N_Ldraw [a0, a1] = [some a0, some a1, none, none] from rfl]
  obtain ⟨W, k, rfl, rfl, ⟨a, b, c, hW⟩, hk, hk2, q⟩ := h
  walk_at "vv"
  refine v_ixL (sqL_of hW) rfl ?_
  walk_at "vv"
  refine v_ifd (fun c0 => ?_) (fun c0 => ?_)
  · walk_at "vv"
    refine v_ixL (sqL_of hW) rfl ?_
    walk_at "vv"
    refine v_div ⟨by omega, pylong hk2 (by decide) (by decide)⟩ (fun p hp => ?_)
    have hpW : W ≠ p := ne_of_none hW hp
    refine v_gtup (sqT_of upd_same) rfl ?_
    walk_at "vv"
    refine v_setL (by rw [upd_ne hpW]; exact hW) rfl ?_
    walk_at "vv"
    obtain ⟨n, hn⟩ := natOf (Int.emod_nonneg a (b := (k : Int)) (by omega))
    have hlt := Int.emod_lt_of_pos a (b := (k : Int)) (by omega)
    rw [hn] at hlt ⊢
    exact q n _ (by omega) ((Sx.new hp).trans Sx.mut) ⟨_, _, _, upd_same⟩
  · walk_at "vv"
    refine v_ixL (sqL_of hW) rfl ?_
    walk_at "vv"
    refine v_setL hW rfl ?_
    walk_at "vv"
    refine v_ixL (sqL_of upd_same) rfl ?_
    walk_at "vv"
    refine v_ixL (sqL_of upd_same) rfl ?_
    walk_at "vv"
    refine v_ixL (sqL_of upd_same) rfl ?_
    walk_at "vv"
    refine v_setL upd_same rfl ?_
    walk_at "vv"
    refine v_ixL (sqL_of upd_same) rfl ?_
    walk_at "vv"
    refine v_modN hk (fun r hr => ?_)
    exact q r _ hr (Sx.trans Sx.mut Sx.mut) ⟨_, _, _, upd_same⟩
def spo_Lpick (K : PySem.W.Frag) (cs : Cds) : Sp := sp2 fun v t H Q => ∃ W : Addr, v = .ref W ∧ Wl [] H W ∧ ((∃ (p : Addr) (xs : List V), t = .ref p ∧ SqT K H p xs ∧ 0 < xs.length ∧ xs.length < 1000 ∧ ∀ (x : V) (H' : Hp), x ∈ xs → Sx W H H' → Wl [] H' W → Q x H') ∨ (∃ z : PySem.Str, t = .str z ∧ 0 < z.length ∧ z.length < 1000 ∧ ∀ (c : Nat) (H' : Hp), c ∈ z.cps.toList → Sx W H H' → Wl [] H' W → Q (.str ⟨#[c]⟩) H'))
abbrev sp_Lpick (K : PySem.W.Frag) (cs : Cds) : Sp := spo_Lpick K cs
theorem ok_Lpick (T : Txt K mg base) : FnOk P w K mg base (L2.CX P w) 2 T.f_Lpick T.fd_Lpick ["_law_spring_here", "_law_some"] (sp_Lpick K T.cs) := by
  refine T.F_Lpick.okX sc_Lpick len2 (fun cdv A outer s H vs Q E hr h => ?_)
  obtain ⟨a0, a1, rfl, h⟩ := h
  refine ⟨_, (pss_one (ps_ret (pe_ix ix_seq (pv 1) (pe_call (ok_Ldraw T) (hr.mono (by decide)) (by rfl) T.g_Ldraw T.F_Ldraw.kp T.bi_Ldraw .nil (passes_call (E := E) (takes_of rfl rfl rfl rfl) (fun _ _ _ _ h => h)) (pa_cons (pv 0) (pa_cons (PE.or (pe_callB cv_len (by rfl) T.b_len PySem.boot_len (pa_cons (pv 1) pa_nil)) (pe_callB call_len_str (by rfl) T.b_len PySem.boot_len (pa_cons (pv 1) pa_nil))) pa_nil))) (fun _ _ => rfl)))), ?_⟩
  rw [show L2.start N_Lpick [a0, a1] = [some a0, some a1] from rfl]
  obtain ⟨W, rfl, hw, h⟩ := h
  rcases h with ⟨p, xs, rfl, hT, h0, h1, q⟩ | ⟨z, rfl, h0, h1, q⟩
  · walk_at "vv"
    refine .inl ?_
    walk_at "vv"
    refine v_lenT hT ?_
    walk_at "vv"
    refine c2 ⟨W, xs.length, rfl, rfl, hw, h0, by omega, fun r H1 hr s1 w1 => ?_⟩
    obtain ⟨x, hx, hat⟩ := atI_mem hr
    exact .inr (.inl (v_ixT (sqT_sx hT hw s1) hat (q x H1 hx s1 w1)))
  · walk_at "vv"
    refine .inr ?_
    walk_at "vv"
    refine ⟨z, rfl, Nat.le_trans (Nat.le_of_lt h1) (by decide), ?_⟩
    walk_at "vv"
    refine c2 ⟨W, z.length, rfl, rfl, hw, h0, by omega, fun r H1 hr s1 w1 => ?_⟩
    have hr' : r < z.cps.toList.length := by rw [Array.length_toList]; exact hr
    refine .inr (.inr ⟨z, r, z.cps.toList[r], rfl, rfl, Nat.le_trans (Nat.le_of_lt h1) (by decide), atI_nat (List.getElem?_eq_getElem hr'), ?_⟩)
    exact q _ H1 (List.getElem_mem hr') s1 w1
def spo_Lodd (K : PySem.W.Frag) (cs : Cds) : Sp := sp1 fun v H Q => ∃ W : Addr, v = .ref W ∧ Wl [] H W ∧ ∀ (x : V) (d : D) (H' : Hp), Is (Old H) H' x d → Bd 25 2 d → Sx W H H' → Wl [] H' W → Q x H'
abbrev sp_Lodd (K : PySem.W.Frag) (cs : Cds) : Sp := spo_Lodd K cs
theorem ok_Lodd (T : Txt K mg base) : FnOk P w K mg base (L2.CX P w) 3 T.f_Lodd T.fd_Lodd ["_law_spring_here"] (sp_Lodd K T.cs) := by
  refine T.F_Lodd.okX sc_Lodd len1 (fun cdv A outer s H vs Q E hr h => ?_)
  obtain ⟨a0, rfl, h⟩ := h
  refine ⟨_, (pss_one (ps_ret (pe_call (ok_Lpick T) (hr.mono (by decide)) (by rfl) T.g_Lpick T.F_Lpick.kp T.bi_Lpick .nil (passes_call (E := E) (takes_of rfl rfl rfl rfl) (fun _ _ _ _ h => h)) (pa_cons (pv 0) (pa_cons (pd_tup (pds_cons pd_non (pds_cons pd_bl (pds_cons pd_bl (pds_cons pd_int (pds_cons pd_int (pds_cons pd_neg (pds_cons pd_int (pds_cons pd_int (pds_cons pd_int (pds_cons pd_int (pds_cons pd_int (pds_cons pd_int (pds_cons (pd_pow (by decide) (by decide)) (pds_cons pd_str (pds_cons pd_str (pds_cons pd_str (pds_cons pd_str (pds_cons pd_str (pds_cons pd_str (pds_cons pd_str (pds_cons pd_str (pds_cons (pd_tup pds_nil (by decide)) (pds_cons (pd_tup (pds_cons pd_int pds_nil) (by decide)) (pds_cons (pd_tup (pds_cons pd_int pds_nil) (by decide)) (pds_cons (pd_tup (pds_cons pd_str pds_nil) (by decide)) (pds_cons (pd_tup (pds_cons pd_str pds_nil) (by decide)) (pds_cons (pd_tup (pds_cons pd_str (pds_cons pd_int pds_nil)) (by decide)) (pds_cons (pd_tup (pds_cons pd_str (pds_cons pd_int pds_nil)) (by decide)) (pds_cons (pd_tup (pds_cons pd_str (pds_cons pd_int (pds_cons pd_int pds_nil))) (by decide)) (pds_cons (pd_tup (pds_cons pd_str (pds_cons pd_int (pds_cons pd_str pds_nil))) (by decide)) (pds_cons (pd_tup (pds_cons pd_str (pds_cons pd_int (pds_cons pd_str pds_nil))) (by decide)) (pds_cons (pd_tup (pds_cons pd_str (pds_cons pd_neg (pds_cons pd_str pds_nil))) (by decide)) (pds_cons (pd_tup (pds_cons pd_str (pds_cons pd_int (pds_cons pd_int pds_nil))) (by decide)) (pds_cons (pd_tup (pds_cons pd_str (pds_cons pd_int (pds_cons pd_int pds_nil))) (by decide)) (pds_cons (pd_tup (pds_cons pd_str (pds_cons pd_int (pds_cons pd_int pds_nil))) (by decide)) (pds_cons (pd_tup (pds_cons pd_str (pds_cons pd_int pds_nil)) (by decide)) (pds_cons (pd_tup (pds_cons pd_str (pds_cons pd_int pds_nil)) (by decide)) (pds_cons (pd_tup (pds_cons pd_str (pds_cons pd_int pds_nil)) (by decide)) (pds_cons (pd_tup (pds_cons pd_str (pds_cons pd_int pds_nil)) (by decide)) (pds_cons (pd_tup (pds_cons pd_str (pds_cons pd_bl pds_nil)) (by decide)) (pds_cons (pd_lst pds_nil (by decide)) (pds_cons (pd_lst (pds_cons pd_int pds_nil) (by decide)) (pds_cons (pd_lst (pds_cons pd_str (pds_cons pd_int pds_nil)) (by decide)) (pds_cons pd_dic (pds_cons (pd_tup (pds_cons pd_bl pds_nil) (by decide)) (pds_cons (pd_tup (pds_cons pd_int pds_nil) (by decide)) (pds_cons (pd_rep (k := 16) (pd_tup (pds_cons pd_int pds_nil) (by decide)) pe_int (by decide) (by decide)) (pds_cons (pd_rep (k := 17) (pd_tup (pds_cons pd_int pds_nil) (by decide)) pe_int (by decide) (by decide)) (pds_cons (pd_tup (pds_cons (pd_tup pds_nil (by decide)) pds_nil) (by decide)) (pds_cons (pd_tup (pds_cons pd_str (pds_cons pd_int pds_nil)) (by decide)) (pds_cons (pd_tup (pds_cons pd_non (pds_cons pd_int pds_nil)) (by decide)) (pds_cons (pd_tup (pds_cons pd_str (pds_cons pd_int pds_nil)) (by decide)) pds_nil)))))))))))))))))))))))))))))))))))))))))))))))))))) (by decide)) pa_nil))))), ?_⟩
  rw [show L2.start N_Lodd [a0] = [some a0] from rfl]
  obtain ⟨W, rfl, hw, q⟩ := h
  walk_at "vv"
  refine v_D fun v H1 s1 i1 => ?_
  cases i1 with
  | tup e n i =>
    walk_at "vv"
    refine c2 ⟨W, rfl, hw.of s1, .inl ⟨_, _, rfl, sqT_of e, by rw [i.len]; decide, by rw [i.len]; decide, fun x H2 hx s2 w2 => ?_⟩⟩
    obtain ⟨d, hd, ix⟩ := i.mem hx
    exact q x d H2 (ix.sx hw s2) (all_of (P := Bd 25 2) (by decide +kernel) d hd) ((Sx.of s1).trans s2) w2
def spo_Lbent (K : PySem.W.Frag) (cs : Cds) (n : Nat) : Sp := sp2 fun v t H Q => ∃ (M : Addr → Prop) (W : Addr) (d : D) (m k : Nat), v = .ref W ∧ M W ∧ M (tP cs) ∧ (∀ b, M b → Old H b) ∧ Wl [] H W ∧ Is M H t d ∧ Bd m k d ∧ k < n ∧ m ≤ 1000 ∧ ∀ (x : V) (d' : D) (H' : Hp), Is M H' x d' → Bd (2 * m + 60) (k + 3) d' → Sx W H H' → Wl [] H' W → Q x H'
abbrev sp_Lbent (K : PySem.W.Frag) (cs : Cds) (n : Nat) : Sp := spo_Lbent K cs n
theorem ok_Lbent (T : Txt K mg base) : ∀ n : Nat, FnOk P w K mg base (L2.CX P w) (4 + n) T.f_Lbent T.fd_Lbent ["_law_spring_here", "_law_thing"] (sp_Lbent K T.cs n) := by
  intro n
  induction n with
  | zero => exact fn_none len2 (fun _ _ _ _ h => absurd h (by rintro ⟨_, _, _, _, _, _, _, _, _, _, _, _, _, _, _, h, _⟩; exact Nat.not_lt_zero _ h))
  | succ n ih =>
  refine T.F_Lbent.okX (k := 4 + n) sc_Lbent len2 (fun cdv A outer s H vs Q E hr h => ?_)
  obtain ⟨a0, a1, rfl, h⟩ := h
  refine ⟨_, (pss_cons (ps_if (PW.pt (pw_and (pt_val (pe_callB call_isi (by rfl) T.b_isinstance (by decide +kernel) (pa_cons (pv 1) (pa_cons (pe_bltn (v := .ty "tuple") (by rfl) T.b_tuple (by decide +kernel) rfl) pa_nil)))) (pw_and (pt_cmpR (op_neE hr.units) (pv 1) (pe_tup pa_nil) (nomark _)) (pw_and1 (pt_cmpR op_gt (pe_call (ok_Ldraw T) (hr.mono (by omega)) (by rfl) T.g_Ldraw T.F_Ldraw.kp T.bi_Ldraw .nil (passes_call (E := E) (takes_of rfl rfl rfl rfl) (fun _ _ _ _ h => h)) (pa_cons (pv 0) (pa_cons pe_int pa_nil))) pe_int (nomark _)))))) (pss_cons (ps_set (i := 2) sc_Lbent.nd rfl (.inl rfl) (pe_call (ok_Ldraw T) (hr.mono (by omega)) (by rfl) T.g_Ldraw T.F_Ldraw.kp T.bi_Ldraw .nil (passes_call (E := E) (takes_of rfl rfl rfl rfl) (fun _ _ _ _ h => h)) (pa_cons (pv 0) (pa_cons (pe_callB cv_len (by rfl) T.b_len PySem.boot_len (pa_cons (pv 1) pa_nil)) pa_nil))))
      (pss_one (ps_ret (pe_op op_catA (pe_op op_catA (pe_slice sl_tupA (pv 1) po_none (po_some (pv 2))) (pe_tup (pa_cons (pe_call ih (hr.mono (by omega)) (by rfl) T.g_Lbent T.F_Lbent.kp T.bi_Lbent .nil (passes_call (E := E) (takes_of rfl rfl rfl rfl) (fun _ _ _ _ h => h)) (pa_cons (pv 0) (pa_cons (pe_ix ix_tup (pv 1) (pv 2) (fun _ _ => rfl)) pa_nil))) pa_nil))) (pe_slice sl_tupA (pv 1) (po_some (pe_op op_add (pv 2) pe_int)) po_none))))) pss_nil)
    (pss_cons (ps_set (i := 3) sc_Lbent.nd rfl (.inl rfl) (pe_call (ok_Ldraw T) (hr.mono (by omega)) (by rfl) T.g_Ldraw T.F_Ldraw.kp T.bi_Ldraw .nil (passes_call (E := E) (takes_of rfl rfl rfl rfl) (fun _ _ _ _ h => h)) (pa_cons (pv 0) (pa_cons pe_int pa_nil))))
    (pss_cons (ps_if (PW.pt (pw_and (pt_val (pe_callB call_isi (by rfl) T.b_isinstance (by decide +kernel) (pa_cons (pv 1) (pa_cons (pe_bltn (v := .ty "tuple") (by rfl) T.b_tuple (by decide +kernel) rfl) pa_nil)))) (pw_and1 (pt_cmpR op_lt (pv 3) pe_int (nomark _))))) (pss_one (ps_ret (pe_ix ix_tup (pe_tup (pa_cons (pe_callTy cv_list (by rfl) T.b_list (by decide +kernel) (pa_cons (pv 1) pa_nil)) (pa_cons (pe_slice sl_tupA (pv 1) po_none (po_some (pe_un un_neg pe_int))) (pa_cons (pe_op op_catA (pv 1) (pe_slice sl_tupA (pv 1) (po_some (pe_un un_neg pe_int)) po_none)) (pa_cons (pe_back (pv 1)) (pa_cons (PE.or (pe_slice sl_tupA (pv 1) (po_some pe_int) po_none) (pe_slice sl_str (pv 1) (po_some pe_int) po_none)) (pa_cons (pe_op op_catA (pv 1) (pe_tup (pa_cons pe_int pa_nil))) pa_nil))))))) (pv 3) (fun _ _ => rfl)))) pss_nil)
    (pss_cons (ps_if (PW.pt (pw_and (pt_val (pe_callB call_isi (by rfl) T.b_isinstance (by decide +kernel) (pa_cons (pv 1) (pa_cons (pe_bltn (v := .ty "str") (by rfl) T.b_str (by decide +kernel) rfl) pa_nil)))) (pw_and1 (pt_cmpR op_lt (pv 3) pe_int (nomark _))))) (pss_cons (ps_set (i := 4) sc_Lbent.nd rfl (.inl rfl) (pe_call (ok_Lpick T) (hr.mono (by omega)) (by rfl) T.g_Lpick T.F_Lpick.kp T.bi_Lpick .nil (passes_call (E := E) (takes_of rfl rfl rfl rfl) (fun _ _ _ _ h => h)) (pa_cons (pv 0) (pa_cons pe_str pa_nil))))
      (pss_one (ps_ret (pe_ix ix_tup (pe_tup (pa_cons (pe_op op_add_str (pv 1) (pv 4)) (pa_cons (pe_op op_add_str (pv 4) (pv 1)) (pa_cons (PE.or (pe_slice sl_tupA (pv 1) (po_some pe_int) po_none) (pe_slice sl_str (pv 1) (po_some pe_int) po_none)) (pa_cons (pe_up (pv 1)) (pa_cons (pe_op op_add_str (pv 1) (pv 1)) (pa_cons (pe_back (pv 1)) pa_nil))))))) (pv 3) (fun _ _ => rfl))))) pss_nil)
    (pss_cons (ps_if (PW.pt (pw_and (pt_val (pe_callB call_isi (by rfl) T.b_isinstance (by decide +kernel) (pa_cons (pv 1) (pa_cons (pe_bltn (v := .ty "int") (by rfl) T.b_int (by decide +kernel) rfl) pa_nil)))) (pw_and1 (pt_cmpR op_lt (pv 3) pe_int (nomark _))))) (pss_one (ps_ret (pe_ix ix_tup (pe_tup (pa_cons (pe_op op_addNb (pv 1) pe_int) (pa_cons (pe_op op_subIb pe_int (pv 1)) (pa_cons (pe_op op_subNb (pv 1) pe_int) (pa_cons (pe_cmpR (op_eqD hr.units) (pv 1) pe_int (nomark _)) (pa_cons pe_non pa_nil)))))) (pv 3) (fun _ _ => rfl)))) pss_nil)
    (pss_one (ps_ret (pe_call (ok_Lodd T) (hr.mono (by omega)) (by rfl) T.g_Lodd T.F_Lodd.kp T.bi_Lodd .nil (passes_call (E := E) (takes_of rfl rfl rfl rfl) (fun _ _ _ _ h => h)) (pa_cons (pv 0) pa_nil))))))))), ?_⟩
  rw [show L2.start N_Lbent [a0, a1] = [some a0, some a1, none, none, none] from rfl]
  obtain ⟨M, W, d, m, k, rfl, mW, mP, mo, hw, hi, hb, hk, hm, q⟩ := h
  have mo1 : ∀ {H1 : Hp}, Sx W H H1 → Wl [] H1 W → ∀ b, M b → Old H1 b := fun s w b hb => old_sx s w b (mo b hb)
  have fin : ∀ {p : Addr} {H1 : Hp} {L mm kk : Nat}, TupB M H1 p L mm kk → L ≤ 2 * m + 60 → mm ≤ 2 * m + 60 → kk ≤ k + 2 → ∃ d', Is M H1 (.ref p) d' ∧ Bd (2 * m + 60) (k + 3) d' := fun t l a b => t.is l a b
  refine seq_rest (fun H1 => Sx W H H1 ∧ Wl [] H1 W) (fun H1 hR => ?_) (fun N hN => ?_)
  case refine_2 =>
    walk_at "vv"
    refine d_isTup hi ?_
    walk_at "vv"
    refine v_ifb (fun c => ?_) (fun c => hN H ⟨Sx.refl, hw⟩)
    obtain ⟨ds, rfl⟩ : ∃ ds, d = .tup ds := by cases d <;> simp_all [D.isTup]
    cases id hi with
    | tup e nM hs =>
    rename_i a xs
    have lx := hs.len
    have hbt := hb.of_tup
    walk_at "vv"
    refine a_tup (by simp) fun p1 H1 hp1 s1 e1 => ?_
    refine ⟨_, _, _, rfl, rfl, sqT_of (s1 _ _ e), sqT_of e1, ?_⟩
    refine ⟨_, rfl, ?_⟩
    by_cases hx : xs = []
    · rw [decide_eq_true hx, Bool.not_true]
      walk_at "vv"
      exact hN H1 ⟨Sx.of s1, hw.of s1⟩
    rw [decide_eq_false hx, Bool.not_false]
    have hpos : 0 < xs.length := List.length_pos_iff.mpr hx
    walk_at "vv"
    refine c2 ⟨W, 4, rfl, rfl, hw.of s1, by decide, by decide, fun r H2 hr2 s2 w2 => ?_⟩
    walk_at "vv"
    have sx2 : Sx W H H2 := (Sx.of s1).trans s2
    refine v_ifd (fun c2' => ?_) (fun c2' => hN H2 ⟨sx2, w2⟩)
    walk_at "vv"
    have nW : a ≠ W := fun z => nM (z ▸ mW)
    have e2 : H2 a = some (.tup xs) := sx2 _ _ nW e
    refine v_lenT (sqT_of e2) ?_
    walk_at "vv"
    refine c2 ⟨W, xs.length, rfl, rfl, w2, hpos, by omega, fun sp H3 hsp s3 w3 => ?_⟩
    walk_at "vv"
    have tb : TupB M H a ds.length m (k - 1) := ⟨xs, ds, e, nM, hs, Nat.le_refl _, hbt.2.2⟩
    have sx3 := sx2.trans s3
    refine tb_sl (mo1 sx3 w3) (tb.sx mW sx3) fun p4 H4 s4 t4 => ?_
    walk_at "vv"
    have w4 := w3.of s4
    have sx4 := sx3.trans (Sx.of s4)
    refine v_ixT (sqT_of (sx4 _ _ nW e)) (atI_nat (List.getElem?_eq_getElem hsp)) ?_
    walk_at "vv"
    obtain ⟨dx, hd, ix⟩ := hs.get (List.getElem?_eq_getElem hsp)
    refine c2 ⟨M, W, dx, m, k - 1, rfl, mW, mP, mo1 sx4 w4, w4, ix.sxM mW sx4, hbt.2.2 dx (List.mem_of_getElem? hd), by omega, hm, fun y dy H5 iy by5 s5 w5 => ?_⟩
    walk_at "vv"
    refine a_tup (by simp) fun p6 H6 hp6 s6 e6 => ?_
    have sx5 := sx4.trans s5
    have sx6 := sx5.trans (Sx.of s6)
    have w6 := w5.of s6
    have t6 : TupB M H6 p6 1 (2 * m + 60) (k - 1 + 3) := TupB.new (es := [dy]) (mo1 sx5 w5) hp6 e6 (.cons (iy.same s6) .nil) (by simp) (fun e he => by rw [List.mem_singleton.mp he]; exact by5)
    refine tb_cat (mo1 sx6 w6) ((t4.sx mW (s5.trans (Sx.of s6))).mono (Nat.le_refl _) (by omega) (by omega)) t6 (by omega) fun p7 H7 s7 t7 => ?_
    walk_at "vv"
    have sx7 := sx6.trans (Sx.of s7)
    have w7 := w6.of s7
    refine tb_sl (mo1 sx7 w7) (tb.sx mW sx7) fun p8 H8 s8 t8 => ?_
    have sx8 := sx7.trans (Sx.of s8)
    have w8 := w7.of s8
    refine tb_cat (mo1 sx8 w8) (t7.same s8) (t8.mono (Nat.le_refl _) (by omega) (by omega)) (by omega) fun p9 H9 s9 t9 => ?_
    obtain ⟨d', i', b'⟩ := fin t9 (by omega) (Nat.le_refl _) (by omega)
    exact q _ d' _ i' b' (sx8.trans (Sx.of s9)) (w8.of s9)
  obtain ⟨s1, w1⟩ := hR
  refine seq_restS (fun σ1 H2 => ∃ r : Nat, σ1 = [some (.ref W), some a1, none, some (.int r), none] ∧ Sx W H H2 ∧ Wl [] H2 W) (fun σ1 H2 hR => ?_) (fun N hN => ?_)
  case refine_2 =>
    walk_at "vv"
    refine c2 ⟨W, 8, rfl, rfl, w1, by decide, by decide, fun r H2 hr2 s2 w2 => ?_⟩
    walk_at "vv"
    exact hN _ _ ⟨r, rfl, s1.trans s2, w2⟩
  obtain ⟨r, rfl, s2, w2⟩ := hR
  have pick : ∀ {xs : List V} {p : Addr} {H3 : Hp} {c : Nat}, H3 p = some (.tup xs) → r < c → xs.length = c → Sx W H H3 → Wl [] H3 W → (∀ x ∈ xs, ∃ d', Is M H3 x d' ∧ Bd (2 * m + 60) (k + 3) d') → rIxT K (.ref p) (.int r) H3 Q := fun e hr hl s w f => by
    obtain ⟨x, hx, hat⟩ := atI_mem (show r < _ from by rw [hl]; exact hr)
    obtain ⟨d', i', b'⟩ := f x hx
    exact v_ixT (sqT_of e) hat (q x d' _ i' b' s w)
  refine seq_rest (fun H1 => Sx W H H1 ∧ Wl [] H1 W) (fun H3 hR => ?_) (fun N hN => ?_)
  case refine_2 =>
    walk_at "vv"
    refine d_isTup (hi.sxM mW s2) ?_
    walk_at "vv"
    refine v_ifb (fun c => ?_) (fun c => hN _ ⟨s2, w2⟩)
    obtain ⟨ds, rfl⟩ : ∃ ds, d = .tup ds := by cases d <;> simp_all [D.isTup]
    cases id hi with
    | tup e nM hs =>
    rename_i a xs
    have lx := hs.len
    have hbt := hb.of_tup
    have nW : a ≠ W := fun z => nM (z ▸ mW)
    have tb : TupB M H a ds.length m (k - 1) := ⟨xs, ds, e, nM, hs, Nat.le_refl _, hbt.2.2⟩
    walk_at "vv"
    refine v_ifd (fun c => ?_) (fun c => hN _ ⟨s2, w2⟩)
    walk_at "vv"
    refine v_listT (sqT_of (s2 _ _ nW e)) fun l hl => ?_
    have q3 := same_new (o := .lst xs) hl
    have e3 : (upd H2 l (.lst xs)) l = some (.lst xs) := upd_same
    generalize upd H2 l (.lst xs) = H3 at q3 e3 ⊢
    have nl : ¬ M l := fun z => mo1 s2 w2 l z hl
    have s3 := s2.trans (Sx.of q3)
    have w3 := w2.of q3
    walk_at "vv"
    refine tb_sl (mo1 s3 w3) (tb.sx mW s3) fun p4 H4 q4 t4 => ?_
    have s4 := s3.trans (Sx.of q4)
    have w4 := w3.of q4
    walk_at "vv"
    refine tb_sl (mo1 s4 w4) (tb.sx mW s4) fun p5 H5 q5 t5 => ?_
    have s5 := s4.trans (Sx.of q5)
    have w5 := w4.of q5
    walk_at "vv"
    refine tb_cat (mo1 s5 w5) (tb.sx mW s5) t5 (by omega) fun p6 H6 q6 t6 => ?_
    have s6 := s5.trans (Sx.of q6)
    have w6 := w5.of q6
    walk_at "vv"
    refine tb_back (fun Q' h => ⟨_, rfl, h⟩) (mo1 s6 w6) (tb.sx mW s6) fun p7 H7 q7 t7 => ?_
    have s7 := s6.trans (Sx.of q7)
    have w7 := w6.of q7
    walk_at "vv"
    refine .inl ?_
    walk_at "vv"
    refine tb_sl (mo1 s7 w7) (tb.sx mW s7) fun p8 H8 q8 t8 => ?_
    have s8 := s7.trans (Sx.of q8)
    have w8 := w7.of q8
    walk_at "vv"
    refine a_tup (by simp) fun p9 H9 hp9 q9 e9 => ?_
    have s9 := s8.trans (Sx.of q9)
    have w9 := w8.of q9
    have t9 : TupB M H9 p9 1 m (k - 1) := TupB.new (es := [.int 0]) (mo1 s8 w8) hp9 e9 (.cons (.int 0) .nil) (by simp) (fun e he => by rw [List.mem_singleton.mp he]; exact Bd.int 0)
    refine tb_cat (mo1 s9 w9) (tb.sx mW s9) t9 (by omega) fun pa Ha qa ta => ?_
    have sa := s9.trans (Sx.of qa)
    have wa := w9.of qa
    walk_at "vv"
    refine a_tup (by simp) fun pb Hb hpb qb eb => ?_
    walk_at "vv"
    refine pick (c := 6) eb (by omega) rfl (sa.trans (Sx.of qb)) (wa.of qb) fun x hx => ?_
    simp only [List.mem_cons, List.not_mem_nil, or_false] at hx
    rcases hx with rfl | rfl | rfl | rfl | rfl | rfl
    · refine ⟨.lst ds, .lst (qb _ _ (qa _ _ (q9 _ _ (q8 _ _ (q7 _ _ (q6 _ _ (q5 _ _ (q4 _ _ e3)))))))) nl (hs.sxM mW (sa.trans (Sx.of qb))), ?_⟩
      exact (Bd.lst (n := k - 1) (by omega) hbt.2.2 : Bd m (k - 1 + 1) (.lst ds)).mono (by omega) (by omega)
    · exact fin (t4.sx mW (((Sx.of q5).trans ((Sx.of q6).trans ((Sx.of q7).trans ((Sx.of q8).trans ((Sx.of q9).trans ((Sx.of qa).trans (Sx.of qb)))))))) ) (by omega) (by omega) (by omega)
    · exact fin (t6.sx mW ((Sx.of q7).trans ((Sx.of q8).trans ((Sx.of q9).trans ((Sx.of qa).trans (Sx.of qb)))))) (by omega) (by omega) (by omega)
    · exact fin (t7.sx mW ((Sx.of q8).trans ((Sx.of q9).trans ((Sx.of qa).trans (Sx.of qb))))) (by omega) (by omega) (by omega)
    · exact fin (t8.sx mW ((Sx.of q9).trans ((Sx.of qa).trans (Sx.of qb)))) (by omega) (by omega) (by omega)
    · exact fin (ta.sx mW (Sx.of qb)) (by omega) (by omega) (by omega)
  clear s2 w2
  obtain ⟨s2, w2⟩ := hR
  refine seq_rest (fun H1 => Sx W H H1 ∧ Wl [] H1 W) (fun H4 hR => ?_) (fun N hN => ?_)
  case refine_2 =>
    walk_at "vv"
    refine d_isStr (hi.sxM mW s2) ?_
    walk_at "vv"
    refine v_ifb (fun c => ?_) (fun c => hN _ ⟨s2, w2⟩)
    obtain ⟨z, rfl⟩ : ∃ z, d = .str z := by cases d <;> simp_all [D.isStr]
    cases hi
    have hz := bs_of hb
    have hz1 : z.length ≤ 1000 := Nat.le_trans hz.1 hm
    walk_at "vv"
    refine v_ifd (fun c => ?_) (fun c => hN _ ⟨s2, w2⟩)
    walk_at "vv"
    refine c2 ⟨W, rfl, w2, .inr ⟨_, rfl, by decide +kernel, by decide +kernel, fun x H4 hx s4 w4 => ?_⟩⟩
    have hc : x < 128 := all_of (P := fun c : Nat => c < 128) (xs := (Str.ofString " !_/AZ,:;a9.-`{0@&*").cps.toList) (by decide +kernel) x hx
    have hs1 : (⟨#[x]⟩ : PySem.Str).length ≤ 1 ∧ ∀ c ∈ (⟨#[x]⟩ : PySem.Str).cps.toList, c < 128 := ⟨Nat.le_refl _, fun c h => by rw [show c = x by simpa using h]; exact hc⟩
    walk_at "vv"
    refine ⟨z, ⟨#[x]⟩, rfl, rfl, Nat.le_trans (show z.length + 1 ≤ 2000 by omega) (by decide), ?_⟩
    walk_at "vv"
    refine ⟨⟨#[x]⟩, z, rfl, rfl, Nat.le_trans (show 1 + z.length ≤ 2000 by omega) (by decide), ?_⟩
    walk_at "vv"
    refine .inr ?_
    walk_at "vv"
    refine ⟨z, rfl, Nat.le_trans hz1 (by decide), ?_⟩
    walk_at "vv"
    refine ⟨_, rfl, z, rfl, Nat.le_trans hz1 (by decide), ?_⟩
    walk_at "vv"
    refine ⟨z, z, rfl, rfl, Nat.le_trans (show z.length + z.length ≤ 2000 by omega) (by decide), ?_⟩
    walk_at "vv"
    refine ⟨_, rfl, .inr ⟨z, rfl, Nat.le_trans rev_len (Nat.le_trans hz1 (by decide)), ?_⟩⟩
    walk_at "vv"
    refine a_tup (by simp) fun pb Hb hpb qb eb => ?_
    walk_at "vv"
    refine pick (c := 6) eb (by omega) rfl ((s2.trans s4).trans (Sx.of qb)) (w4.of qb) fun y hy => ?_
    simp only [List.mem_cons, List.not_mem_nil, or_false] at hy
    rcases hy with rfl | rfl | rfl | rfl | rfl | rfl
    · exact ⟨_, .str _, bs_app hz hs1 (by omega)⟩
    · exact ⟨_, .str _, bs_app hs1 hz (by omega)⟩
    · exact ⟨_, .str _, bs_cut hz (by omega)⟩
    · exact ⟨_, .str _, bs_up hz (by omega)⟩
    · exact ⟨_, .str _, bs_app hz hz (by omega)⟩
    · exact ⟨_, .str _, bs_rev hz (by omega)⟩
  clear s2 w2
  obtain ⟨s2, w2⟩ := hR
  refine seq_rest (fun H1 => Sx W H H1 ∧ Wl [] H1 W) (fun H5 hR => ?_) (fun N hN => ?_)
  case refine_2 =>
    walk_at "vv"
    have hi2 := hi.sxM mW s2
    refine d_isInt hi2 ?_
    walk_at "vv"
    refine v_ifb (fun c => ?_) (fun c => hN _ ⟨s2, w2⟩)
    obtain ⟨j, hj⟩ : ∃ j, nb a1 = some j := by cases hi <;> first | exact ⟨_, rfl⟩ | simp_all [D.isInt]
    have hd : d.nod = true := by cases d <;> simp_all [D.isInt, D.nod]
    walk_at "vv"
    refine v_ifd (fun c => ?_) (fun c => hN _ ⟨s2, w2⟩)
    walk_at "vv"
    refine ⟨j, 1, hj, rfl, ?_⟩
    walk_at "vv"
    refine ⟨0, j, rfl, hj, ?_⟩
    walk_at "vv"
    refine ⟨j, 1, hj, rfl, ?_⟩
    walk_at "vv"
    refine ⟨d.toP, (D.int 1).toP, Is.dp d _ hd hi2, Is.dp (M := M) (.int 1) _ rfl (.int 1), by cases d <;> first | rfl | simp_all [D.isInt], rfl, ?_⟩
    walk_at "vv"
    refine a_tup (by simp) fun pb Hb hpb qb eb => ?_
    walk_at "vv"
    refine pick (c := 5) eb (by omega) rfl (s2.trans (Sx.of qb)) (w2.of qb) fun y hy => ?_
    simp only [List.mem_cons, List.not_mem_nil, or_false] at hy
    rcases hy with rfl | rfl | rfl | rfl | rfl
    · exact ⟨_, .int _, Bd.int _⟩
    · exact ⟨_, .int _, Bd.int _⟩
    · exact ⟨_, .int _, Bd.int _⟩
    · exact ⟨_, .bl _, Bd.bl _⟩
    · exact ⟨_, .non, Bd.non⟩
  clear s2 w2
  obtain ⟨s2, w2⟩ := hR
  walk_at "vv"
  exact c1 ⟨W, rfl, w2, fun x d' H3 ix bx s3 w3 => q x d' H3 (ix.weak (mo1 s2 w2)) (bx.mono (by omega) (by omega)) (s2.trans s3) w3⟩
def spo_Lthings (K : PySem.W.Frag) (cs : Cds) : Sp := sp2 fun v t H Q => ∃ (M : Addr → Prop) (W : Addr) (d : D), v = .ref W ∧ M W ∧ M (tP cs) ∧ (∀ b, M b → Old H b) ∧ Wl [] H W ∧ Is M H t d ∧ Bd 16 1 d ∧ ∀ (l : Addr) (xs : List V) (es : List D) (H' : Hp), H' l = some (.lst xs) → ¬ M l → IsAll M H' xs es → xs.length = 5 → (∀ e ∈ es, e.mx ≤ 1000) → Sx W H H' → Wl [] H' W → Q (.ref l) H'
abbrev sp_Lthings (K : PySem.W.Frag) (cs : Cds) : Sp := spo_Lthings K cs
theorem ok_Lthings (T : Txt K mg base) : FnOk P w K mg base (L2.CX P w) 19 T.f_Lthings T.fd_Lthings ["_law_spring_here", "_law_thing"] (sp_Lthings K T.cs) := by
  refine T.F_Lthings.okX sc_Lthings len2 (fun cdv A outer s H vs Q E hr h => ?_)
  obtain ⟨a0, a1, rfl, h⟩ := h
  refine ⟨_, (pss_cons (ps_set (i := 2) sc_Lthings.nd rfl (.inl rfl) (pe_lst (pa_cons (pv 1) (pa_cons (pe_call (ok_Lodd T) (hr.mono (by decide)) (by rfl) T.g_Lodd T.F_Lodd.kp T.bi_Lodd .nil (passes_call (E := E) (takes_of rfl rfl rfl rfl) (fun _ _ _ _ h => h)) (pa_cons (pv 0) pa_nil)) pa_nil))))
    (pss_cons (ps_for (passes_of rfl) rfl (pi_range1 rfl T.b_range (pa_cons pe_int pa_nil)) (pg_name (i := 3) sc_Lthings.nd rfl (.inl rfl))
      (pss_cons (ps_set (i := 1) sc_Lthings.nd rfl (.inl rfl) (pe_call (ok_Lbent T 14) (hr.mono (by decide)) (by rfl) T.g_Lbent T.F_Lbent.kp T.bi_Lbent .nil (passes_call (E := E) (takes_of rfl rfl rfl rfl) (fun _ _ _ _ h => h)) (pa_cons (pv 0) (pa_cons (pv 1) pa_nil))))
      (pss_one (ps_expr (pe_bm PySem.F.plainAttrs_list PySem.F.slot_list_append PySem.F.type_list_append mt_append (pv 2) (pa_cons (pv 1) pa_nil))))))
    (pss_one (ps_ret (pv 2))))), ?_⟩
  rw [show L2.start N_Lthings [a0, a1] = [some a0, some a1, none, none] from rfl]
  obtain ⟨M, W, d, rfl, mW, mP, mo, hw, hi, hb, q⟩ := h
  walk_at "vv"
  refine c1 ⟨W, rfl, hw, fun x0 d0 H1 ix0 b0 s1 w1 => ?_⟩
  walk_at "vv"
  refine a_lst (by simp) fun T0 H2 hT s2 e2 => ?_
  have sx2 : Sx W H H2 := s1.trans (Sx.of s2)
  have w2 := w1.of s2
  have nT : H T0 = none := s1.free hT (w1.ne hT)
  have nM : ¬ M T0 := fun z => mo T0 z nT
  have nW : T0 ≠ W := w1.ne hT
  walk_at "vv"
  refine ⟨3, rfl, by decide, by decide, ?_⟩
  refine for_range (lo := 0) (n := 3) (fun i σ H' => ∃ (x : V) (d : D) (y : Option V) (xs : List V) (es : List D), σ = [some (.ref W), some x, some (.ref T0), y] ∧ Is (fun b => M b ∨ b = T0) H' x d ∧ Bd (fB i) (1 + 3 * i) d ∧ H' T0 = some (.lst xs) ∧ IsAll (fun b => M b ∨ b = T0) H' xs es ∧ xs.length = 2 + i ∧ (∀ e ∈ es, e.mx ≤ 1000) ∧ Sx W H H' ∧ Wl [] H' W)
    ⟨_, d, none, _, [d, d0], rfl, ?_, hb, e2, .cons ?_ (.cons ?_ .nil), rfl, ?_, sx2, w2⟩ ?_ ?_
  · exact Is.to (fun b o n e => ⟨sx2 b o (fun z => n (z ▸ mW)) e, fun z => z.elim n fun z => by rw [z, nT] at e; cases e⟩) d _ hi
  · exact Is.to (fun b o n e => ⟨sx2 b o (fun z => n (z ▸ mW)) e, fun z => z.elim n fun z => by rw [z, nT] at e; cases e⟩) d _ hi
  · exact Is.to (fun b o n e => ⟨s2 b o e, fun z => z.elim (fun z => n (mo b z)) fun z => by rw [z, hT] at e; cases e⟩) d0 _ ix0
  · intro e he
    simp only [List.mem_cons, List.not_mem_nil, or_false] at he
    rcases he with rfl | rfl
    · exact Nat.le_trans hb.1 (by decide)
    · exact Nat.le_trans b0.1 (by decide)
  · rintro i σ H3 hi3 ⟨x, d3, y, xs, es, rfl, ix, bx, e3, il, hl, hm, s3, w3⟩
    have f1 : fB i ≤ 244 := fB_le hi3
    walk_at "vv"
    refine c2 ⟨fun b => M b ∨ b = T0, W, d3, fB i, 1 + 3 * i, rfl, .inl mW, .inl mP, fun b hb => hb.elim (fun z => old_sx s3 w3 b (mo b z)) (fun z => by rw [z]; exact fun q => by rw [e3] at q; cases q), w3, ix, bx, by omega, by omega, fun x4 d4 H4 ix4 b4 s4 w4 => ?_⟩
    walk_at "vv"
    have e4 := s4 _ _ nW e3
    refine ⟨tyL e4, ?_⟩
    walk_at "vv"
    refine v_append e4 (by omega) ?_
    have fr : Fr (fun b => M b ∨ b = T0) H4 (upd H4 T0 (.lst (xs ++ [x4]))) := fun b o n e => by rw [upd_ne (fun z => n (.inr z))]; exact e
    refine ⟨x4, d4, _, xs ++ [x4], es ++ [d4], rfl, ix4.fr fr, b4.mono (Nat.le_refl _) (by omega), upd_same, ((il.sxM (W := W) (.inl mW) s4).app (.cons ix4 .nil)).fr fr, by rw [List.length_append, hl]; rfl, ?_, (s3.trans s4).own nT, ?_⟩
    · intro e he
      rcases List.mem_append.mp he with h | h
      · exact hm e h
      · rw [List.mem_singleton.mp h]; exact Nat.le_trans b4.1 (by omega)
    · obtain ⟨x, y, z, ew⟩ := w4
      exact ⟨x, y, z, by rw [upd_ne nW.symm]; exact ew⟩
  · rintro σ H3 ⟨x, d3, y, xs, es, rfl, ix, bx, e3, il, hl, hm, s3, w3⟩
    dsimp only
    walk_at "vv"
    exact q T0 xs es H3 e3 nM (il.weak fun b z => .inl z) hl hm s3 w3
def spo_Lgreat (K : PySem.W.Frag) (cs : Cds) : Sp := sp2 fun v l H Q => ∃ (W : Addr) (k : Nat), v = .ref W ∧ l = .int k ∧ k ≤ 1 ∧ Wl [] H W ∧ ∀ (n : Nat) (H' : Hp), k ≤ n → n ≤ 4294967295 → Sx W H H' → Wl [] H' W → Q (.int n) H'
abbrev sp_Lgreat (K : PySem.W.Frag) (cs : Cds) : Sp := spo_Lgreat K cs
theorem ok_Lgreat (T : Txt K mg base) : FnOk P w K mg base (L2.CX P w) 3 T.f_Lgreat T.fd_Lgreat ["_law_spring_here", "_law_low"] (sp_Lgreat K T.cs) := by
  refine T.F_Lgreat.okX sc_Lgreat len2 (fun cdv A outer s H vs Q E hr h => ?_)
  obtain ⟨a0, a1, rfl, h⟩ := h
  refine ⟨_, (pss_cons (ps_set (i := 2) sc_Lgreat.nd rfl (.inl rfl) (pe_call (ok_Ldraw T) (hr.mono (by decide)) (by rfl) T.g_Ldraw T.F_Ldraw.kp T.bi_Ldraw .nil (passes_call (E := E) (takes_of rfl rfl rfl rfl) (fun _ _ _ _ h => h)) (pa_cons (pv 0) (pa_cons pe_int pa_nil))))
    (pss_cons (ps_if (pt_cmpR op_lt (pv 2) pe_int (nomark _)) (pss_one (ps_ret (pe_op op_add (pv 1) (pe_call (ok_Ldraw T) (hr.mono (by decide)) (by rfl) T.g_Ldraw T.F_Ldraw.kp T.bi_Ldraw .nil (passes_call (E := E) (takes_of rfl rfl rfl rfl) (fun _ _ _ _ h => h)) (pa_cons (pv 0) (pa_cons pe_int pa_nil)))))) pss_nil)
    (pss_cons (ps_if (pt_cmpR op_lt (pv 2) pe_int (nomark _)) (pss_one (ps_ret (pe_call (ok_Lpick T) (hr.mono (by decide)) (by rfl) T.g_Lpick T.F_Lpick.kp T.bi_Lpick .nil (passes_call (E := E) (takes_of rfl rfl rfl rfl) (fun _ _ _ _ h => h)) (pa_cons (pv 0) (pa_cons (pe_tup (pa_cons pe_int (pa_cons pe_int (pa_cons pe_int (pa_cons pe_int (pa_cons pe_int (pa_cons pe_int pa_nil))))))) pa_nil))))) pss_nil)
    (pss_one (ps_ret (pe_op op_add (pv 1) (pe_call (ok_Ldraw T) (hr.mono (by decide)) (by rfl) T.g_Ldraw T.F_Ldraw.kp T.bi_Ldraw .nil (passes_call (E := E) (takes_of rfl rfl rfl rfl) (fun _ _ _ _ h => h)) (pa_cons (pv 0) (pa_cons (pe_op op_sub pe_int (pv 1)) pa_nil))))))))), ?_⟩
  rw [show L2.start N_Lgreat [a0, a1] = [some a0, some a1, none] from rfl]
  obtain ⟨W, k, rfl, rfl, hk, hw, q⟩ := h
  walk_at "vv"
  refine c2 ⟨W, 12, rfl, rfl, hw, by decide, by decide, fun r H1 hr s1 w1 => ?_⟩
  walk_at "vv"
  refine v_ifd (fun c => ?_) (fun c => ?_)
  · walk_at "vv"
    refine c2 ⟨W, 4, rfl, rfl, w1, by decide, by decide, fun r2 H2 hr2 s2 w2 => ?_⟩
    walk_at "vv"
    rw [show (k : Int) + (r2 : Int) = ((k + r2 : Nat) : Int) by omega]
    exact q _ H2 (by omega) (by omega) (s1.trans s2) w2
  walk_at "vv"
  refine v_ifd (fun c => ?_) (fun c => ?_)
  · walk_at "vv"
    refine a_tup (by simp) fun p H2 hp s2 e2 => ?_
    walk_at "vv"
    refine c2 ⟨W, rfl, w1.of s2, .inl ⟨p, _, rfl, sqT_of e2, by simp, by simp, fun x H3 hx s3 w3 => ?_⟩⟩
    obtain ⟨n, rfl, h1, h2⟩ : ∃ n : Nat, x = .int n ∧ 1 ≤ n ∧ n ≤ 4294967295 := by
      simp only [List.mem_cons, List.not_mem_nil, or_false] at hx
      rcases hx with rfl | rfl | rfl | rfl | rfl | rfl
      · exact ⟨65535, rfl, by decide, by decide⟩
      · exact ⟨65536, rfl, by decide, by decide⟩
      · exact ⟨65537, rfl, by decide, by decide⟩
      · exact ⟨4294967295, rfl, by decide, by decide⟩
      · exact ⟨131071, rfl, by decide, by decide⟩
      · exact ⟨4294901760, rfl, by decide, by decide⟩
    exact q n H3 (by omega) h2 (s1.trans ((Sx.of s2).trans s3)) w3
  walk_at "vv"
  rw [show (4294967296 : Int) - (k : Int) = ((4294967296 - k : Nat) : Int) by omega]
  refine c2 ⟨W, 4294967296 - k, rfl, rfl, w1, by omega, by omega, fun r2 H2 hr2 s2 w2 => ?_⟩
  walk_at "vv"
  rw [show (k : Int) + (r2 : Int) = ((k + r2 : Nat) : Int) by omega]
  exact q _ H2 (by omega) (by omega) (s1.trans s2) w2
def spo_Lname (K : PySem.W.Frag) (cs : Cds) : Sp := sp1 fun v H Q => ∃ W : Addr, v = .ref W ∧ Wl [] H W ∧ ∀ (z : PySem.Str) (H' : Hp), 1 ≤ z.length → z.length ≤ 9 → (∀ c ∈ z.cps.toList, c ∈ SG.cps.toList) → Sx W H H' → Wl [] H' W → Q (.str z) H'
abbrev sp_Lname (K : PySem.W.Frag) (cs : Cds) : Sp := spo_Lname K cs
theorem ok_Lname (T : Txt K mg base) : FnOk P w K mg base (L2.CX P w) 3 T.f_Lname T.fd_Lname ["_law_spring_here"] (sp_Lname K T.cs) := by
  refine T.F_Lname.okX sc_Lname len1 (fun cdv A outer s H vs Q E hr h => ?_)
  obtain ⟨a0, rfl, h⟩ := h
  refine ⟨_, (pss_cons (ps_set (i := 1) sc_Lname.nd rfl (.inl rfl) pe_str)
    (pss_cons (ps_for (passes_of rfl) rfl (pi_range1 rfl T.b_range (pa_cons (pe_ifExp (pt_cmpR op_gt (pe_call (ok_Ldraw T) (hr.mono (by decide)) (by rfl) T.g_Ldraw T.F_Ldraw.kp T.bi_Ldraw .nil (passes_call (E := E) (takes_of rfl rfl rfl rfl) (fun _ _ _ _ h => h)) (pa_cons (pv 0) (pa_cons pe_int pa_nil))) pe_int (nomark _)) (pe_op op_add pe_int (pe_call (ok_Ldraw T) (hr.mono (by decide)) (by rfl) T.g_Ldraw T.F_Ldraw.kp T.bi_Ldraw .nil (passes_call (E := E) (takes_of rfl rfl rfl rfl) (fun _ _ _ _ h => h)) (pa_cons (pv 0) (pa_cons pe_int pa_nil)))) (pe_op op_add pe_int (pe_call (ok_Ldraw T) (hr.mono (by decide)) (by rfl) T.g_Ldraw T.F_Ldraw.kp T.bi_Ldraw .nil (passes_call (E := E) (takes_of rfl rfl rfl rfl) (fun _ _ _ _ h => h)) (pa_cons (pv 0) (pa_cons pe_int pa_nil))))) pa_nil)) (pg_name (i := 2) sc_Lname.nd rfl (.inl rfl))
      (pss_one (ps_set (i := 1) sc_Lname.nd rfl (.inl rfl) (pe_op op_add_str (pv 1) (pe_call (ok_Lpick T) (hr.mono (by decide)) (by rfl) T.g_Lpick T.F_Lpick.kp T.bi_Lpick .nil (passes_call (E := E) (takes_of rfl rfl rfl rfl) (fun _ _ _ _ h => h)) (pa_cons (pv 0) (pa_cons pe_str pa_nil)))))))
    (pss_one (ps_ret (pv 1))))), ?_⟩
  rw [show L2.start N_Lname [a0] = [some a0, none, none] from rfl]
  obtain ⟨W, rfl, hw, q⟩ := h
  walk_at "vv"
  refine c2 ⟨W, 4, rfl, rfl, hw, by decide, by decide, fun r H1 hr1 s1 w1 => ?_⟩
  walk_at "vv"
  refine v_ifd (fun c => ?_) (fun c => ?_)
  · walk_at "vv"
    refine c2 ⟨W, 3, rfl, rfl, w1, by decide, by decide, fun r2 H2 hr2 s2 w2 => ?_⟩
    walk_at "vv"
    rw [show (1 : Int) + (r2 : Int) = ((1 + r2 : Nat) : Int) by omega]
    refine ⟨_, rfl, by omega, by omega, ?_⟩
    refine for_range (lo := 0) (n := 1 + r2) (fun i σ H' => ∃ (z : PySem.Str) (y : Option V), σ = [some (.ref W), some (.str z), y] ∧ z.length = i ∧ (∀ c ∈ z.cps.toList, c ∈ SG.cps.toList) ∧ Sx W H H' ∧ Wl [] H' W)
      ⟨Str.ofString "", none, rfl, rfl, fun c hc => absurd hc List.not_mem_nil, s1.trans s2, w2⟩ ?_ ?_
    · rintro i σ H3 hi ⟨z, y, rfl, hz, hin, s3, w3⟩
      walk_at "vv"
      refine c2 ⟨W, rfl, w3, .inr ⟨_, rfl, by decide +kernel, by decide +kernel, fun x H4 hx s4 w4 => ?_⟩⟩
      walk_at "vv"
      refine ⟨z, ⟨#[x]⟩, rfl, rfl, ?_, z ++ ⟨#[x]⟩, _, rfl, ?_, fun c hc => ?_, s3.trans s4, w4⟩
      · rw [hz]; exact Nat.le_trans (show i + 1 ≤ 100 by omega) (by decide)
      · rw [← hz]; exact sg_app_len
      · rcases sg_app_mem hc with h | h
        · exact hin c h
        · rw [h]; exact hx
    · rintro σ H3 ⟨z, y, rfl, hz, hin, s3, w3⟩
      dsimp only
      walk_at "vv"
      exact q z H3 (by omega) (by omega) hin s3 w3
  · walk_at "vv"
    refine c2 ⟨W, 9, rfl, rfl, w1, by decide, by decide, fun r2 H2 hr2 s2 w2 => ?_⟩
    walk_at "vv"
    rw [show (1 : Int) + (r2 : Int) = ((1 + r2 : Nat) : Int) by omega]
    refine ⟨_, rfl, by omega, by omega, ?_⟩
    refine for_range (lo := 0) (n := 1 + r2) (fun i σ H' => ∃ (z : PySem.Str) (y : Option V), σ = [some (.ref W), some (.str z), y] ∧ z.length = i ∧ (∀ c ∈ z.cps.toList, c ∈ SG.cps.toList) ∧ Sx W H H' ∧ Wl [] H' W)
      ⟨Str.ofString "", none, rfl, rfl, fun c hc => absurd hc List.not_mem_nil, s1.trans s2, w2⟩ ?_ ?_
    · rintro i σ H3 hi ⟨z, y, rfl, hz, hin, s3, w3⟩
      walk_at "vv"
      refine c2 ⟨W, rfl, w3, .inr ⟨_, rfl, by decide +kernel, by decide +kernel, fun x H4 hx s4 w4 => ?_⟩⟩
      walk_at "vv"
      refine ⟨z, ⟨#[x]⟩, rfl, rfl, ?_, z ++ ⟨#[x]⟩, _, rfl, ?_, fun c hc => ?_, s3.trans s4, w4⟩
      · rw [hz]; exact Nat.le_trans (show i + 1 ≤ 100 by omega) (by decide)
      · rw [← hz]; exact sg_app_len
      · rcases sg_app_mem hc with h | h
        · exact hin c h
        · rw [h]; exact hx
    · rintro σ H3 ⟨z, y, rfl, hz, hin, s3, w3⟩
      dsimp only
      walk_at "vv"
      exact q z H3 (by omega) (by omega) hin s3 w3
def spo_Lkey (K : PySem.W.Frag) (cs : Cds) : Sp := sp1 fun v H Q => ∃ W : Addr, v = .ref W ∧ Wl [] H W ∧ ∀ (p : Addr) (kk : PySem.Str) (ks : List D) (H' : Hp), Is (Old H) H' (.ref p) (.tup (.str kk :: ks)) → kyB (.tup (.str kk :: ks)) = true → Bd 9 1 (.tup (.str kk :: ks)) → Sx W H H' → Wl [] H' W → Q (.ref p) H'
abbrev sp_Lkey (K : PySem.W.Frag) (cs : Cds) : Sp := spo_Lkey K cs
theorem ok_Lkey (T : Txt K mg base) : FnOk P w K mg base (L2.CX P w) 4 T.f_Lkey T.fd_Lkey ["_law_spring_here"] (sp_Lkey K T.cs) := by
  refine T.F_Lkey.okX sc_Lkey len1 (fun cdv A outer s H vs Q E hr h => ?_)
  obtain ⟨a0, rfl, h⟩ := h
  refine ⟨_, (pss_cons (ps_set (i := 1) sc_Lkey.nd rfl (.inl rfl) (pe_call (ok_Ldraw T) (hr.mono (by decide)) (by rfl) T.g_Ldraw T.F_Ldraw.kp T.bi_Ldraw .nil (passes_call (E := E) (takes_of rfl rfl rfl rfl) (fun _ _ _ _ h => h)) (pa_cons (pv 0) (pa_cons pe_int pa_nil))))
    (pss_cons (ps_if (pt_cmpR op_lt (pv 1) pe_int (nomark _)) (pss_one (ps_ret (pe_tup (pa_cons pe_str (pa_cons (pe_call (ok_Lgreat T) (hr.mono (by decide)) (by rfl) T.g_Lgreat T.F_Lgreat.kp T.bi_Lgreat .nil (passes_call (E := E) (takes_of rfl rfl rfl rfl) (fun _ _ _ _ h => h)) (pa_cons (pv 0) (pa_cons pe_int pa_nil))) (pa_cons (pe_call (ok_Lname T) (hr.mono (by decide)) (by rfl) T.g_Lname T.F_Lname.kp T.bi_Lname .nil (passes_call (E := E) (takes_of rfl rfl rfl rfl) (fun _ _ _ _ h => h)) (pa_cons (pv 0) pa_nil)) pa_nil)))))) pss_nil)
    (pss_cons (ps_if (pt_cmpR op_lt (pv 1) pe_int (nomark _)) (pss_one (ps_ret (pe_tup (pa_cons pe_str (pa_cons (pe_call (ok_Lgreat T) (hr.mono (by decide)) (by rfl) T.g_Lgreat T.F_Lgreat.kp T.bi_Lgreat .nil (passes_call (E := E) (takes_of rfl rfl rfl rfl) (fun _ _ _ _ h => h)) (pa_cons (pv 0) (pa_cons pe_int pa_nil))) pa_nil))))) pss_nil)
    (pss_one (ps_ret (pe_tup (pa_cons pe_str (pa_cons (pe_call (ok_Lgreat T) (hr.mono (by decide)) (by rfl) T.g_Lgreat T.F_Lgreat.kp T.bi_Lgreat .nil (passes_call (E := E) (takes_of rfl rfl rfl rfl) (fun _ _ _ _ h => h)) (pa_cons (pv 0) (pa_cons pe_int pa_nil))) (pa_cons (pe_call (ok_Ldraw T) (hr.mono (by decide)) (by rfl) T.g_Ldraw T.F_Ldraw.kp T.bi_Ldraw .nil (passes_call (E := E) (takes_of rfl rfl rfl rfl) (fun _ _ _ _ h => h)) (pa_cons (pv 0) (pa_cons pe_int pa_nil))) pa_nil))))))))), ?_⟩
  rw [show L2.start N_Lkey [a0] = [some a0, none] from rfl]
  obtain ⟨W, rfl, hw, q⟩ := h
  walk_at "vv"
  refine c2 ⟨W, 5, rfl, rfl, hw, by decide, by decide, fun r H1 hr s1 w1 => ?_⟩
  walk_at "vv"
  refine v_ifd (fun c => ?_) (fun c => ?_)
  · walk_at "vv"
    refine c2 ⟨W, 0, rfl, rfl, by decide, w1, fun n H2 hn1 hn2 s2 w2 => ?_⟩
    walk_at "vv"
    refine c1 ⟨W, rfl, w2, fun z H3 h1 h9 hin s3 w3 => ?_⟩
    walk_at "vv"
    refine a_tup (by simp) fun p H4 hp s4 e4 => ?_
    have s5 := s1.trans (s2.trans s3)
    refine q p (Str.ofString "name") [.int n, .str z] H4 (.tup e4 (fun o => old_sx s5 w3 p o hp) (.cons (.str _) (.cons (.int _) (.cons (.str _) .nil)))) ?_ ?_ (s5.trans (Sx.of s4)) (w3.of s4)
    · rw [ky3, if_pos rfl, nmB_str, decide_eq_true ⟨h1, h9⟩, Bool.true_and]
      refine Bool.and_eq_true_iff.mpr ⟨decide_eq_true ⟨by omega, by omega⟩, List.all_eq_true.mpr fun c hc => decide_eq_true (hin c hc)⟩
    · refine Bd.tup (by simp) fun d hd => ?_
      simp only [List.mem_cons, List.not_mem_nil, or_false] at hd
      rcases hd with rfl | rfl | rfl
      · exact Bd.str (by decide) (all_of (P := fun c : Nat => c < 128) (by decide +kernel))
      · exact Bd.int _
      · exact Bd.str h9 fun c hc => sg_asc c (hin c hc)
  walk_at "vv"
  refine v_ifd (fun c2' => ?_) (fun c2' => ?_)
  · walk_at "vv"
    refine c2 ⟨W, 1, rfl, rfl, by decide, w1, fun n H2 hn1 hn2 s2 w2 => ?_⟩
    walk_at "vv"
    refine a_tup (by simp) fun p H4 hp s4 e4 => ?_
    have s5 := s1.trans s2
    refine q p (Str.ofString "node") [.int n] H4 (.tup e4 (fun o => old_sx s5 w2 p o hp) (.cons (.str _) (.cons (.int _) .nil))) ?_ ?_ (s5.trans (Sx.of s4)) (w2.of s4)
    · rw [ky2, decide_eq_true (by decide +kernel), Bool.true_and]
      simp only [D.btw]
      exact decide_eq_true ⟨by omega, by omega⟩
    · refine Bd.tup (by simp) fun d hd => ?_
      simp only [List.mem_cons, List.not_mem_nil, or_false] at hd
      rcases hd with rfl | rfl
      · exact Bd.str (by decide) (all_of (P := fun c : Nat => c < 128) (by decide +kernel))
      · exact Bd.int _
  walk_at "vv"
  refine c2 ⟨W, 1, rfl, rfl, by decide, w1, fun n H2 hn1 hn2 s2 w2 => ?_⟩
  walk_at "vv"
  refine c2 ⟨W, 16, rfl, rfl, w2, by decide, by decide, fun m H3 hm s3 w3 => ?_⟩
  walk_at "vv"
  refine a_tup (by simp) fun p H4 hp s4 e4 => ?_
  have s5 := s1.trans (s2.trans s3)
  refine q p (Str.ofString "piece") [.int n, .int m] H4 (.tup e4 (fun o => old_sx s5 w3 p o hp) (.cons (.str _) (.cons (.int _) (.cons (.int _) .nil)))) ?_ ?_ (s5.trans (Sx.of s4)) (w3.of s4)
  · rw [ky3, if_neg (by decide +kernel), decide_eq_true (show Str.ofString "piece" = "piece" from rfl), Bool.true_and]
    simp only [D.btw]
    rw [decide_eq_true ⟨by omega, by omega⟩, decide_eq_true ⟨by omega, by omega⟩]
    rfl
  · refine Bd.tup (by simp) fun d hd => ?_
    simp only [List.mem_cons, List.not_mem_nil, or_false] at hd
    rcases hd with rfl | rfl | rfl
    · exact Bd.str (by decide) (all_of (P := fun c : Nat => c < 128) (by decide +kernel))
    · exact Bd.int _
    · exact Bd.int _
def spo_Lvalue (K : PySem.W.Frag) (cs : Cds) : Sp := sp2 fun v k H Q => ∃ (W kp : Addr) (kk : PySem.Str) (xs : List V), v = .ref W ∧ k = .ref kp ∧ SqT K H kp (.str kk :: xs) ∧ Wl [] H W ∧ ∀ (x : V) (d : D) (H' : Hp), Is (Old H) H' x d → Bd 16 1 d → Sx W H H' → Wl [] H' W → Q x H'
abbrev sp_Lvalue (K : PySem.W.Frag) (cs : Cds) : Sp := spo_Lvalue K cs
theorem ok_Lvalue (T : Txt K mg base) : FnOk P w K mg base (L2.CX P w) 4 T.f_Lvalue T.fd_Lvalue ["_law_spring_here", "_law_key_here"] (sp_Lvalue K T.cs) := by
  refine T.F_Lvalue.okX sc_Lvalue len2 (fun cdv A outer s H vs Q E hr h => ?_)
  obtain ⟨a0, a1, rfl, h⟩ := h
  refine ⟨_, (pss_cons (ps_if (pt_cmpR op_eq (pe_ix ix_tup (pv 1) pe_int (fun _ _ => rfl)) pe_str (nomark _)) (pss_one (ps_ret (pe_ifExp (pt_cmpR op_eq (pe_call (ok_Ldraw T) (hr.mono (by decide)) (by rfl) T.g_Ldraw T.F_Ldraw.kp T.bi_Ldraw .nil (passes_call (E := E) (takes_of rfl rfl rfl rfl) (fun _ _ _ _ h => h)) (pa_cons (pv 0) (pa_cons pe_int pa_nil))) pe_int (nomark _)) (pe_tup (pa_cons pe_str (pa_cons pe_int pa_nil))) (pe_tup (pa_cons pe_str (pa_cons (pe_call (ok_Ldraw T) (hr.mono (by decide)) (by rfl) T.g_Ldraw T.F_Ldraw.kp T.bi_Ldraw .nil (passes_call (E := E) (takes_of rfl rfl rfl rfl) (fun _ _ _ _ h => h)) (pa_cons (pv 0) (pa_cons pe_int pa_nil))) pa_nil)))))) pss_nil)
    (pss_cons (ps_if (pt_cmpR op_eq (pe_call (ok_Ldraw T) (hr.mono (by decide)) (by rfl) T.g_Ldraw T.F_Ldraw.kp T.bi_Ldraw .nil (passes_call (E := E) (takes_of rfl rfl rfl rfl) (fun _ _ _ _ h => h)) (pa_cons (pv 0) (pa_cons pe_int pa_nil))) pe_int (nomark _)) (pss_one (ps_ret pe_non)) pss_nil)
    (pss_cons (ps_if (pt_cmpR op_eq (pe_ix ix_tup (pv 1) pe_int (fun _ _ => rfl)) pe_str (nomark _)) (pss_one (ps_ret (pe_call (ok_Lgreat T) (hr.mono (by decide)) (by rfl) T.g_Lgreat T.F_Lgreat.kp T.bi_Lgreat .nil (passes_call (E := E) (takes_of rfl rfl rfl rfl) (fun _ _ _ _ h => h)) (pa_cons (pv 0) (pa_cons pe_int pa_nil))))) pss_nil)
    (pss_cons (ps_set (i := 2) sc_Lvalue.nd rfl (.inl rfl) (pe_lst pa_nil))
    (pss_cons (ps_for (passes_of rfl) rfl (pi_range1 rfl T.b_range (pa_cons (pe_ifExp (pt_cmpR op_eq (pe_call (ok_Ldraw T) (hr.mono (by decide)) (by rfl) T.g_Ldraw T.F_Ldraw.kp T.bi_Ldraw .nil (passes_call (E := E) (takes_of rfl rfl rfl rfl) (fun _ _ _ _ h => h)) (pa_cons (pv 0) (pa_cons pe_int pa_nil))) pe_int (nomark _)) pe_int (pe_op op_add pe_int (pe_call (ok_Ldraw T) (hr.mono (by decide)) (by rfl) T.g_Ldraw T.F_Ldraw.kp T.bi_Ldraw .nil (passes_call (E := E) (takes_of rfl rfl rfl rfl) (fun _ _ _ _ h => h)) (pa_cons (pv 0) (pa_cons pe_int pa_nil))))) pa_nil)) (pg_name (i := 3) sc_Lvalue.nd rfl (.inl rfl))
      (pss_one (ps_expr (pe_bm PySem.F.plainAttrs_list PySem.F.slot_list_append PySem.F.type_list_append mt_append (pv 2) (pa_cons (pe_call (ok_Lpick T) (hr.mono (by decide)) (by rfl) T.g_Lpick T.F_Lpick.kp T.bi_Lpick .nil (passes_call (E := E) (takes_of rfl rfl rfl rfl) (fun _ _ _ _ h => h)) (pa_cons (pv 0) (pa_cons (pe_tup (pa_cons pe_int (pa_cons pe_int (pa_cons pe_int (pa_cons (pe_call (ok_Ldraw T) (hr.mono (by decide)) (by rfl) T.g_Ldraw T.F_Ldraw.kp T.bi_Ldraw .nil (passes_call (E := E) (takes_of rfl rfl rfl rfl) (fun _ _ _ _ h => h)) (pa_cons (pv 0) (pa_cons pe_int pa_nil))) pa_nil))))) pa_nil))) pa_nil)))))
    (pss_one (ps_ret (pe_callTy cv_tuple (by rfl) T.b_tuple (by decide +kernel) (pa_cons (pv 2) pa_nil))))))))), ?_⟩
  rw [show L2.start N_Lvalue [a0, a1] = [some a0, some a1, none, none] from rfl]
  obtain ⟨W, kp, kk, xs, rfl, rfl, hk, hw, q⟩ := h
  walk_at "vv"
  refine v_ixT hk (atI_nat (j := 0) rfl) ?_
  walk_at "vv"
  refine v_eqS ?_
  walk_at "vv"
  refine v_ifd (fun c => ?_) (fun c => ?_)
  · walk_at "vv"
    refine c2 ⟨W, 3, rfl, rfl, hw, by decide, by decide, fun r H1 hr s1 w1 => ?_⟩
    walk_at "vv"
    refine v_ifd (fun c => ?_) (fun c => ?_)
    · walk_at "vv"
      refine a_tup (by simp) fun p H4 hp s4 e4 => ?_
      exact q (.ref p) (.tup [.str (Str.ofString "folder"), .int 0]) H4 (.tup e4 (fun o => old_sx s1 w1 p o hp) (.cons (.str _) (.cons (.int _) .nil))) (by decide +kernel) (s1.trans (Sx.of s4)) (w1.of s4)
    · walk_at "vv"
      refine c2 ⟨W, 257, rfl, rfl, w1, by decide, by decide, fun r2 H2 hr2 s2 w2 => ?_⟩
      walk_at "vv"
      refine a_tup (by simp) fun p H4 hp s4 e4 => ?_
      refine q (.ref p) (.tup [.str (Str.ofString "file"), .int r2]) H4 (.tup e4 (fun o => old_sx (s1.trans s2) w2 p o hp) (.cons (.str _) (.cons (.int _) .nil))) ?_ ((s1.trans s2).trans (Sx.of s4)) (w2.of s4)
      refine Bd.tup (by simp) fun d hd => ?_
      simp only [List.mem_cons, List.not_mem_nil, or_false] at hd
      rcases hd with rfl | rfl
      · exact Bd.str (by decide) (all_of (P := fun c : Nat => c < 128) (by decide +kernel))
      · exact Bd.int _
  walk_at "vv"
  refine c2 ⟨W, 4, rfl, rfl, hw, by decide, by decide, fun r H1 hr s1 w1 => ?_⟩
  walk_at "vv"
  refine v_ifd (fun c => ?_) (fun c => ?_)
  · walk_at "vv"
    exact q .non .non H1 .non Bd.non s1 w1
  walk_at "vv"
  refine v_ixT (sqT_sx hk hw s1) (atI_nat (j := 0) rfl) ?_
  walk_at "vv"
  refine v_eqS ?_
  walk_at "vv"
  refine v_ifd (fun c => ?_) (fun c => ?_)
  · walk_at "vv"
    exact c2 ⟨W, 1, rfl, rfl, by decide, w1, fun n H2 hn1 hn2 s2 w2 => q (.int n) (.int n) H2 (.int _) (Bd.int _) (s1.trans s2) w2⟩
  walk_at "vv"
  refine a_lst (by simp) fun T0 H2 hT s2 e2 => ?_
  have nT : T0 ≠ W := w1.ne hT
  walk_at "vv"
  refine c2 ⟨W, 8, rfl, rfl, w1.of s2, by decide, by decide, fun n H3 hn s3 w3 => ?_⟩
  walk_at "vv"
  refine v_ifd (fun c => ?_) (fun c => ?_)
  · walk_at "vv"
    refine ⟨_, rfl, by omega, by omega, ?_⟩
    refine for_range (lo := 0) (n := 16) (fun i σ H' => ∃ (ns : List Nat) (y : Option V), σ = [some (.ref W), some (.ref kp), some (.ref T0), y] ∧ ns.length = i ∧ H' T0 = some (.lst (ns.map vN)) ∧ Sx W H H' ∧ Wl [] H' W)
      ⟨[], none, rfl, rfl, s3 _ _ nT e2, s1.trans ((Sx.of s2).trans s3), w3⟩ ?_ ?_
    · rintro i σ H4 hi ⟨ns, y, rfl, hl, e4, s4, w4⟩
      walk_at "vv"
      refine ⟨tyL e4, ?_⟩
      walk_at "vv"
      refine c2 ⟨W, 65536, rfl, rfl, w4, by decide, by decide, fun r3 H5 hr3 s5 w5 => ?_⟩
      walk_at "vv"
      refine a_tup (by simp) fun p H6 hp s6 e6 => ?_
      walk_at "vv"
      refine c2 ⟨W, rfl, w5.of s6, .inl ⟨p, _, rfl, sqT_of e6, by simp, by simp, fun x H7 hx s7 w7 => ?_⟩⟩
      obtain ⟨m, rfl⟩ : ∃ m : Nat, x = .int m := by
        simp only [List.mem_cons, List.not_mem_nil, or_false] at hx
        rcases hx with rfl | rfl | rfl | rfl
        · exact ⟨0, rfl⟩
        · exact ⟨65535, rfl⟩
        · exact ⟨1, rfl⟩
        · exact ⟨r3, rfl⟩
      have e7 := s7 _ _ nT (s6 _ _ (s5 _ _ nT e4))
      walk_at "vv"
      refine v_append e7 (by rw [List.length_map]; omega) ?_
      refine ⟨ns ++ [m], _, rfl, by rw [List.length_append, hl]; rfl, by rw [upd_same, List.map_append]; rfl, (s4.trans (s5.trans ((Sx.of s6).trans s7))).own (s1.free hT nT), ?_⟩
      obtain ⟨x, y, z, ew⟩ := w7
      exact ⟨x, y, z, by rw [upd_ne nT.symm]; exact ew⟩
    · rintro σ H4 ⟨ns, y, rfl, hl, e4, s4, w4⟩
      dsimp only
      walk_at "vv"
      refine a_tupL (sqL_of e4) fun t H5 ht s5 e5 => ?_
      refine q (.ref t) (.tup (ns.map fun n : Nat => D.int n)) H5 (.tup e5 (fun o => old_sx s4 w4 t o ht) is_nats) ?_ (s4.trans (Sx.of s5)) (w4.of s5)
      refine Bd.tup (by rw [List.length_map]; omega) fun d hd => ?_
      obtain ⟨n, hn, rfl⟩ := List.mem_map.mp hd
      exact Bd.int _
  · walk_at "vv"
    refine c2 ⟨W, 4, rfl, rfl, w3, by decide, by decide, fun r4 H3' hr4 s3' w3' => ?_⟩
    walk_at "vv"
    rw [show (1 : Int) + (r4 : Int) = ((1 + r4 : Nat) : Int) by omega]
    refine ⟨_, rfl, by omega, by omega, ?_⟩
    refine for_range (lo := 0) (n := 1 + r4) (fun i σ H' => ∃ (ns : List Nat) (y : Option V), σ = [some (.ref W), some (.ref kp), some (.ref T0), y] ∧ ns.length = i ∧ H' T0 = some (.lst (ns.map vN)) ∧ Sx W H H' ∧ Wl [] H' W)
      ⟨[], none, rfl, rfl, (s3.trans s3') _ _ nT e2, s1.trans ((Sx.of s2).trans (s3.trans s3')), w3'⟩ ?_ ?_
    · rintro i σ H4 hi ⟨ns, y, rfl, hl, e4, s4, w4⟩
      walk_at "vv"
      refine ⟨tyL e4, ?_⟩
      walk_at "vv"
      refine c2 ⟨W, 65536, rfl, rfl, w4, by decide, by decide, fun r3 H5 hr3 s5 w5 => ?_⟩
      walk_at "vv"
      refine a_tup (by simp) fun p H6 hp s6 e6 => ?_
      walk_at "vv"
      refine c2 ⟨W, rfl, w5.of s6, .inl ⟨p, _, rfl, sqT_of e6, by simp, by simp, fun x H7 hx s7 w7 => ?_⟩⟩
      obtain ⟨m, rfl⟩ : ∃ m : Nat, x = .int m := by
        simp only [List.mem_cons, List.not_mem_nil, or_false] at hx
        rcases hx with rfl | rfl | rfl | rfl
        · exact ⟨0, rfl⟩
        · exact ⟨65535, rfl⟩
        · exact ⟨1, rfl⟩
        · exact ⟨r3, rfl⟩
      have e7 := s7 _ _ nT (s6 _ _ (s5 _ _ nT e4))
      walk_at "vv"
      refine v_append e7 (by rw [List.length_map]; omega) ?_
      refine ⟨ns ++ [m], _, rfl, by rw [List.length_append, hl]; rfl, by rw [upd_same, List.map_append]; rfl, (s4.trans (s5.trans ((Sx.of s6).trans s7))).own (s1.free hT nT), ?_⟩
      obtain ⟨x, y, z, ew⟩ := w7
      exact ⟨x, y, z, by rw [upd_ne nT.symm]; exact ew⟩
    · rintro σ H4 ⟨ns, y, rfl, hl, e4, s4, w4⟩
      dsimp only
      walk_at "vv"
      refine a_tupL (sqL_of e4) fun t H5 ht s5 e5 => ?_
      refine q (.ref t) (.tup (ns.map fun n : Nat => D.int n)) H5 (.tup e5 (fun o => old_sx s4 w4 t o ht) is_nats) ?_ (s4.trans (Sx.of s5)) (w4.of s5)
      refine Bd.tup (by rw [List.length_map]; omega) fun d hd => ?_
      obtain ⟨n, hn, rfl⟩ := List.mem_map.mp hd
      exact Bd.int _
def spo_is_whole (K : PySem.W.Frag) (cs : Cds) : Sp := sp1 fun v H Q => ∃ (M : Addr → Prop) (d : D), Is M H v d ∧ Q (.bl d.whole) H
abbrev sp_is_whole (K : PySem.W.Frag) (cs : Cds) : Sp := spo_is_whole K cs
theorem ok_is_whole (T : Txt K mg base) : FnOk P w K mg base (L2.CX P w) 1 T.f_is_whole T.fd_is_whole ["value"] (sp_is_whole K T.cs) := by
  refine T.F_is_whole.okX sc_is_whole len1 (fun cdv A outer s H vs Q E hr h => ?_)
  obtain ⟨a0, rfl, h⟩ := h
  refine ⟨_, (pss_one (ps_ret (pe_and (pe_callB call_isi (by rfl) T.b_isinstance (by decide +kernel) (pa_cons (pv 0) (pa_cons (pe_bltn (v := .ty "int") (by rfl) T.b_int (by decide +kernel) rfl) pa_nil))) (pe_one (pe_not (pe_callB call_isi (by rfl) T.b_isinstance (by decide +kernel) (pa_cons (pv 0) (pa_cons (pe_bltn (v := .ty "bool") (by rfl) T.b_bool (by decide +kernel) rfl) pa_nil)))))))), ?_⟩
  rw [show L2.start N_is_whole [a0] = [some a0] from rfl]
  obtain ⟨M, d, hi, q⟩ := h
  walk_at "vv"
  refine d_isInt hi ?_
  walk_at "vv"
  refine v_ifb (fun c => ?_) (fun c => ?_)
  · walk_at "vv"
    refine d_isBl hi ?_
    walk_at "vv"
    rw [show (!d.isBl) = d.whole by cases d <;> simp_all [D.isBl, D.whole, D.isInt]]
    exact q
  · rw [show d.whole = false by cases d <;> simp_all [D.isBl, D.whole, D.isInt]] at q
    exact q
def spo_is_between (K : PySem.W.Frag) (cs : Cds) : Sp := sp3 fun v l m H Q => ∃ (M : Addr → Prop) (d : D) (j k : Int), Is M H v d ∧ l = .int j ∧ m = .int k ∧ Q (.bl (d.btw j k)) H
abbrev sp_is_between (K : PySem.W.Frag) (cs : Cds) : Sp := spo_is_between K cs
theorem ok_is_between (T : Txt K mg base) : FnOk P w K mg base (L2.CX P w) 2 T.f_is_between T.fd_is_between ["value", "least", "most"] (sp_is_between K T.cs) := by
  refine T.F_is_between.okX sc_is_between len3 (fun cdv A outer s H vs Q E hr h => ?_)
  obtain ⟨a0, a1, a2, rfl, h⟩ := h
  refine ⟨_, (pss_one (ps_ret (pe_and (pe_call (ok_is_whole T) (hr.mono (by decide)) (by rfl) T.g_is_whole T.F_is_whole.kp T.bi_is_whole .nil (passes_call (E := E) (takes_of rfl rfl rfl rfl) (fun _ _ _ _ h => h)) (pa_cons (pv 0) pa_nil)) (pe_one (pe_chain op_le op_le (pv 1) (pv 0) (pv 2)))))), ?_⟩
  rw [show L2.start N_is_between [a0, a1, a2] = [some a0, some a1, some a2] from rfl]
  obtain ⟨M, d, j, k, hi, rfl, rfl, q⟩ := h
  walk_at "vv"
  refine c1 ⟨M, d, hi, ?_⟩
  walk_at "vv"
  refine v_ifb (fun c => ?_) (fun c => ?_)
  · obtain ⟨i, rfl⟩ : ∃ i, d = .int i := by cases d <;> simp_all [D.whole]
    cases hi
    walk_at "vv"
    refine v_ifd (fun c => ?_) (fun c => ?_)
    · walk_at "vv"
      rw [show D.btw j k (.int i) = decide (i ≤ k) by simp [D.btw, c]] at q
      exact q
    · rw [show D.btw j k (.int i) = false by simp [D.btw, c]] at q
      exact q
  · rw [show d.btw j k = false by cases d <;> simp_all [D.btw, D.whole]] at q
    exact q
def spo_is_name (K : PySem.W.Frag) (cs : Cds) : Sp := sp1 fun v H Q => ∃ (M : Addr → Prop) (d : D), Is M H v d ∧ d.mx ≤ 10000 ∧ GxR.TabG H (tP cs) ∧ ∀ H', Fg (tP cs) H H' → Q (.bl (nmB d)) H'
abbrev sp_is_name (K : PySem.W.Frag) (cs : Cds) : Sp := spo_is_name K cs
theorem ok_is_name (T : Txt K mg base) : FnOk P w K mg base (L2.CX P w) 1 T.f_is_name T.fd_is_name ["value"] (sp_is_name K T.cs) := by
  refine okXC T.FC_is_name sc_is_name len1 (fun A outer s H vs Q E hr h => ?_)
  obtain ⟨a0, rfl, h⟩ := h
  refine ⟨_, (pss_cons (ps_if (PW.pt (pw_or (pt_not (pt_val (pe_callB call_isi (by rfl) T.b_isinstance (by decide +kernel) (pa_cons (pv 0) (pa_cons (pe_bltn (v := .ty "str") (by rfl) T.b_str (by decide +kernel) rfl) pa_nil))))) (pw_or1 (pt_not (pt_chain op_le op_le pe_int (pe_callB call_len_str (by rfl) T.b_len PySem.boot_len (pa_cons (pv 0) pa_nil)) (pe_glob (v := .int 9) rfl T.c_MOST_SIGNS ⟨_, rfl⟩)))))) (pss_one (ps_ret pe_bl)) pss_nil)
    (pss_one (ps_ret (pe_allG (hr.mono (Nat.zero_le _)) (by rfl) T.b_all (by decide +kernel) ⟨T.TB_is_name.code, T.TB_is_name.bm, T.TB_is_name.gP⟩ rfl (genS_mk rfl rfl (by decide +kernel) rfl rfl) (pv 0) (elt_inG T.c_SIGNS rfl rfl rfl) (fun _ => rfl))))), ?_⟩
  rw [show L2.start N_is_name [a0] = [some a0] from rfl]
  obtain ⟨M, d, hi, hm, tg, q⟩ := h
  walk_at "vv"
  refine d_isStr hi ?_
  walk_at "vv"
  refine v_ifb (fun c => ?_) (fun c => ?_)
  · obtain ⟨z, rfl⟩ : ∃ z, d = .str z := by cases d <;> simp_all [D.isStr]
    cases hi
    have hz : z.length ≤ 10000 := hm
    have hz2 : z.length ≤ sizeLine := Nat.le_trans hz (by decide)
    walk_at "vv"
    refine ⟨z, rfl, hz2, ?_⟩
    walk_at "vv"
    have no : ¬ (1 ≤ z.length ∧ z.length ≤ 9) → Q (.bl false) H := fun n => by
      have := q H Fg.refl
      rw [nmB_str, decide_eq_false n, Bool.false_and] at this
      exact this
    refine v_ifd (fun c1 => ?_) (fun c1 => ?_)
    · walk_at "vv"
      refine v_ifd (fun c2 => ?_) (fun c2 => ?_)
      · walk_at "vv"
        refine ⟨.str z, rfl, z, rfl, tg, fun H2 t2 => ?_⟩
        have := q H2 (Fg.tab t2)
        rw [nmB_str, decide_eq_true ⟨by omega, by omega⟩, Bool.true_and] at this
        exact this
      · walk_at "vv"
        exact no (by omega)
    · walk_at "vv"
      exact no (by omega)
  · walk_at "vv"
    have := q H Fg.refl
    rw [show nmB d = false by cases d <;> simp_all [nmB, D.isStr]] at this
    exact this
def spo_is_key (K : PySem.W.Frag) (cs : Cds) : Sp := sp1 fun v H Q => ∃ (M : Addr → Prop) (d : D), Is M H v d ∧ M (tP cs) ∧ d.mx ≤ 1000 ∧ GxR.TabG H (tP cs) ∧ ∀ H', Fg (tP cs) H H' → Q (.bl (kyB d)) H'
abbrev sp_is_key (K : PySem.W.Frag) (cs : Cds) : Sp := spo_is_key K cs
theorem ok_is_key (T : Txt K mg base) : FnOk P w K mg base (L2.CX P w) 3 T.f_is_key T.fd_is_key ["value"] (sp_is_key K T.cs) := by
  refine T.F_is_key.okX sc_is_key len1 (fun cdv A outer s H vs Q E hr h => ?_)
  obtain ⟨a0, rfl, h⟩ := h
  refine ⟨_, (pss_cons (ps_if (PW.pt (pw_or (pt_not (pt_val (pe_callB call_isi (by rfl) T.b_isinstance (by decide +kernel) (pa_cons (pv 0) (pa_cons (pe_bltn (v := .ty "tuple") (by rfl) T.b_tuple (by decide +kernel) rfl) pa_nil))))) (pw_or (pt_cmpR op_notIn_seq (pe_callB cv_len (by rfl) T.b_len PySem.boot_len (pa_cons (pv 0) pa_nil)) (pe_tup (pa_cons pe_int (pa_cons pe_int pa_nil))) rfl) (pw_or1 (pt_not (pt_val (pe_callB call_isi (by rfl) T.b_isinstance (by decide +kernel) (pa_cons (pe_ix ix_tup (pv 0) pe_int (fun _ _ => rfl)) (pa_cons (pe_bltn (v := .ty "str") (by rfl) T.b_str (by decide +kernel) rfl) pa_nil))))))))) (pss_one (ps_ret pe_bl)) pss_nil)
    (pss_cons (ps_asg (pv 0) (pg_head2 rfl (pg_name (i := 1) sc_is_key.nd rfl (.inl rfl)) (pg_name (i := 2) sc_is_key.nd rfl (.inl rfl)) (pg_name (i := 3) sc_is_key.nd rfl (.inl rfl))))
    (pss_cons (ps_if (pt_cmpR op_eq (pv 1) pe_str (nomark _)) (pss_one (ps_ret (pe_and (pe_call (ok_is_between T) (hr.mono (by decide)) (by rfl) T.g_is_between T.F_is_between.kp T.bi_is_between .nil (passes_call (E := E) (takes_of rfl rfl rfl rfl) (fun _ _ _ _ h => h)) (pa_cons (pv 2) (pa_cons pe_int (pa_cons (pe_glob (v := .int 4294967295) rfl T.c_GREATEST ⟨_, rfl⟩) pa_nil)))) (pe_and (pe_cmpR op_eq (pe_callB cv_len (by rfl) T.b_len PySem.boot_len (pa_cons (pv 3) pa_nil)) pe_int (nomark _)) (pe_one (pe_call (ok_is_name T) (hr.mono (by decide)) (by rfl) T.g_is_name T.F_is_name.kp T.bi_is_name .nil (passes_call (E := E) (takes_of rfl rfl rfl rfl) (fun _ _ _ _ h => h)) (pa_cons (pe_ix ix_list (pv 3) pe_int (fun _ _ => rfl)) pa_nil))))))) pss_nil)
    (pss_cons (ps_if (pt_not (pt_val (pe_call (ok_is_between T) (hr.mono (by decide)) (by rfl) T.g_is_between T.F_is_between.kp T.bi_is_between .nil (passes_call (E := E) (takes_of rfl rfl rfl rfl) (fun _ _ _ _ h => h)) (pa_cons (pv 2) (pa_cons pe_int (pa_cons (pe_glob (v := .int 4294967295) rfl T.c_GREATEST ⟨_, rfl⟩) pa_nil)))))) (pss_one (ps_ret pe_bl)) pss_nil)
    (pss_cons (ps_if (pt_cmpR op_eq (pv 1) pe_str (nomark _)) (pss_one (ps_ret (pe_cmpR op_eq (pe_callB cv_len (by rfl) T.b_len PySem.boot_len (pa_cons (pv 3) pa_nil)) pe_int (nomark _)))) pss_nil)
    (pss_one (ps_ret (pe_and (pe_cmpR op_eq (pv 1) pe_str (nomark _)) (pe_and (pe_cmpR op_eq (pe_callB cv_len (by rfl) T.b_len PySem.boot_len (pa_cons (pv 3) pa_nil)) pe_int (nomark _)) (pe_one (pe_call (ok_is_between T) (hr.mono (by decide)) (by rfl) T.g_is_between T.F_is_between.kp T.bi_is_between .nil (passes_call (E := E) (takes_of rfl rfl rfl rfl) (fun _ _ _ _ h => h)) (pa_cons (pe_ix ix_list (pv 3) pe_int (fun _ _ => rfl)) (pa_cons pe_int (pa_cons (pe_op op_sub (pe_glob (v := .int 16) rfl T.c_PIECES ⟨_, rfl⟩) pe_int) pa_nil)))))))))))))), ?_⟩
  rw [show L2.start N_is_key [a0] = [some a0, none, none, none] from rfl]
  obtain ⟨M, d, hi, mP, hm, tg, q⟩ := h
  walk_at "vv"
  refine d_isTup hi ?_
  walk_at "vv"
  refine v_ifb (fun c => ?_) (fun c => ?_)
  · obtain ⟨ds, rfl⟩ : ∃ ds, d = .tup ds := by cases d <;> simp_all [D.isTup]
    cases id hi with
    | tup e n hs =>
    rename_i a xs
    walk_at "vv"
    have lx := hs.len
    refine v_lenT (sqT_of e) ?_
    walk_at "vv"
    refine a_tup (by simp) fun p1 H1 hp1 s1 e1 => ?_
    refine ⟨_, _, rfl, .inr (sqT_of e1), rfl, rfl, ?_⟩
    refine ⟨_, rfl, ?_⟩
    have f1 : Fg (tP T.cs) H H1 := Fg.same s1
    by_cases hl : ds.length = 2 ∨ ds.length = 3
    case neg =>
      rw [inV23, if_pos rfl, decide_eq_false (by omega), Bool.not_false]
      walk_at "vv"
      have := q H1 f1
      rw [kyB_no (by omega) (by omega)] at this
      exact this
    rw [inV23, if_pos rfl, decide_eq_true (by omega), Bool.not_true]
    walk_at "vv"
    have e' := s1 _ _ e
    have hs' := hs.same s1
    have mxs := mx_le hm
    cases hs' with
    | nil => simp at hl
    | @cons x0 xr d0 dr i0 hr =>
    refine v_ixT (sqT_of e') (atI_nat (j := 0) rfl) ?_
    walk_at "vv"
    refine d_isStr i0 ?_
    walk_at "vv"
    refine v_ifb (fun c0 => ?_) (fun c0 => ?_)
    case refine_2 =>
      walk_at "vv"
      have := q H1 f1
      rw [kyB_ns c0] at this
      exact this
    obtain ⟨k, rfl⟩ : ∃ k, d0 = .str k := by cases d0 <;> simp_all [D.isStr]
    cases i0
    cases hr with
    | nil => simp at hl
    | @cons x1 xr d1 dr i1 hr =>
    walk_at "vv"
    refine ⟨a, _, x1, xr, rfl, sqT_of e', by have := mx_len hm; simp only [List.length_cons] at this lx; omega, fun l hl2 => ?_⟩
    have s2 : Same H1 (upd H1 l (.lst xr)) := same_new hl2
    have eL : (upd H1 l (.lst xr)) l = some (.lst xr) := upd_same
    have f2 : Fg (tP T.cs) H (upd H1 l (.lst xr)) := f1.trans (Fg.same s2)
    generalize upd H1 l (.lst xr) = H2 at s2 eL f2 ⊢
    have i1' := i1.same s2
    have hr' := hr.same s2
    have qq := q H2 f2
    walk_at "vv"
    refine v_eqS ?_
    walk_at "vv"
    cases hr' with
    | nil =>
      rw [ky2] at qq
      refine v_ifd (fun ck => ?_) (fun ck => ?_)
      · subst ck
        rw [decide_eq_false (by decide +kernel), Bool.false_and] at qq
        walk_at "vv"
        refine c3 ⟨M, d1, 0, 4294967295, i1', rfl, rfl, ?_⟩
        walk_at "vv"
        refine v_ifb (fun cb => ?_) (fun cb => ?_)
        · walk_at "vv"
          refine v_lenL (sqL_of eL) ?_
          walk_at "vv"
          exact qq
        · exact qq
      walk_at "vv"
      refine c3 ⟨M, d1, 1, 4294967295, i1', rfl, rfl, ?_⟩
      walk_at "vv"
      refine v_ifb (fun cb => ?_) (fun cb => ?_)
      case refine_2 =>
        rw [cb, Bool.and_false] at qq
        walk_at "vv"
        exact qq
      rw [cb, Bool.and_true] at qq
      walk_at "vv"
      refine v_eqS ?_
      walk_at "vv"
      refine v_ifd (fun c2 => ?_) (fun c2 => ?_)
      · rw [decide_eq_true c2] at qq
        walk_at "vv"
        refine v_lenL (sqL_of eL) ?_
        walk_at "vv"
        exact qq
      rw [decide_eq_false c2] at qq
      walk_at "vv"
      refine v_eqS ?_
      walk_at "vv"
      refine v_ifd (fun c3' => ?_) (fun c3' => ?_)
      · walk_at "vv"
        refine v_lenL (sqL_of eL) ?_
        walk_at "vv"
        exact qq
      · walk_at "vv"
        exact qq
    | @cons x2 xr2 d2 dr2 i2 hr2 =>
      cases hr2 with
      | cons _ _ => simp only [List.length_cons] at hl; omega
      | nil =>
      rw [ky3] at qq
      have m2 : d2.mx ≤ 10000 := Nat.le_trans (mxs d2 (by simp)) (by decide)
      refine v_ifd (fun ck => ?_) (fun ck => ?_)
      · rw [if_pos ck] at qq
        walk_at "vv"
        refine c3 ⟨M, d1, 0, 4294967295, i1', rfl, rfl, ?_⟩
        walk_at "vv"
        refine v_ifb (fun cb => ?_) (fun cb => ?_)
        · rw [cb, Bool.true_and] at qq
          walk_at "vv"
          refine v_lenL (sqL_of eL) ?_
          walk_at "vv"
          rw [show decide ((([x2].length : Nat) : Int) = 1) = true from rfl]
          walk_at "vv"
          refine v_ixL (sqL_of eL) (atI_nat (j := 0) rfl) ?_
          walk_at "vv"
          refine c1 ⟨M, d2, i2, m2, f2.2 tg, fun H3 f3 => ?_⟩
          have q3 := q H3 (f2.trans f3)
          rw [ky3, if_pos ck, cb, Bool.true_and] at q3
          exact q3
        · rw [cb, Bool.false_and] at qq
          exact qq
      rw [if_neg ck] at qq
      walk_at "vv"
      refine c3 ⟨M, d1, 1, 4294967295, i1', rfl, rfl, ?_⟩
      walk_at "vv"
      refine v_ifb (fun cb => ?_) (fun cb => ?_)
      case refine_2 =>
        rw [cb, Bool.false_and] at qq
        walk_at "vv"
        exact qq
      rw [cb, Bool.true_and] at qq
      walk_at "vv"
      refine v_eqS ?_
      walk_at "vv"
      refine v_ifd (fun c2 => ?_) (fun c2 => ?_)
      · subst c2
        rw [decide_eq_false (by decide +kernel), Bool.false_and] at qq
        walk_at "vv"
        refine v_lenL (sqL_of eL) ?_
        walk_at "vv"
        exact qq
      walk_at "vv"
      refine v_eqS ?_
      walk_at "vv"
      refine v_ifd (fun c3' => ?_) (fun c3' => ?_)
      · rw [decide_eq_true c3', Bool.true_and] at qq
        walk_at "vv"
        refine v_lenL (sqL_of eL) ?_
        walk_at "vv"
        rw [show decide ((([x2].length : Nat) : Int) = 1) = true from rfl]
        walk_at "vv"
        refine v_ixL (sqL_of eL) (atI_nat (j := 0) rfl) ?_
        walk_at "vv"
        exact c3 ⟨M, d2, 0, 15, i2, rfl, rfl, qq⟩
      · rw [decide_eq_false c3', Bool.false_and] at qq
        walk_at "vv"
        exact qq
  · walk_at "vv"
    have := q H Fg.refl
    rw [show kyB d = false by cases d <;> simp_all [kyB, D.isTup]] at this
    exact this
def spo_require_key (K : PySem.W.Frag) (cs : Cds) : Sp := sp1 fun k H Q => ∃ (M : Addr → Prop) (d : D), Is M H k d ∧ M (tP cs) ∧ d.mx ≤ 1000 ∧ kyB d = true ∧ GxR.TabG H (tP cs) ∧ ∀ H', Fg (tP cs) H H' → Q .non H'
abbrev sp_require_key (K : PySem.W.Frag) (cs : Cds) : Sp := spo_require_key K cs
theorem ok_require_key (T : Txt K mg base) : FnOk P w K mg base (L2.CX P w) 4 T.f_require_key T.fd_require_key ["key"] (sp_require_key K T.cs) := by
  refine T.F_require_key.okX sc_require_key len1 (fun cdv A outer s H vs Q E hr h => ?_)
  obtain ⟨a0, rfl, h⟩ := h
  refine ⟨_, (pss_one (ps_if (pt_not (pt_val (pe_call (ok_is_key T) (hr.mono (by decide)) (by rfl) T.g_is_key T.F_is_key.kp T.bi_is_key .nil (passes_call (E := E) (takes_of rfl rfl rfl rfl) (fun _ _ _ _ h => h)) (pa_cons (pv 0) pa_nil)))) (pss_one ps_never) pss_nil)), ?_⟩
  rw [show L2.start N_require_key [a0] = [some a0] from rfl]
  obtain ⟨M, d, hi, mP, hm, ky, tg, q⟩ := h
  walk_at "vv"
  refine c1 ⟨M, d, hi, mP, hm, tg, fun H2 f2 => ?_⟩
  rw [ky]
  walk_at "vv"
  exact q H2 f2
theorem gv_first_wrong (T : Txt K mg base) (A : Around) (stk : List Env) (cdv : Value) (q : Str) : Gives2 P w K mg base A stk N_first_wrong "first_wrong" (defScope s_first_wrong) T.f_first_wrong cdv (defBody s_first_wrong) "is_right" q (TTfw K) := by
  intro f C0 s H v0 Q tl gl hgl hst act hco h
  refine ⟨_, (pss_cons (ps_for PassesOwn.never rfl (pi_enq (by rfl) T.b_enumerate (pa_cons (pv 0) pa_nil)) (pg_tup (by rfl) (pgs_cons (pg_name (i := 2) sc_first_wrong.nd rfl (.inl rfl)) (pgs_cons (pg_name (i := 3) sc_first_wrong.nd rfl (.inl rfl)) pgs_nil)))
      (pss_one (ps_if (pt_not (pt_val (act _ _ _ _ (pv 3) rfl))) (pss_one (ps_ret (pv 2))) pss_nil)))
    (pss_one (ps_ret pe_non))), ?_⟩
  rw [show L2.start N_first_wrong [v0, V.ref f] = [some v0, some (.ref f), none, none] from rfl]
  obtain ⟨p, xs, bs, rfl, hT, hb, hx, q⟩ := h
  walk_at "vv"
  refine v_iEnq ?_
  walk_at "vv"
  refine ⟨p, xs, rfl, hT, ?_⟩
  refine for_enq (xs := xs) (fun i σ H' => ∃ y1 y2 : Option V, σ = [some (.ref p), some (.ref f), y1, y2] ∧ Same H H' ∧ fwV 0 bs = fwV i (bs.drop i)) ⟨none, none, rfl, fun _ _ e => e, rfl⟩ ?_ ?_ ?_
  · rintro i σ H' _ ⟨y1, y2, rfl, s1, _⟩
    exact Same.seqT s1 hT
  · rintro i x σ H1 t H2 hi ⟨y1, y2, rfl, s1, hf⟩ ht s2 e2
    have hlt : i < bs.length := by rw [hb]; exact (List.getElem?_eq_some_iff.mp hi).1
    have hbi : bs[i]? = some bs[i] := List.getElem?_eq_getElem hlt
    generalize bs[i] = b at hbi
    have sx : Same H H2 := fun b o e => s2 _ _ (s1 _ _ e)
    refine v_gtup (sqT_of e2) rfl ?_
    walk_at "vv"
    refine ⟨rfl, ?_⟩
    walk_at "vv"
    refine hgl _ _ _ (hst _ _ sx hco) (hx i x b H2 hi hbi sx _ fun H3 s3 => ?_)
    have fs := fw_step hbi
    cases b with
    | true =>
      walk_at "vv"
      exact ⟨_, _, rfl, fun b o e => s3 _ _ (sx _ _ e), hf.trans fs⟩
    | false =>
      walk_at "vv"
      have := q H3 fun b o e => s3 _ _ (sx _ _ e)
      rw [hf, fs] at this
      exact this
  · rintro σ H1 ⟨y1, y2, rfl, s1, hf⟩
    dsimp only
    walk_at "vv"
    have := q H1 s1
    rw [hf, ← hb, List.drop_length] at this
    exact this
def spo_is_unit (K : PySem.W.Frag) (cs : Cds) : Sp := sp1 fun v H Q => ∃ (M : Addr → Prop) (d : D), Is M H v d ∧ Q (.bl (d.btw 0 65535)) H
abbrev sp_is_unit (K : PySem.W.Frag) (cs : Cds) : Sp := spo_is_unit K cs
theorem ok_is_unit (T : Txt K mg base) : FnOk P w K mg base (L2.CX P w) 3 T.f_is_unit T.fd_is_unit ["value"] (sp_is_unit K T.cs) := by
  refine T.F_is_unit.okX sc_is_unit len1 (fun cdv A outer s H vs Q E hr h => ?_)
  obtain ⟨a0, rfl, h⟩ := h
  refine ⟨_, (pss_one (ps_ret (pe_call (ok_is_between T) (hr.mono (by decide)) (by rfl) T.g_is_between T.F_is_between.kp T.bi_is_between .nil (passes_call (E := E) (takes_of rfl rfl rfl rfl) (fun _ _ _ _ h => h)) (pa_cons (pv 0) (pa_cons pe_int (pa_cons (pe_glob (v := .int 65535) rfl T.c_GREATEST_UNIT ⟨_, rfl⟩) pa_nil)))))), ?_⟩
  rw [show L2.start N_is_unit [a0] = [some a0] from rfl]
  obtain ⟨M, d, hi, q⟩ := h
  walk_at "vv"
  exact c3 ⟨M, d, 0, 65535, hi, rfl, rfl, q⟩
def spo_are_cells (K : PySem.W.Frag) (cs : Cds) : Sp := sp3 fun v l m H Q => ∃ (M : Addr → Prop) (d : D) (j k : Nat), Is M H v d ∧ l = .int j ∧ m = .int k ∧ k ≤ 1000 ∧ ∀ H', Same H H' → Q (.bl (cellsB j k d)) H'
abbrev sp_are_cells (K : PySem.W.Frag) (cs : Cds) : Sp := spo_are_cells K cs
theorem ok_are_cells (T : Txt K mg base) : FnOk P w K mg base (L2.CX P w) 5 T.f_are_cells T.fd_are_cells ["value", "least", "most"] (sp_are_cells K T.cs) := by
  refine T.F_are_cells.okX sc_are_cells len3 (fun cdv A outer s H vs Q E hr h => ?_)
  obtain ⟨a0, a1, a2, rfl, h⟩ := h
  refine ⟨_, (pss_one (ps_ret (pe_and (pe_callB call_isi (by rfl) T.b_isinstance (by decide +kernel) (pa_cons (pv 0) (pa_cons (pe_bltn (v := .ty "tuple") (by rfl) T.b_tuple (by decide +kernel) rfl) pa_nil))) (pe_and (pe_chain op_le op_le (pv 1) (pe_callB cv_len (by rfl) T.b_len PySem.boot_len (pa_cons (pv 0) pa_nil)) (pv 2)) (pe_one (pe_cmpR op_isN (pe_held2 (by rfl) T.g_first_wrong T.F_first_wrong T.bi_first_wrong sc_first_wrong rfl (.inl rfl) (fun cdv q => gv_first_wrong T _ _ cdv q) (ok_is_unit T) T.F_is_unit.kp T.bi_is_unit (hr.mono (by decide)) (pv 0) (pe_glob (v := .ref T.f_is_unit) rfl T.g_is_unit rfl)) pe_non (nomark _))))))), ?_⟩
  rw [show L2.start N_are_cells [a0, a1, a2] = [some a0, some a1, some a2] from rfl]
  obtain ⟨M, d, j, k, hi, rfl, rfl, hk, q⟩ := h
  walk_at "vv"
  refine d_isTup hi ?_
  walk_at "vv"
  refine v_ifb (fun c => ?_) (fun c => ?_)
  · obtain ⟨ds, rfl⟩ : ∃ ds, d = .tup ds := by cases d <;> simp_all [D.isTup]
    cases hi with
    | tup e n hi =>
    rename_i a xs
    have lx := hi.len
    have no : ¬ (j ≤ ds.length ∧ ds.length ≤ k) → Q (.bl false) H := fun n => by
      have := q H (fun _ _ e => e)
      rw [cellsB_tup, decide_eq_false n, Bool.false_and] at this
      exact this
    walk_at "vv"
    refine v_lenT (sqT_of e) ?_
    walk_at "vv"
    refine v_ifd (fun c1 => ?_) (fun c1 => ?_)
    · walk_at "vv"
      refine v_ifd (fun c2 => ?_) (fun c2 => ?_)
      · walk_at "vv"
        refine ⟨rfl, a, xs, ds.map (D.btw 0 65535), rfl, sqT_of e, by rw [List.length_map, lx], fun i x c H2 hx hb s2 Q' q' => ?_, fun H2 s2 => ?_⟩
        · obtain ⟨d, hd, ix⟩ := hi.get hx
          rw [List.getElem?_map, hd] at hb
          obtain rfl := Option.some.inj hb
          exact ⟨_, rfl, M, d, ix.same s2, q' H2 fun _ _ e => e⟩
        · have := q H2 s2
          rw [cellsB_tup, decide_eq_true ⟨by omega, by omega⟩, Bool.true_and] at this
          walk_at "vv"
          refine ⟨rfl, ?_⟩
          rw [show decide (fwV 0 (ds.map (D.btw 0 65535)) = V.non) = ds.all (D.btw 0 65535) from by rw [fwV_dec, List.all_map]; rfl]
          exact this
      · walk_at "vv"
        exact no (by omega)
    · walk_at "vv"
      exact no (by omega)
  · have := q H (fun _ _ e => e)
    rw [show cellsB j k d = false by cases d <;> simp_all [cellsB, D.isTup]] at this
    exact this
def spo_is_node_value (K : PySem.W.Frag) (cs : Cds) : Sp := sp1 fun v H Q => ∃ (M : Addr → Prop) (d : D), Is M H v d ∧ ∀ H', Same H H' → Q (.bl (ndB d)) H'
abbrev sp_is_node_value (K : PySem.W.Frag) (cs : Cds) : Sp := spo_is_node_value K cs
theorem ok_is_node_value (T : Txt K mg base) : FnOk P w K mg base (L2.CX P w) 3 T.f_is_node_value T.fd_is_node_value ["value"] (sp_is_node_value K T.cs) := by
  refine T.F_is_node_value.okX sc_is_node_value len1 (fun cdv A outer s H vs Q E hr h => ?_)
  obtain ⟨a0, rfl, h⟩ := h
  refine ⟨_, (pss_cons (ps_if (PW.pt (pw_or (pt_not (pt_val (pe_callB call_isi (by rfl) T.b_isinstance (by decide +kernel) (pa_cons (pv 0) (pa_cons (pe_bltn (v := .ty "tuple") (by rfl) T.b_tuple (by decide +kernel) rfl) pa_nil))))) (pw_or (pt_cmpR op_ne (pe_callB cv_len (by rfl) T.b_len PySem.boot_len (pa_cons (pv 0) pa_nil)) pe_int (nomark _)) (pw_or1 (pt_not (pt_val (pe_callB call_isi (by rfl) T.b_isinstance (by decide +kernel) (pa_cons (pe_ix ix_tup (pv 0) pe_int (fun _ _ => rfl)) (pa_cons (pe_bltn (v := .ty "str") (by rfl) T.b_str (by decide +kernel) rfl) pa_nil))))))))) (pss_one (ps_ret pe_bl)) pss_nil)
    (pss_cons (ps_asg (pv 0) (pg_tup (by rfl) (pgs_cons (pg_name (i := 1) sc_is_node_value.nd rfl (.inl rfl)) (pgs_cons (pg_name (i := 2) sc_is_node_value.nd rfl (.inl rfl)) pgs_nil))))
    (pss_cons (ps_if (pt_cmpR op_eq (pv 1) pe_str (nomark _)) (pss_one (ps_ret (pe_call (ok_is_between T) (hr.mono (by decide)) (by rfl) T.g_is_between T.F_is_between.kp T.bi_is_between .nil (passes_call (E := E) (takes_of rfl rfl rfl rfl) (fun _ _ _ _ h => h)) (pa_cons (pv 2) (pa_cons pe_int (pa_cons pe_int pa_nil)))))) pss_nil)
    (pss_one (ps_ret (pe_and (pe_cmpR op_eq (pv 1) pe_str (nomark _)) (pe_one (pe_call (ok_is_between T) (hr.mono (by decide)) (by rfl) T.g_is_between T.F_is_between.kp T.bi_is_between .nil (passes_call (E := E) (takes_of rfl rfl rfl rfl) (fun _ _ _ _ h => h)) (pa_cons (pv 2) (pa_cons pe_int (pa_cons (pe_glob (v := .int 256) rfl T.c_MOST_CELLS ⟨_, rfl⟩) pa_nil))))))))))), ?_⟩
  rw [show L2.start N_is_node_value [a0] = [some a0, none, none] from rfl]
  obtain ⟨M, d, hi, q⟩ := h
  walk_at "vv"
  refine d_isTup hi ?_
  walk_at "vv"
  refine v_ifb (fun c => ?_) (fun c => ?_)
  · obtain ⟨ds, rfl⟩ : ∃ ds, d = .tup ds := by cases d <;> simp_all [D.isTup]
    cases id hi with
    | tup e n hs =>
    rename_i a xs
    walk_at "vv"
    have lx := hs.len
    refine v_lenT (sqT_of e) ?_
    walk_at "vv"
    refine v_ifd (fun c1 => ?_) (fun c1 => ?_)
    · walk_at "vv"
      have := q H (fun _ _ e => e)
      rw [ndB_no (by omega)] at this
      exact this
    walk_at "vv"
    have lx2 : ds.length = 2 := by omega
    match ds, xs, hs, lx2, e with
    | [d0, d1], [x0, x1], .cons i0 (.cons i1 .nil), _, e =>
    refine v_ixT (sqT_of e) rfl ?_
    walk_at "vv"
    refine d_isStr i0 ?_
    walk_at "vv"
    refine v_ifb (fun c0 => ?_) (fun c0 => ?_)
    case refine_2 =>
      walk_at "vv"
      have := q H (fun _ _ e => e)
      rw [ndB_ns c0] at this
      exact this
    obtain ⟨k, rfl⟩ : ∃ k, d0 = .str k := by cases d0 <;> simp_all [D.isStr]
    cases i0
    walk_at "vv"
    refine v_gtup (sqT_of e) rfl ?_
    have qq := q H (fun _ _ e => e)
    rw [nd2] at qq
    walk_at "vv"
    refine v_eqS ?_
    walk_at "vv"
    refine v_ifd (fun ck => ?_) (fun ck => ?_)
    · rw [if_pos ck] at qq
      walk_at "vv"
      exact c3 ⟨M, d1, 0, 0, i1, rfl, rfl, qq⟩
    rw [if_neg ck] at qq
    walk_at "vv"
    refine v_eqS ?_
    walk_at "vv"
    refine v_ifd (fun ck2 => ?_) (fun ck2 => ?_)
    · rw [decide_eq_true ck2, Bool.true_and] at qq
      walk_at "vv"
      exact c3 ⟨M, d1, 0, 256, i1, rfl, rfl, qq⟩
    · rw [decide_eq_false ck2, Bool.false_and] at qq
      walk_at "vv"
      exact qq
  · walk_at "vv"
    have := q H (fun _ _ e => e)
    rw [show ndB d = false by cases d <;> simp_all [ndB, D.isTup]] at this
    exact this
def spo_fits (K : PySem.W.Frag) (cs : Cds) : Sp := sp2 fun k v H Q => ∃ (M : Addr → Prop) (kd d : D) (kp : Addr) (ks : List D) (kk : PySem.Str), k = .ref kp ∧ kd = .tup (.str kk :: ks) ∧ Is M H (.ref kp) kd ∧ Is M H v d ∧ ∀ H', Same H H' → Q (.bl (vlB kd d)) H'
abbrev sp_fits (K : PySem.W.Frag) (cs : Cds) : Sp := spo_fits K cs
theorem ok_fits (T : Txt K mg base) : FnOk P w K mg base (L2.CX P w) 6 T.f_fits T.fd_fits ["key", "value"] (sp_fits K T.cs) := by
  refine T.F_fits.okX sc_fits len2 (fun cdv A outer s H vs Q E hr h => ?_)
  obtain ⟨a0, a1, rfl, h⟩ := h
  refine ⟨_, (pss_cons (ps_set (i := 2) sc_fits.nd rfl (.inl rfl) (pe_ix ix_tup (pv 0) pe_int (fun _ _ => rfl)))
    (pss_cons (ps_if (pt_cmpR op_eq (pv 2) pe_str (nomark _)) (pss_one (ps_ret (pe_call (ok_is_node_value T) (hr.mono (by decide)) (by rfl) T.g_is_node_value T.F_is_node_value.kp T.bi_is_node_value .nil (passes_call (E := E) (takes_of rfl rfl rfl rfl) (fun _ _ _ _ h => h)) (pa_cons (pv 1) pa_nil)))) pss_nil)
    (pss_cons (ps_if (pt_cmpR op_isN (pv 1) pe_non (nomark _)) (pss_one (ps_ret pe_bl)) pss_nil)
    (pss_cons (ps_if (pt_cmpR op_eq (pv 2) pe_str (nomark _)) (pss_one (ps_ret (pe_call (ok_is_between T) (hr.mono (by decide)) (by rfl) T.g_is_between T.F_is_between.kp T.bi_is_between .nil (passes_call (E := E) (takes_of rfl rfl rfl rfl) (fun _ _ _ _ h => h)) (pa_cons (pv 1) (pa_cons pe_int (pa_cons (pe_glob (v := .int 4294967295) rfl T.c_GREATEST ⟨_, rfl⟩) pa_nil)))))) pss_nil)
    (pss_one (ps_ret (pe_call (ok_are_cells T) (hr.mono (by decide)) (by rfl) T.g_are_cells T.F_are_cells.kp T.bi_are_cells .nil (passes_call (E := E) (takes_of rfl rfl rfl rfl) (fun _ _ _ _ h => h)) (pa_cons (pv 1) (pa_cons pe_int (pa_cons (pe_glob (v := .int 16) rfl T.c_PIECE_CELLS ⟨_, rfl⟩) pa_nil)))))))))), ?_⟩
  rw [show L2.start N_fits [a0, a1] = [some a0, some a1, none] from rfl]
  obtain ⟨M, kd, d, kp, ks, kk, rfl, rfl, ik, hi, q⟩ := h
  cases ik with
  | tup e n hs =>
  cases hs with
  | @cons x0 xr d0 dr i0 hr =>
  cases i0
  have qq := q H (fun _ _ e => e)
  have e0 : vlB (.tup (.str kk :: ks)) d = if kk = "node" then ndB d else if isNon d = true then true else if kk = "name" then d.btw 1 4294967295 else cellsB 1 16 d := rfl
  rw [e0] at q qq
  walk_at "vv"
  refine v_ixT (sqT_of e) (atI_nat (j := 0) rfl) ?_
  walk_at "vv"
  refine v_eqS ?_
  walk_at "vv"
  refine v_ifd (fun ck => ?_) (fun ck => ?_)
  · walk_at "vv"
    refine c1 ⟨M, d, hi, fun H2 s2 => ?_⟩
    have := q H2 s2
    rw [if_pos ck] at this
    exact this
  rw [if_neg ck] at q qq
  walk_at "vv"
  have en : decide (a1 = V.non) = isNon d := by cases hi <;> simp [isNon]
  refine ⟨rfl, ?_⟩
  refine ⟨_, rfl, ?_⟩
  rw [en]
  refine v_ifb (fun cn => ?_) (fun cn => ?_)
  · rw [if_pos cn] at qq
    walk_at "vv"
    exact qq
  rw [if_neg (by rw [cn]; exact Bool.false_ne_true)] at q qq
  walk_at "vv"
  refine v_eqS ?_
  walk_at "vv"
  refine v_ifd (fun c2 => ?_) (fun c2 => ?_)
  · rw [if_pos c2] at qq
    walk_at "vv"
    exact c3 ⟨M, d, 1, 4294967295, hi, rfl, rfl, qq⟩
  · walk_at "vv"
    refine c3 ⟨M, d, 1, 16, hi, rfl, rfl, by decide, fun H2 s2 => ?_⟩
    have := q H2 s2
    rw [if_neg c2] at this
    exact this
def spo_is_value (K : PySem.W.Frag) (cs : Cds) : Sp := sp2 fun k v H Q => ∃ (M : Addr → Prop) (kd d : D) (kp : Addr) (ks : List D) (kk : PySem.Str), k = .ref kp ∧ kd = .tup (.str kk :: ks) ∧ Is M H (.ref kp) kd ∧ Is M H v d ∧ M (tP cs) ∧ kd.mx ≤ 1000 ∧ kyB kd = true ∧ GxR.TabG H (tP cs) ∧ ∀ H', Fg (tP cs) H H' → Q (.bl (vlB kd d)) H'
abbrev sp_is_value (K : PySem.W.Frag) (cs : Cds) : Sp := spo_is_value K cs
theorem ok_is_value (T : Txt K mg base) : FnOk P w K mg base (L2.CX P w) 7 T.f_is_value T.fd_is_value ["key", "value"] (sp_is_value K T.cs) := by
  refine T.F_is_value.okX sc_is_value len2 (fun cdv A outer s H vs Q E hr h => ?_)
  obtain ⟨a0, a1, rfl, h⟩ := h
  refine ⟨_, (pss_cons (ps_expr (pe_call (ok_require_key T) (hr.mono (by decide)) (by rfl) T.g_require_key T.F_require_key.kp T.bi_require_key .nil (passes_call (E := E) (takes_of rfl rfl rfl rfl) (fun _ _ _ _ h => h)) (pa_cons (pv 0) pa_nil)))
    (pss_one (ps_ret (pe_call (ok_fits T) (hr.mono (by decide)) (by rfl) T.g_fits T.F_fits.kp T.bi_fits .nil (passes_call (E := E) (takes_of rfl rfl rfl rfl) (fun _ _ _ _ h => h)) (pa_cons (pv 0) (pa_cons (pv 1) pa_nil)))))), ?_⟩
  rw [show L2.start N_is_value [a0, a1] = [some a0, some a1] from rfl]
  obtain ⟨M, kd, d, kp, ks, kk, rfl, e, ik, hi, mP, hm, ky, tg, q⟩ := h
  walk_at "vv"
  refine c1 ⟨M, kd, ik, mP, hm, ky, tg, fun H2 f2 => ?_⟩
  walk_at "vv"
  exact c2 ⟨M, kd, d, kp, ks, kk, rfl, e, Is.fg ik mP f2, Is.fg hi mP f2, fun H3 s3 => q H3 (f2.trans (Fg.same s3))⟩
def spo_Lis_whole (K : PySem.W.Frag) (cs : Cds) : Sp := sp3 fun v l m H Q => ∃ (M : Addr → Prop) (d : D) (j k : Int), Is M H v d ∧ l = .int j ∧ m = .int k ∧ Q (.bl (d.btw j k)) H
abbrev sp_Lis_whole (K : PySem.W.Frag) (cs : Cds) : Sp := spo_Lis_whole K cs
theorem ok_Lis_whole (T : Txt K mg base) : FnOk P w K mg base (L2.CX P w) 1 T.f_Lis_whole T.fd_Lis_whole ["_law_thing", "_law_low", "_law_high"] (sp_Lis_whole K T.cs) := by
  refine T.F_Lis_whole.okX sc_Lis_whole len3 (fun cdv A outer s H vs Q E hr h => ?_)
  obtain ⟨a0, a1, a2, rfl, h⟩ := h
  refine ⟨_, (pss_one (ps_ret (pe_and (pe_callB call_isi (by rfl) T.b_isinstance (by decide +kernel) (pa_cons (pv 0) (pa_cons (pe_bltn (v := .ty "int") (by rfl) T.b_int (by decide +kernel) rfl) pa_nil))) (pe_and (pe_not (pe_callB call_isi (by rfl) T.b_isinstance (by decide +kernel) (pa_cons (pv 0) (pa_cons (pe_bltn (v := .ty "bool") (by rfl) T.b_bool (by decide +kernel) rfl) pa_nil)))) (pe_one (pe_chain op_le op_le (pv 1) (pv 0) (pv 2))))))), ?_⟩
  rw [show L2.start N_Lis_whole [a0, a1, a2] = [some a0, some a1, some a2] from rfl]
  obtain ⟨M, d, j, k, hi, rfl, rfl, q⟩ := h
  walk_at "vv"
  refine d_isInt hi ?_
  walk_at "vv"
  refine v_ifb (fun c => ?_) (fun c => ?_)
  · walk_at "vv"
    refine d_isBl hi ?_
    walk_at "vv"
    refine v_ifb (fun c2 => ?_) (fun c2 => ?_)
    · rw [show d.btw j k = false by cases d <;> simp_all [D.btw, D.isBl]] at q
      exact q
    · obtain ⟨i, rfl⟩ : ∃ i, d = .int i := by cases d <;> simp_all [D.isInt, D.isBl]
      cases hi
      walk_at "vv"
      refine v_ifd (fun c => ?_) (fun c => ?_)
      · walk_at "vv"
        rw [show D.btw j k (.int i) = decide (i ≤ k) by simp [D.btw, c]] at q
        exact q
      · rw [show D.btw j k (.int i) = false from decide_eq_false fun h => c h.1] at q
        exact q
  · rw [show d.btw j k = false by cases d <;> simp_all [D.btw, D.isInt]] at q
    exact q
def spo_Lis_name (K : PySem.W.Frag) (cs : Cds) : Sp := sp1 fun v H Q => ∃ (M : Addr → Prop) (d : D), Is M H v d ∧ d.mx ≤ 10000 ∧ ∀ H', Same H H' → Q (.bl (nmB d)) H'
abbrev sp_Lis_name (K : PySem.W.Frag) (cs : Cds) : Sp := spo_Lis_name K cs
theorem ok_Lis_name (T : Txt K mg base) : FnOk P w K mg base (L2.CX P w) 1 T.f_Lis_name T.fd_Lis_name ["_law_thing"] (sp_Lis_name K T.cs) := by
  refine T.F_Lis_name.okX sc_Lis_name len1 (fun cdv A outer s H vs Q E hr h => ?_)
  obtain ⟨a0, rfl, h⟩ := h
  refine ⟨_, (pss_cons (ps_if (PW.pt (pw_or (pt_not (pt_val (pe_callB call_isi (by rfl) T.b_isinstance (by decide +kernel) (pa_cons (pv 0) (pa_cons (pe_bltn (v := .ty "str") (by rfl) T.b_str (by decide +kernel) rfl) pa_nil))))) (pw_or1 (pt_not (pt_chain op_lt op_lt pe_int (pe_callB call_len_str (by rfl) T.b_len PySem.boot_len (pa_cons (pv 0) pa_nil)) pe_int))))) (pss_one (ps_ret pe_bl)) pss_nil)
    (pss_one (ps_ret (pe_cmpR (op_eqEL hr.units) (pe_lc (own := [("_law_sign", 1)]) (g := gName 1) (by rfl) sc_Lis_name.nd (pi_str (pv 0)) (blkOk_by (own := [("_law_sign", 1)]) (N := N_Lis_name) (sc := defScope s_Lis_name) (by decide +kernel)) (fun _ _ _ _ _ => pg_name (i := 1) sc_Lis_name.nd rfl (Or.inl rfl)) (fun _ _ _ _ _ => pts_one (pt_cmpR op_notInS (pv 1) pe_str rfl)) (fun _ _ _ _ _ => (pv 1))) (pe_lst pa_nil) (nomark _))))), ?_⟩
  rw [show L2.start N_Lis_name [a0] = [some a0, none] from rfl]
  obtain ⟨M, d, hi, hm, q⟩ := h
  walk_at "vv"
  refine d_isStr hi ?_
  walk_at "vv"
  refine v_ifb (fun c => ?_) (fun c => ?_)
  · obtain ⟨z, rfl⟩ : ∃ z, d = .str z := by cases d <;> simp_all [D.isStr]
    cases hi
    have hz : z.length ≤ 10000 := hm
    have hz2 : z.length ≤ sizeLine := Nat.le_trans hz (by decide)
    walk_at "vv"
    refine ⟨z, rfl, hz2, ?_⟩
    walk_at "vv"
    have no : ¬ (1 ≤ z.length ∧ z.length ≤ 9) → Q (.bl false) H := fun n => by
      have := q H (fun _ _ e => e)
      rw [nmB_str, decide_eq_false n, Bool.false_and] at this
      exact this
    refine v_ifd (fun c1 => ?_) (fun c1 => ?_)
    · walk_at "vv"
      refine v_ifd (fun c2 => ?_) (fun c2 => ?_)
      · walk_at "vv"
        refine ⟨_, rfl, z, rfl, fun D hD => ?_⟩
        refine lc_str (z := z) (fun i H2 => (∃ acc, H2 D = some (.lst acc) ∧ acc.length ≤ i ∧ decide (acc = []) = (z.cps.toList.take i).all inS) ∧ Same H H2) ⟨⟨[], upd_same, Nat.le_refl _, rfl⟩, same_new hD⟩ ?_ ?_
        · rintro i c H2 hc ⟨⟨acc, eD, la, ea⟩, s2⟩
          have hc' : z.cps.toList[i]? = some c := by rw [Array.getElem?_toList]; exact hc
          have hi : i < z.cps.toList.length := (List.getElem?_eq_some_iff.mp hc').1
          have hil : i < z.length := by rw [Array.length_toList] at hi; exact hi
          have et : z.cps.toList.take (i + 1) = z.cps.toList.take i ++ [c] := by rw [List.take_add_one, hc']; rfl
          refine ⟨rfl, ?_⟩
          walk_at "vv"
          refine ⟨c, _, rfl, rfl, ?_⟩
          refine ⟨_, rfl, ?_⟩
          by_cases cc : c ∈ SG.cps.toList
          · rw [decide_eq_true (show c ∈ (Str.ofString "abcdefghijklmnopqrstuvwxyz0123456789.-").cps.toList from cc), Bool.not_true, if_neg Bool.false_ne_true]
            refine ⟨⟨acc, eD, by omega, ?_⟩, s2⟩
            rw [et, List.all_append, ← ea]
            simp [inS, cc]
          · rw [decide_eq_false (show ¬ c ∈ (Str.ofString "abcdefghijklmnopqrstuvwxyz0123456789.-").cps.toList from cc), Bool.not_false, if_pos rfl]
            walk_at "vv"
            refine ⟨acc, eD, Nat.lt_of_le_of_lt la (Nat.lt_of_lt_of_le (show i < 1000 by omega) (by decide)), ⟨_, upd_same, by rw [List.length_append]; simp; omega, ?_⟩, same_own s2 hD⟩
            rw [et, List.all_append]
            simp [inS, cc]
        · rintro H2 ⟨⟨acc, eD, la, ea⟩, s2⟩
          walk_at "vv"
          refine a_lst (by simp) fun p2 H3 hp3 s3 e3 => ?_
          refine ⟨_, _, acc, rfl, rfl, sqL_of (s3 _ _ eD), sqL_of e3, ?_⟩
          have := q H3 (fun b o e => s3 b o (s2 b o e))
          rw [nmB_str, decide_eq_true ⟨by omega, by omega⟩, Bool.true_and] at this
          rw [ea, ← Array.length_toList, List.take_length]
          exact this
      · walk_at "vv"
        exact no (by omega)
    · walk_at "vv"
      exact no (by omega)
  · walk_at "vv"
    have := q H (fun _ _ e => e)
    rw [show nmB d = false by cases d <;> simp_all [nmB, D.isStr]] at this
    exact this
def spo_Lis_key (K : PySem.W.Frag) (cs : Cds) : Sp := sp1 fun v H Q => ∃ (M : Addr → Prop) (d : D), Is M H v d ∧ d.mx ≤ 1000 ∧ ∀ H', Same H H' → Q (.bl (kyB d)) H'
abbrev sp_Lis_key (K : PySem.W.Frag) (cs : Cds) : Sp := spo_Lis_key K cs
theorem ok_Lis_key (T : Txt K mg base) : FnOk P w K mg base (L2.CX P w) 2 T.f_Lis_key T.fd_Lis_key ["_law_thing"] (sp_Lis_key K T.cs) := by
  refine T.F_Lis_key.okX sc_Lis_key len1 (fun cdv A outer s H vs Q E hr h => ?_)
  obtain ⟨a0, rfl, h⟩ := h
  refine ⟨_, (pss_cons (ps_if (PW.pt (pw_or (pt_not (pt_val (pe_callB call_isi (by rfl) T.b_isinstance (by decide +kernel) (pa_cons (pv 0) (pa_cons (pe_bltn (v := .ty "tuple") (by rfl) T.b_tuple (by decide +kernel) rfl) pa_nil))))) (pw_or (pt_not (pt_chain op_lt op_lt pe_int (pe_callB cv_len (by rfl) T.b_len PySem.boot_len (pa_cons (pv 0) pa_nil)) pe_int)) (pw_or1 (pt_not (pt_val (pe_callB call_isi (by rfl) T.b_isinstance (by decide +kernel) (pa_cons (pe_ix ix_tup (pv 0) pe_int (fun _ _ => rfl)) (pa_cons (pe_bltn (v := .ty "str") (by rfl) T.b_str (by decide +kernel) rfl) pa_nil))))))))) (pss_one (ps_ret pe_bl)) pss_nil)
    (pss_cons (ps_if (pt_cmpR op_eq (pe_ix ix_tup (pv 0) pe_int (fun _ _ => rfl)) pe_str (nomark _)) (pss_one (ps_ret (pe_and (pe_cmpR op_eq (pe_callB cv_len (by rfl) T.b_len PySem.boot_len (pa_cons (pv 0) pa_nil)) pe_int (nomark _)) (pe_and (pe_call (ok_Lis_whole T) (hr.mono (by decide)) (by rfl) T.g_Lis_whole T.F_Lis_whole.kp T.bi_Lis_whole .nil (passes_call (E := E) (takes_of rfl rfl rfl rfl) (fun _ _ _ _ h => h)) (pa_cons (pe_ix ix_tup (pv 0) pe_int (fun _ _ => rfl)) (pa_cons pe_int (pa_cons pe_int pa_nil)))) (pe_one (pe_call (ok_Lis_name T) (hr.mono (by decide)) (by rfl) T.g_Lis_name T.F_Lis_name.kp T.bi_Lis_name .nil (passes_call (E := E) (takes_of rfl rfl rfl rfl) (fun _ _ _ _ h => h)) (pa_cons (pe_ix ix_tup (pv 0) pe_int (fun _ _ => rfl)) pa_nil))))))) pss_nil)
    (pss_cons (ps_if (pt_not (pt_val (pe_call (ok_Lis_whole T) (hr.mono (by decide)) (by rfl) T.g_Lis_whole T.F_Lis_whole.kp T.bi_Lis_whole .nil (passes_call (E := E) (takes_of rfl rfl rfl rfl) (fun _ _ _ _ h => h)) (pa_cons (pe_ix ix_tup (pv 0) pe_int (fun _ _ => rfl)) (pa_cons pe_int (pa_cons pe_int pa_nil)))))) (pss_one (ps_ret pe_bl)) pss_nil)
    (pss_cons (ps_if (pt_cmpR op_eq (pe_ix ix_tup (pv 0) pe_int (fun _ _ => rfl)) pe_str (nomark _)) (pss_one (ps_ret (pe_cmpR op_eq (pe_callB cv_len (by rfl) T.b_len PySem.boot_len (pa_cons (pv 0) pa_nil)) pe_int (nomark _)))) pss_nil)
    (pss_one (ps_ret (pe_and (pe_cmpR op_eq (pe_ix ix_tup (pv 0) pe_int (fun _ _ => rfl)) pe_str (nomark _)) (pe_and (pe_cmpR op_eq (pe_callB cv_len (by rfl) T.b_len PySem.boot_len (pa_cons (pv 0) pa_nil)) pe_int (nomark _)) (pe_one (pe_call (ok_Lis_whole T) (hr.mono (by decide)) (by rfl) T.g_Lis_whole T.F_Lis_whole.kp T.bi_Lis_whole .nil (passes_call (E := E) (takes_of rfl rfl rfl rfl) (fun _ _ _ _ h => h)) (pa_cons (pe_ix ix_tup (pv 0) pe_int (fun _ _ => rfl)) (pa_cons pe_int (pa_cons pe_int pa_nil))))))))))))), ?_⟩
  rw [show L2.start N_Lis_key [a0] = [some a0] from rfl]
  obtain ⟨M, d, hi, hm, q⟩ := h
  have qq := q H (fun _ _ e => e)
  walk_at "vv"
  refine d_isTup hi ?_
  walk_at "vv"
  refine v_ifb (fun c => ?_) (fun c => ?_)
  case refine_2 =>
    walk_at "vv"
    rw [show kyB d = false by cases d <;> simp_all [kyB, D.isTup]] at qq
    exact qq
  obtain ⟨ds, rfl⟩ : ∃ ds, d = .tup ds := by cases d <;> simp_all [D.isTup]
  cases id hi with
  | tup e n hs =>
  rename_i a xs
  have lx := hs.len
  have lm := mx_len hm
  have mxs := mx_le hm
  walk_at "vv"
  refine v_lenT (sqT_of e) ?_
  walk_at "vv"
  by_cases hl : ds.length = 2 ∨ ds.length = 3
  case neg =>
    rw [kyB_no (by omega) (by omega)] at qq
    refine v_ifd (fun c1 => ?_) (fun c1 => ?_)
    · walk_at "vv"
      refine v_ifd (fun c2 => ?_) (fun c2 => ?_)
      · omega
      · walk_at "vv"
        exact qq
    · walk_at "vv"
      exact qq
  refine v_ifd (fun h1 => ?_) (fun h1 => absurd (show (1 : Int) < (xs.length : Int) by omega) h1)
  walk_at "vv"
  refine v_ifd (fun h2 => ?_) (fun h2 => absurd (show (xs.length : Int) < 4 by omega) h2)
  cases hs with
  | nil => simp at hl
  | @cons x0 xr d0 dr i0 hr =>
  walk_at "vv"
  refine v_ixT (sqT_of e) (atI_nat (j := 0) rfl) ?_
  walk_at "vv"
  refine d_isStr i0 ?_
  walk_at "vv"
  refine v_ifb (fun c0 => ?_) (fun c0 => ?_)
  case refine_2 =>
    walk_at "vv"
    rw [kyB_ns c0] at qq
    exact qq
  obtain ⟨k, rfl⟩ : ∃ k, d0 = .str k := by cases d0 <;> simp_all [D.isStr]
  cases i0
  cases hr with
  | nil => simp at hl
  | @cons x1 xr d1 dr i1 hr =>
  walk_at "vv"
  refine v_ixT (sqT_of e) (atI_nat (j := 0) rfl) ?_
  walk_at "vv"
  refine v_eqS ?_
  walk_at "vv"
  cases hr with
  | nil =>
    rw [ky2] at qq
    refine v_ifd (fun ck => ?_) (fun ck => ?_)
    · subst ck
      rw [decide_eq_false (by decide +kernel), Bool.false_and] at qq
      walk_at "vv"
      refine v_lenT (sqT_of e) ?_
      walk_at "vv"
      exact qq
    walk_at "vv"
    refine v_ixT (sqT_of e) (atI_nat (j := 1) rfl) ?_
    walk_at "vv"
    refine c3 ⟨M, d1, 1, 4294967295, i1, rfl, rfl, ?_⟩
    walk_at "vv"
    refine v_ifb (fun cb => ?_) (fun cb => ?_)
    case refine_2 =>
      rw [cb, Bool.and_false] at qq
      walk_at "vv"
      exact qq
    rw [cb, Bool.and_true] at qq
    walk_at "vv"
    refine v_ixT (sqT_of e) (atI_nat (j := 0) rfl) ?_
    walk_at "vv"
    refine v_eqS ?_
    walk_at "vv"
    refine v_ifd (fun c2 => ?_) (fun c2 => ?_)
    · rw [decide_eq_true c2] at qq
      walk_at "vv"
      refine v_lenT (sqT_of e) ?_
      walk_at "vv"
      exact qq
    rw [decide_eq_false c2] at qq
    walk_at "vv"
    refine v_ixT (sqT_of e) (atI_nat (j := 0) rfl) ?_
    walk_at "vv"
    refine v_eqS ?_
    walk_at "vv"
    refine v_ifd (fun c3' => ?_) (fun c3' => ?_)
    · walk_at "vv"
      refine v_lenT (sqT_of e) ?_
      walk_at "vv"
      exact qq
    · walk_at "vv"
      exact qq
  | @cons x2 xr2 d2 dr2 i2 hr2 =>
    cases hr2 with
    | cons _ _ => simp only [List.length_cons] at hl; omega
    | nil =>
    rw [ky3] at qq q
    have m2 : d2.mx ≤ 10000 := Nat.le_trans (mxs d2 (by simp)) (by decide)
    refine v_ifd (fun ck => ?_) (fun ck => ?_)
    · rw [if_pos ck] at qq q
      walk_at "vv"
      refine v_lenT (sqT_of e) ?_
      walk_at "vv"
      rw [show decide ((([V.str k, x1, x2].length : Nat) : Int) = 3) = true from rfl]
      walk_at "vv"
      refine v_ixT (sqT_of e) (atI_nat (j := 1) rfl) ?_
      walk_at "vv"
      refine c3 ⟨M, d1, 0, 4294967295, i1, rfl, rfl, ?_⟩
      walk_at "vv"
      refine v_ifb (fun cb => ?_) (fun cb => ?_)
      · rw [cb] at q
        walk_at "vv"
        refine v_ixT (sqT_of e) (atI_nat (j := 2) rfl) ?_
        walk_at "vv"
        refine c1 ⟨M, d2, i2, m2, fun H3 s3 => ?_⟩
        exact q H3 s3
      · rw [cb, Bool.false_and] at qq
        exact qq
    rw [if_neg ck] at qq
    walk_at "vv"
    refine v_ixT (sqT_of e) (atI_nat (j := 1) rfl) ?_
    walk_at "vv"
    refine c3 ⟨M, d1, 1, 4294967295, i1, rfl, rfl, ?_⟩
    walk_at "vv"
    refine v_ifb (fun cb => ?_) (fun cb => ?_)
    case refine_2 =>
      rw [cb, Bool.false_and] at qq
      walk_at "vv"
      exact qq
    rw [cb, Bool.true_and] at qq
    walk_at "vv"
    refine v_ixT (sqT_of e) (atI_nat (j := 0) rfl) ?_
    walk_at "vv"
    refine v_eqS ?_
    walk_at "vv"
    refine v_ifd (fun c2 => ?_) (fun c2 => ?_)
    · subst c2
      rw [decide_eq_false (by decide +kernel), Bool.false_and] at qq
      walk_at "vv"
      refine v_lenT (sqT_of e) ?_
      walk_at "vv"
      exact qq
    walk_at "vv"
    refine v_ixT (sqT_of e) (atI_nat (j := 0) rfl) ?_
    walk_at "vv"
    refine v_eqS ?_
    walk_at "vv"
    refine v_ifd (fun c3' => ?_) (fun c3' => ?_)
    · rw [decide_eq_true c3', Bool.true_and] at qq
      walk_at "vv"
      refine v_lenT (sqT_of e) ?_
      walk_at "vv"
      rw [show decide ((([V.str k, x1, x2].length : Nat) : Int) = 3) = true from rfl]
      walk_at "vv"
      refine v_ixT (sqT_of e) (atI_nat (j := 2) rfl) ?_
      walk_at "vv"
      exact c3 ⟨M, d2, 0, 15, i2, rfl, rfl, qq⟩
    · rw [decide_eq_false c3', Bool.false_and] at qq
      walk_at "vv"
      exact qq
def spo_Lis_value (K : PySem.W.Frag) (cs : Cds) : Sp := sp2 fun k v H Q => ∃ (M : Addr → Prop) (kd d : D) (kp : Addr) (ks : List D) (kk : PySem.Str), k = .ref kp ∧ kd = .tup (.str kk :: ks) ∧ kyB kd = true ∧ Is M H (.ref kp) kd ∧ Is M H v d ∧ d.mx ≤ 1000 ∧ ∀ H', Same H H' → Q (.bl (vlB kd d)) H'
abbrev sp_Lis_value (K : PySem.W.Frag) (cs : Cds) : Sp := spo_Lis_value K cs
theorem ok_Lis_value (T : Txt K mg base) : FnOk P w K mg base (L2.CX P w) 2 T.f_Lis_value T.fd_Lis_value ["_law_key_here", "_law_thing"] (sp_Lis_value K T.cs) := by
  refine T.F_Lis_value.okX sc_Lis_value len2 (fun cdv A outer s H vs Q E hr h => ?_)
  obtain ⟨a0, a1, rfl, h⟩ := h
  refine ⟨_, (pss_cons (ps_if (pt_cmpR op_isN (pv 1) pe_non (nomark _)) (pss_one (ps_ret (pe_cmpR op_ne (pe_ix ix_tup (pv 0) pe_int (fun _ _ => rfl)) pe_str (nomark _)))) pss_nil)
    (pss_cons (ps_if (pt_cmpR op_eq (pe_ix ix_tup (pv 0) pe_int (fun _ _ => rfl)) pe_str (nomark _)) (pss_one (ps_ret (pe_call (ok_Lis_whole T) (hr.mono (by decide)) (by rfl) T.g_Lis_whole T.F_Lis_whole.kp T.bi_Lis_whole .nil (passes_call (E := E) (takes_of rfl rfl rfl rfl) (fun _ _ _ _ h => h)) (pa_cons (pv 1) (pa_cons pe_int (pa_cons pe_int pa_nil)))))) pss_nil)
    (pss_cons (ps_if (pt_not (pt_val (pe_callB call_isi (by rfl) T.b_isinstance (by decide +kernel) (pa_cons (pv 1) (pa_cons (pe_bltn (v := .ty "tuple") (by rfl) T.b_tuple (by decide +kernel) rfl) pa_nil))))) (pss_one (ps_ret pe_bl)) pss_nil)
    (pss_cons (ps_if (pt_cmpR op_eq (pe_ix ix_tup (pv 0) pe_int (fun _ _ => rfl)) pe_str (nomark _)) (pss_one (ps_ret (pe_and (pe_chain op_lt op_lt pe_int (pe_callB cv_len (by rfl) T.b_len PySem.boot_len (pa_cons (pv 1) pa_nil)) pe_int) (pe_one (pe_callB (cr_all rfl) (by rfl) T.b_all (by decide +kernel) (pa_cons (pe_lc (own := [("_law_each", 2)]) (g := gName 2) (tt := tYes) (by rfl) sc_Lis_value.nd (pi_tup (pv 1)) (blkOk_by (own := [("_law_each", 2)]) (N := N_Lis_value) (sc := defScope s_Lis_value) (by decide +kernel)) (fun _ _ _ _ _ => pg_name (i := 2) sc_Lis_value.nd rfl (Or.inl rfl)) (fun _ _ _ _ _ => pts_nil) (fun _ _ _ _ _ => (pe_call (ok_Lis_whole T) (hr.mono (by decide)) (by rfl) T.g_Lis_whole T.F_Lis_whole.kp T.bi_Lis_whole .nil passF (pa_cons (pv 2) (pa_cons pe_int (pa_cons pe_int pa_nil)))))) pa_nil)))))) pss_nil)
    (pss_cons (ps_if (PW.pt (pw_or (pt_cmpR op_ne (pe_callB cv_len (by rfl) T.b_len PySem.boot_len (pa_cons (pv 1) pa_nil)) pe_int (nomark _)) (pw_or (pt_not (pt_val (pe_callB call_isi (by rfl) T.b_isinstance (by decide +kernel) (pa_cons (pe_ix ix_tup (pv 1) pe_int (fun _ _ => rfl)) (pa_cons (pe_bltn (v := .ty "str") (by rfl) T.b_str (by decide +kernel) rfl) pa_nil))))) (pw_or1 (pt_cmpR op_notIn_seq (pe_ix ix_tup (pv 1) pe_int (fun _ _ => rfl)) (pe_tup (pa_cons pe_str (pa_cons pe_str pa_nil))) rfl))))) (pss_one (ps_ret pe_bl)) pss_nil)
    (pss_one (ps_ret (pe_call (ok_Lis_whole T) (hr.mono (by decide)) (by rfl) T.g_Lis_whole T.F_Lis_whole.kp T.bi_Lis_whole .nil (passes_call (E := E) (takes_of rfl rfl rfl rfl) (fun _ _ _ _ h => h)) (pa_cons (pe_ix ix_tup (pv 1) pe_int (fun _ _ => rfl)) (pa_cons pe_int (pa_cons (pe_ifExp (pt_cmpR op_eq (pe_ix ix_tup (pv 1) pe_int (fun _ _ => rfl)) pe_str (nomark _)) pe_int pe_int) pa_nil))))))))))), ?_⟩
  rw [show L2.start N_Lis_value [a0, a1] = [some a0, some a1, none] from rfl]
  obtain ⟨M, kd, d, kp, ks, kk, rfl, e0, hk, ik, hi, hm, q⟩ := h
  cases e0
  cases ik with
  | tup ek n hs =>
  cases hs with
  | @cons x0 xr d0 dr i0 hr =>
  cases i0
  have qq := q H (fun _ _ e => e)
  have e0 : vlB (.tup (.str kk :: ks)) d = if kk = "node" then ndB d else if isNon d = true then true else if kk = "name" then d.btw 1 4294967295 else cellsB 1 16 d := rfl
  have kinds := ky_kinds hk
  walk_at "vv"
  have en : decide (a1 = V.non) = isNon d := by cases hi <;> simp [isNon]
  refine ⟨rfl, ?_⟩
  refine ⟨_, rfl, ?_⟩
  rw [en]
  refine v_ifb (fun cn => ?_) (fun cn => ?_)
  · have : d = .non := by cases d <;> simp_all [isNon]
    subst this
    walk_at "vv"
    refine v_ixT (sqT_of ek) (atI_nat (j := 0) rfl) ?_
    walk_at "vv"
    refine v_neS ?_
    rw [e0] at qq
    by_cases hn : kk = "node"
    · rw [if_pos hn] at qq
      rw [decide_eq_false (fun h => h hn)]
      exact qq
    · rw [if_neg hn, if_pos cn] at qq
      rw [decide_eq_true hn]
      exact qq
  walk_at "vv"
  refine v_ixT (sqT_of ek) (atI_nat (j := 0) rfl) ?_
  walk_at "vv"
  refine v_eqS ?_
  walk_at "vv"
  refine v_ifd (fun ck => ?_) (fun ck => ?_)
  · walk_at "vv"
    refine c3 ⟨M, d, 1, 4294967295, hi, rfl, rfl, ?_⟩
    rw [e0, if_neg (by rw [ck]; decide +kernel), if_neg (by rw [cn]; exact Bool.false_ne_true), if_pos ck] at qq
    exact qq
  walk_at "vv"
  refine d_isTup hi ?_
  walk_at "vv"
  refine v_ifb (fun ct => ?_) (fun ct => ?_)
  case refine_2 =>
    walk_at "vv"
    rw [show vlB (.tup (.str kk :: ks)) d = false by rw [e0]; split <;> cases d <;> simp_all [ndB, cellsB, isNon, D.isTup]] at qq
    exact qq
  obtain ⟨ds, rfl⟩ : ∃ ds, d = .tup ds := by cases d <;> simp_all [D.isTup]
  cases id hi with
  | tup e n hs =>
  rename_i a xs
  have lx := hs.len
  have lm := mx_len hm
  walk_at "vv"
  refine v_ixT (sqT_of ek) (atI_nat (j := 0) rfl) ?_
  walk_at "vv"
  refine v_eqS ?_
  walk_at "vv"
  refine v_ifd (fun c2 => ?_) (fun c2 => ?_)
  · have e1 : vlB (.tup (.str kk :: ks)) (.tup ds) = (decide (1 ≤ ds.length ∧ ds.length ≤ 16) && ds.all (D.btw 0 65535)) := by
      rw [e0, if_neg (by rw [c2]; decide +kernel), if_neg (by rw [cn]; exact Bool.false_ne_true), if_neg ck]
      rfl
    rw [e1] at q qq
    walk_at "vv"
    refine v_lenT (sqT_of e) ?_
    walk_at "vv"
    refine v_ifd (fun c3' => ?_) (fun c3' => ?_)
    case refine_2 =>
      rw [decide_eq_false (by omega), Bool.false_and] at qq
      walk_at "vv"
      exact qq
    walk_at "vv"
    refine v_ifd (fun c4' => ?_) (fun c4' => ?_)
    case refine_2 =>
      rw [decide_eq_false (by omega), Bool.false_and] at qq
      walk_at "vv"
      exact qq
    rw [decide_eq_true ⟨by omega, by omega⟩, Bool.true_and] at q
    walk_at "vv"
    refine ⟨⟨xs, sqT_of e⟩, fun D hD => ?_⟩
    refine lc_tup (xs := xs) (fun i H2 => H2 D = some (.lst (((ds.take i).map (Vc.D.btw 0 65535)).map V.bl)) ∧ Same H H2) ⟨upd_same, same_new hD⟩ (fun i H2 _ h => sqT_of (h.2 _ _ e)) ?_ ?_
    · rintro i x H2 hx ⟨eD, s2⟩
      obtain ⟨dx, hd, ix⟩ := hs.get hx
      have hi' : i < ds.length := (List.getElem?_eq_some_iff.mp hd).1
      refine ⟨rfl, ?_⟩
      walk_at "vv"
      refine c3 ⟨M, dx, 0, 65535, ix.same s2, rfl, rfl, ?_⟩
      refine ⟨_, eD, by rw [List.length_map, List.length_map]; exact Nat.lt_of_le_of_lt (List.length_take_le _ _) (Nat.lt_of_lt_of_le (show i < 1000 by omega) (by decide)), ?_, same_own s2 hD⟩
      rw [upd_same, List.take_add_one, hd, Option.toList_some, List.map_append, List.map_append]
      rfl
    · rintro H2 ⟨eD, s2⟩
      rw [lx, List.take_length] at eD
      walk_at "vv"
      refine v_all (sqL_of eD) ?_
      have := q H2 s2
      rw [List.all_map]
      exact this
  walk_at "vv"
  have kn : kk = "node" := by rcases kinds with h | h | h <;> first | exact h | exact absurd h ck | exact absurd h c2
  rw [e0, if_pos kn] at q qq
  refine v_lenT (sqT_of e) ?_
  walk_at "vv"
  refine v_ifd (fun c1 => ?_) (fun c1 => ?_)
  · walk_at "vv"
    rw [ndB_no (by omega)] at qq
    exact qq
  walk_at "vv"
  have lx2 : ds.length = 2 := by omega
  match ds, xs, hs, lx2, e, q, qq with
  | [d0, d1], [x0, x1], .cons i0 (.cons i1 .nil), _, e, q, qq =>
  refine v_ixT (sqT_of e) (atI_nat (j := 0) rfl) ?_
  walk_at "vv"
  refine d_isStr i0 ?_
  walk_at "vv"
  refine v_ifb (fun c0 => ?_) (fun c0 => ?_)
  case refine_2 =>
    walk_at "vv"
    rw [ndB_ns c0] at qq
    exact qq
  obtain ⟨k, rfl⟩ : ∃ k, d0 = .str k := by cases d0 <;> simp_all [D.isStr]
  cases i0
  walk_at "vv"
  refine v_ixT (sqT_of e) (atI_nat (j := 0) rfl) ?_
  walk_at "vv"
  refine a_tup (by simp) fun p1 H1 hp1 s1 e1 => ?_
  refine ⟨_, _, rfl, .inr (sqT_of e1), rfl, rfl, ?_⟩
  refine ⟨_, rfl, ?_⟩
  have q1 := q H1 s1
  have e' := s1 _ _ e
  rw [nd2] at q1
  rw [if_pos rfl, inV_two]
  by_cases hf : k = "folder"
  · subst hf
    rw [if_pos rfl] at q1
    rw [decide_eq_true (.inl rfl), Bool.not_true]
    walk_at "vv"
    refine v_ixT (sqT_of e') (atI_nat (j := 1) rfl) ?_
    walk_at "vv"
    refine v_ixT (sqT_of e') (atI_nat (j := 0) rfl) ?_
    walk_at "vv"
    exact c3 ⟨M, d1, 0, 0, i1.same s1, rfl, rfl, q1⟩
  by_cases hg : k = "file"
  · subst hg
    rw [if_neg (by decide +kernel), decide_eq_true rfl, Bool.true_and] at q1
    rw [decide_eq_true (.inr rfl), Bool.not_true]
    walk_at "vv"
    refine v_ixT (sqT_of e') (atI_nat (j := 1) rfl) ?_
    walk_at "vv"
    refine v_ixT (sqT_of e') (atI_nat (j := 0) rfl) ?_
    walk_at "vv"
    refine v_eqS ?_
    walk_at "vv"
    rw [decide_eq_false (by decide +kernel)]
    walk_at "vv"
    exact c3 ⟨M, d1, 0, 256, i1.same s1, rfl, rfl, q1⟩
  · rw [if_neg hf, decide_eq_false hg, Bool.false_and] at q1
    rw [decide_eq_false (by rintro (h | h); exact hf h; exact hg h), Bool.not_false]
    walk_at "vv"
    exact q1
def spo_Lright (K : PySem.W.Frag) (cs : Cds) : Sp := sp1 fun v H Q => ∃ W : Addr, v = .ref W ∧ Wl [] H W ∧ GxR.TabG H (tP cs) ∧ tP cs ≠ W ∧ ∀ (H' : Hp), (∀ b o, b ≠ W → b ≠ tP cs → H b = some o → H' b = some o) → GxR.TabG H' (tP cs) → Q (.bl true) H'
abbrev sp_Lright (K : PySem.W.Frag) (cs : Cds) : Sp := spo_Lright K cs
theorem ok_Lright (T : Txt K mg base) : FnG P w K mg base 20 T.f_Lright T.fd_Lright ["_law_spring_here"] (sp_Lright K T.cs) := by
  refine okG T.F_Lright sc_Lright len1 (fun cdv A outer s H vs Q hgd hr h => ?_)
  obtain ⟨a0, rfl, h⟩ := h
  refine ⟨_, (pss_cons (ps_par (i := 1) (j := 2) (by rfl) sc_Lright.nd rfl rfl (by decide) rfl rfl (pa_cons (pe_call (ok_Lkey T) (hr.mono (by decide)) (by rfl) T.g_Lkey T.F_Lkey.kp T.bi_Lkey .nil passF (pa_cons (pv 0) pa_nil)) (pa_cons (pe_call (ok_Lkey T) (hr.mono (by decide)) (by rfl) T.g_Lkey T.F_Lkey.kp T.bi_Lkey .nil passF (pa_cons (pv 0) pa_nil)) pa_nil)) (by rfl))
    (pss_cons (ps_par (i := 3) (j := 4) (by rfl) sc_Lright.nd rfl rfl (by decide) rfl rfl (pa_cons (pe_lst pa_nil) (pa_cons (pe_lst pa_nil) pa_nil)) (by rfl))
    (pss_cons (ps_for PassesOwn.never rfl (pi_list (pe_call (ok_Lthings T) (hr.mono (by decide)) (by rfl) T.g_Lthings T.F_Lthings.kp T.bi_Lthings .nil passF (pa_cons (pv 0) (pa_cons (pv 1) pa_nil)))) (pg_name (i := 5) sc_Lright.nd rfl (.inl rfl))
      (pss_cons (ps_expr (pe_bm PySem.F.plainAttrs_list PySem.F.slot_list_append PySem.F.type_list_append mt_append (pv 3) (pa_cons (pe_lst (pa_cons (pe_call (ok_is_key T) (hr.mono (by decide)) (by rfl) T.g_is_key T.F_is_key.kp T.bi_is_key .nil passF (pa_cons (pv 5) pa_nil)) (pa_cons (pe_callK0O (ok_is_key T) (hr.mono (by decide)) (by rfl) T.g_is_key T.F_is_key.kp (T.kb_is_key_0_value) passF (pk_cons (pv 5) pk_nil)) pa_nil))) pa_nil)))
      (pss_one (ps_expr (pe_bm PySem.F.plainAttrs_list PySem.F.slot_list_append PySem.F.type_list_append mt_append (pv 4) (pa_cons (pe_op op_rep (pe_lst (pa_cons (pe_call (ok_Lis_key T) (hr.mono (by decide)) (by rfl) T.g_Lis_key T.F_Lis_key.kp T.bi_Lis_key .nil passF (pa_cons (pv 5) pa_nil)) pa_nil)) pe_int) pa_nil))))))
    (pss_cons (ps_for PassesOwn.never rfl (pi_list (pe_call (ok_Lthings T) (hr.mono (by decide)) (by rfl) T.g_Lthings T.F_Lthings.kp T.bi_Lthings .nil passF (pa_cons (pv 0) (pa_cons (pe_call (ok_Lname T) (hr.mono (by decide)) (by rfl) T.g_Lname T.F_Lname.kp T.bi_Lname .nil passF (pa_cons (pv 0) pa_nil)) pa_nil)))) (pg_name (i := 5) sc_Lright.nd rfl (.inl rfl))
      (pss_cons (ps_expr (pe_bm PySem.F.plainAttrs_list PySem.F.slot_list_append PySem.F.type_list_append mt_append (pv 3) (pa_cons (pe_lst (pa_cons (pe_call (ok_is_name T) (hr.mono (by decide)) (by rfl) T.g_is_name T.F_is_name.kp T.bi_is_name .nil passF (pa_cons (pv 5) pa_nil)) (pa_cons (pe_callK0O (ok_is_name T) (hr.mono (by decide)) (by rfl) T.g_is_name T.F_is_name.kp (T.kb_is_name_0_value) passF (pk_cons (pv 5) pk_nil)) (pa_cons (pe_call (ok_is_key T) (hr.mono (by decide)) (by rfl) T.g_is_key T.F_is_key.kp T.bi_is_key .nil passF (pa_cons (pe_tup (pa_cons pe_str (pa_cons pe_int (pa_cons (pv 5) pa_nil)))) pa_nil)) pa_nil)))) pa_nil)))
      (pss_one (ps_expr (pe_bm PySem.F.plainAttrs_list PySem.F.slot_list_append PySem.F.type_list_append mt_append (pv 4) (pa_cons (pe_op op_rep (pe_lst (pa_cons (pe_call (ok_Lis_name T) (hr.mono (by decide)) (by rfl) T.g_Lis_name T.F_Lis_name.kp T.bi_Lis_name .nil passF (pa_cons (pv 5) pa_nil)) pa_nil)) pe_int) pa_nil))))))
    (pss_cons (ps_for PassesOwn.never rfl (pi_tup (pe_tup (pa_cons (pe_call (ok_Lvalue T) (hr.mono (by decide)) (by rfl) T.g_Lvalue T.F_Lvalue.kp T.bi_Lvalue .nil passF (pa_cons (pv 0) (pa_cons (pv 1) pa_nil))) (pa_cons (pe_call (ok_Lvalue T) (hr.mono (by decide)) (by rfl) T.g_Lvalue T.F_Lvalue.kp T.bi_Lvalue .nil passF (pa_cons (pv 0) (pa_cons (pv 2) pa_nil))) pa_nil)))) (pg_name (i := 6) sc_Lright.nd rfl (.inl rfl))
      (pss_one (ps_for PassesOwn.never rfl (pi_list (pe_call (ok_Lthings T) (hr.mono (by decide)) (by rfl) T.g_Lthings T.F_Lthings.kp T.bi_Lthings .nil passF (pa_cons (pv 0) (pa_cons (pv 6) pa_nil)))) (pg_name (i := 5) sc_Lright.nd rfl (.inl rfl))
        (pss_cons (ps_expr (pe_bm PySem.F.plainAttrs_list PySem.F.slot_list_append PySem.F.type_list_append mt_append (pv 3) (pa_cons (pe_lst (pa_cons (pe_call (ok_is_value T) (hr.mono (by decide)) (by rfl) T.g_is_value T.F_is_value.kp T.bi_is_value .nil passF (pa_cons (pv 1) (pa_cons (pv 5) pa_nil))) (pa_cons (pe_callK0O (ok_is_value T) (hr.mono (by decide)) (by rfl) T.g_is_value T.F_is_value.kp (T.kb_is_value_0_value_key) passF (pk_cons (pv 5) (pk_cons (pv 1) pk_nil))) (pa_cons (pe_call (ok_is_value T) (hr.mono (by decide)) (by rfl) T.g_is_value T.F_is_value.kp T.bi_is_value .nil passF (pa_cons (pv 2) (pa_cons (pv 5) pa_nil))) pa_nil)))) pa_nil)))
        (pss_one (ps_expr (pe_bm PySem.F.plainAttrs_list PySem.F.slot_list_append PySem.F.type_list_append mt_append (pv 4) (pa_cons (pe_op op_cat (pe_op op_rep (pe_lst (pa_cons (pe_call (ok_Lis_value T) (hr.mono (by decide)) (by rfl) T.g_Lis_value T.F_Lis_value.kp T.bi_Lis_value .nil passF (pa_cons (pv 1) (pa_cons (pv 5) pa_nil))) pa_nil)) pe_int) (pe_lst (pa_cons (pe_call (ok_Lis_value T) (hr.mono (by decide)) (by rfl) T.g_Lis_value T.F_Lis_value.kp T.bi_Lis_value .nil passF (pa_cons (pv 2) (pa_cons (pv 5) pa_nil))) pa_nil))) pa_nil))))))))
    (pss_cons (ps_expr (pe_bm PySem.F.plainAttrs_list PySem.F.slot_list_append PySem.F.type_list_append mt_append (pv 3) (pa_cons (pe_lst (pa_cons (pe_call (ok_is_key T) (hr.mono (by decide)) (by rfl) T.g_is_key T.F_is_key.kp T.bi_is_key .nil passF (pa_cons (pv 1) pa_nil)) (pa_cons (pe_call (ok_is_value T) (hr.mono (by decide)) (by rfl) T.g_is_value T.F_is_value.kp T.bi_is_value .nil passF (pa_cons (pe_tup (pa_cons pe_str (pa_cons pe_int pa_nil))) (pa_cons pe_non pa_nil))) (pa_cons (pe_call (ok_is_value T) (hr.mono (by decide)) (by rfl) T.g_is_value T.F_is_value.kp T.bi_is_value .nil passF (pa_cons (pe_tup (pa_cons pe_str (pa_cons pe_int (pa_cons pe_int pa_nil)))) (pa_cons pe_non pa_nil))) pa_nil)))) pa_nil)))
    (pss_cons (ps_expr (pe_bm PySem.F.plainAttrs_list PySem.F.slot_list_append PySem.F.type_list_append mt_append (pv 4) (pa_cons (pe_lst (pa_cons pe_bl (pa_cons pe_bl (pa_cons pe_bl pa_nil)))) pa_nil)))
    (pss_one (ps_ret (pe_cmpR op_eq (pe_callB (cr_repr hgd hr.units) (by rfl) T.b_repr (by decide +kernel) (pa_cons (pv 3) pa_nil)) (pe_callB (cr_repr hgd hr.units) (by rfl) T.b_repr (by decide +kernel) (pa_cons (pv 4) pa_nil)) (nomark _))))))))))), ?_⟩
  rw [show L2.start N_Lright [a0] = [some a0, none, none, none, none, none, none] from rfl]
  obtain ⟨W, rfl, hw, tg, pW, q⟩ := h
  refine seq_restS (fun σ1 G => ∃ (kp kq : Addr) (kk kk2 : PySem.Str) (ks ks2 : List D), σ1 = [some (.ref W), some (.ref kp), some (.ref kq), none, none, none, none] ∧ Is (Old H) G (.ref kp) (.tup (.str kk :: ks)) ∧ Is (Old H) G (.ref kq) (.tup (.str kk2 :: ks2)) ∧ kyB (.tup (.str kk :: ks)) = true ∧ kyB (.tup (.str kk2 :: ks2)) = true ∧ Bd 9 1 (.tup (.str kk :: ks)) ∧ Bd 9 1 (.tup (.str kk2 :: ks2)) ∧ Sx W H G ∧ Wl [] G W) (fun σ1 G hR => ?_) (fun N hN => ?_)
  case refine_2 =>
    walk_at "vv"
    refine c1 ⟨W, rfl, hw, fun kp kk ks H1 ik hk bk s1 w1 => ?_⟩
    walk_at "vv"
    refine c1 ⟨W, rfl, w1, fun kq kk2 ks2 H2 ik2 hk2 bk2 s2 w2 => ?_⟩
    walk_at "vv"
    exact hN _ _ ⟨kp, kq, kk, kk2, ks, ks2, rfl, ik.fr fun b o n e => s2 b o (fun z => n (z ▸ wl_old hw)) e, ik2.weak fun b z => old_sx s1 w1 b z, hk, hk2, bk, bk2, s1.trans s2, w2⟩
  obtain ⟨kp, kq, kk, kk2, ks, ks2, rfl, ik, ik2, hk, hk2, bk, bk2, sx, w⟩ := hR
  refine seq_restS (fun σ1 G => ∃ (T0 U0 : Addr), σ1 = [some (.ref W), some (.ref kp), some (.ref kq), some (.ref T0), some (.ref U0), none, none] ∧ H T0 = none ∧ H U0 = none ∧ RI T0 U0 W (tP T.cs) (.ref kp) (.ref kq) (.tup (.str kk :: ks)) (.tup (.str kk2 :: ks2)) H G 0) (fun σ1 G2 hR => ?_) (fun N hN => ?_)
  case refine_2 =>
    walk_at "vv"
    refine a_lst (by simp) fun T0 G3 hT s3 e3 => ?_
    walk_at "vv"
    refine a_lst (by simp) fun U0 G4 hU s4 e4 => ?_
    walk_at "vv"
    have tg2 := tabG_sx tg pW sx
    have tg3 := tabG_same tg2 s3
    have w3 := w.of s3
    have hU2 : G U0 = none := (Sx.of (W := W) s3).free hU (w3.ne hU)
    have nm : ∀ b o, ¬ Old H b → G b = some o → G4 b = some o ∧ ¬ M4 T0 U0 W (tP T.cs) b := fun b o n e => ⟨s4 b o (s3 b o e), by
      rintro (z | z | z | z)
      · rw [z, hT] at e; cases e
      · rw [z, hU2] at e; cases e
      · exact n (z ▸ wl_old hw)
      · exact n (z ▸ tabG_old tg)⟩
    exact hN _ _ ⟨T0, U0, rfl, sx.free hT (w.ne hT), sx.free hU2 (w3.ne hU), [], [], [], ⟨s4 _ _ e3, e4, w3.of s4, tabG_same tg3 s4, ne_of_none e3 hU, w.ne hT, fun z => tabG_old tg2 (z ▸ hT), w3.ne hU, fun z => tabG_old tg3 (z ▸ hU), pW, .nil, .nil⟩, rfl, by simp, Is.to nm _ _ ik, Is.to nm _ _ ik2, fun b o n1 _ e => s4 b o (s3 b o (sx b o n1 e))⟩
  obtain ⟨T0, U0, rfl, hT, hU, hR⟩ := hR
  have nT : ∀ {b o}, H b = some o → b ≠ W → b ≠ tP T.cs → ¬ M4 T0 U0 W (tP T.cs) b := fun e n1 n2 => by
    rintro (z | z | z | z)
    · rw [z, hT] at e; cases e
    · rw [z, hU] at e; cases e
    · exact n1 z
    · exact n2 z
  refine seq_restS (fun σ1 G => ∃ y5 : Option V, σ1 = [some (.ref W), some (.ref kp), some (.ref kq), some (.ref T0), some (.ref U0), y5, none] ∧ RI T0 U0 W (tP T.cs) (.ref kp) (.ref kq) (.tup (.str kk :: ks)) (.tup (.str kk2 :: ks2)) H G 5) (fun σ1 G3 hR3 => ?_) (fun N hN => ?_)
  case refine_2 =>
    walk_at "vv"
    obtain ⟨tv, uv, ds, t, hl, hc, i1, i2, fr⟩ := hR
    refine c2 ⟨M4 T0 U0 W (tP T.cs), W, _, rfl, .inr (.inr (.inl rfl)), .inr (.inr (.inr rfl)), t.old, t.w, i1, bk.mono (by decide) (Nat.le_refl _), fun l xs es G3 el nl il hx hm s3 w3 => ?_⟩
    walk_at "vv"
    refine ⟨⟨_, sqL_of el⟩, ?_⟩
    refine for_list (xs := xs) (fun i σ G => ∃ y5 : Option V, σ = [some (.ref W), some (.ref kp), some (.ref kq), some (.ref T0), some (.ref U0), y5, none] ∧ RI T0 U0 W (tP T.cs) (.ref kp) (.ref kq) (.tup (.str kk :: ks)) (.tup (.str kk2 :: ks2)) H G i ∧ G l = some (.lst xs) ∧ IsAll (M4 T0 U0 W (tP T.cs)) G xs es)
      ⟨none, rfl, ⟨tv, uv, ds, t.sx s3 w3, hl, hc, i1.fr (fr4W s3), i2.fr (fr4W s3), fun b o n1 n2 e => s3 b o n1 (fr b o n1 n2 e)⟩, el, il⟩ ?_ ?_ ?_
    · rintro i σ G _ ⟨y5, rfl, _, eo, _⟩
      exact sqL_of eo
    · rintro i v σ G hv ⟨y5, rfl, ⟨tv, uv, ds, t, hl, hc, i1, i2, fr⟩, eo, il⟩
      have hi : i < 5 := by
        rcases Nat.lt_or_ge i 5 with h | h
        · exact h
        · rw [List.getElem?_eq_none (by omega)] at hv; cases hv
      obtain ⟨d, hd, iv⟩ := il.get hv
      have md := hm d (List.mem_of_getElem? hd)
      have hlt : tv.length = ds.length := t.ti.len
      have hlu : uv.length = ds.length := t.ui.len
      walk_at "vv"
      refine ⟨tyL t.t, ?_⟩
      walk_at "vv"
      refine c1 ⟨_, d, iv, .inr (.inr (.inr rfl)), md, t.g, fun G1 f1 => ?_⟩
      walk_at "vv"
      refine k1 ⟨_, d, iv.fr (fr4G f1), .inr (.inr (.inr rfl)), md, f1.2 t.g, fun G2 f2 => ?_⟩
      walk_at "vv"
      refine a_lst (by simp) fun q1 G3 hq1 z1 e1 => ?_
      have u0 := (t.fg f1).fg f2
      have u1 := u0.same z1
      walk_at "vv"
      refine v_append u1.t (by omega) ?_
      have u2 := u1.addT (v := .ref q1) (d := .lst [.bl (kyB d), .bl (kyB d)]) (.lst e1 (u0.free hq1) (.cons (.bl _) (.cons (.bl _) .nil)))
      walk_at "vv"
      refine ⟨tyL u2.u, ?_⟩
      walk_at "vv"
      have fr1 : Fr (M4 T0 U0 W (tP T.cs)) G _ := fun b o n e => fr4T (U := U0) (W := W) (P := tP T.cs) (o := .lst (tv ++ [V.ref q1])) b o n (z1 b o (fr4G f2 b o n (fr4G f1 b o n e)))
      refine c1 ⟨_, d, iv.fr fr1, md, fun G4 z2 => ?_⟩
      walk_at "vv"
      refine a_lst (by simp) fun q2 G5 hq2 z3 e2 => ?_
      walk_at "vv"
      refine a_rep (k := 2) e2 (by decide) fun q3 G6 hq3 z4 e3 => ?_
      have u3 := (u2.same z2).same z3
      have u3' := u3.same z4
      walk_at "vv"
      refine v_append u3'.u (by omega) ?_
      have u4 := u3'.addU (v := .ref q3) (d := .lst [.bl (kyB d), .bl (kyB d)]) (.lst e3 (u3.free hq3) (.cons (.bl _) (.cons (.bl _) .nil)))
      have frA : Fr (M4 T0 U0 W (tP T.cs)) G _ := fun b o n e => fr4U (T := T0) (W := W) (P := tP T.cs) (o := .lst (uv ++ [V.ref q3])) b o n (z4 b o (z3 b o (z2 b o (fr1 b o n e))))
      refine ⟨_, rfl, ⟨_, _, _, u4, by rw [List.length_append, hl]; rfl, ?_, i1.fr frA, i2.fr frA, fun b o n1 n2 e => frA b o (nT e n1 n2) (fr b o n1 n2 e)⟩, frA _ _ nl eo, il.fr frA⟩
      intro d hd
      rcases List.mem_append.mp hd with h | h
      · exact hc d h
      · rw [List.mem_singleton.mp h]; exact cell_bs [_, _] (by simp)
    · rintro σ G ⟨y5, rfl, hR, _, _⟩
      rw [hx] at hR
      exact hN _ _ ⟨y5, rfl, hR⟩
  obtain ⟨y5, rfl, hR⟩ := hR3
  refine seq_restS (fun σ1 G => ∃ y5 : Option V, σ1 = [some (.ref W), some (.ref kp), some (.ref kq), some (.ref T0), some (.ref U0), y5, none] ∧ RI T0 U0 W (tP T.cs) (.ref kp) (.ref kq) (.tup (.str kk :: ks)) (.tup (.str kk2 :: ks2)) H G 10) (fun σ1 G3 hR3 => ?_) (fun N hN => ?_)
  case refine_2 =>
    walk_at "vv"
    obtain ⟨tv, uv, ds, t, hl, hc, i1, i2, fr⟩ := hR
    refine c1 ⟨W, rfl, t.w, fun z G1 hz1 hz9 hzs sa wa => ?_⟩
    walk_at "vv"
    have t := t.sx sa wa
    have i1 := i1.fr (fr4W sa)
    have i2 := i2.fr (fr4W sa)
    have fr : ∀ b o, b ≠ W → b ≠ tP T.cs → H b = some o → G1 b = some o := fun b o n1 n2 e => sa b o n1 (fr b o n1 n2 e)
    refine c2 ⟨M4 T0 U0 W (tP T.cs), W, .str z, rfl, .inr (.inr (.inl rfl)), .inr (.inr (.inr rfl)), t.old, t.w, .str z, Bd.str (by omega) (fun c hc => sg_asc c (hzs c hc)), fun l xs es G3 el nl il hx hm s3 w3 => ?_⟩
    walk_at "vv"
    refine ⟨⟨_, sqL_of el⟩, ?_⟩
    refine for_list (xs := xs) (fun i σ G => ∃ y5 : Option V, σ = [some (.ref W), some (.ref kp), some (.ref kq), some (.ref T0), some (.ref U0), y5, none] ∧ RI T0 U0 W (tP T.cs) (.ref kp) (.ref kq) (.tup (.str kk :: ks)) (.tup (.str kk2 :: ks2)) H G (5 + i) ∧ G l = some (.lst xs) ∧ IsAll (M4 T0 U0 W (tP T.cs)) G xs es)
      ⟨_, rfl, ⟨tv, uv, ds, t.sx s3 w3, hl, hc, i1.fr (fr4W s3), i2.fr (fr4W s3), fun b o n1 n2 e => s3 b o n1 (fr b o n1 n2 e)⟩, el, il⟩ ?_ ?_ ?_
    · rintro i σ G _ ⟨y5, rfl, _, eo, _⟩
      exact sqL_of eo
    · rintro i v σ G hv ⟨y5, rfl, ⟨tv, uv, ds, t, hl, hc, i1, i2, fr⟩, eo, il⟩
      have hi : i < 5 := by
        rcases Nat.lt_or_ge i 5 with h | h
        · exact h
        · rw [List.getElem?_eq_none (by omega)] at hv; cases hv
      obtain ⟨d, hd, iv⟩ := il.get hv
      have md := hm d (List.mem_of_getElem? hd)
      have hlt : tv.length = ds.length := t.ti.len
      have hlu : uv.length = ds.length := t.ui.len
      walk_at "vv"
      refine ⟨tyL t.t, ?_⟩
      walk_at "vv"
      refine c1 ⟨_, d, iv, Nat.le_trans md (by decide), t.g, fun G1 f1 => ?_⟩
      walk_at "vv"
      refine k1 ⟨_, d, iv.fr (fr4G f1), Nat.le_trans md (by decide), f1.2 t.g, fun G2 f2 => ?_⟩
      walk_at "vv"
      have u0 := (t.fg f1).fg f2
      have frg : Fr (M4 T0 U0 W (tP T.cs)) G G2 := fun b o n e => fr4G f2 b o n (fr4G f1 b o n e)
      refine a_tup (by simp) fun q0 Ga hq0 za ea => ?_
      walk_at "vv"
      have ua := u0.same za
      have m3 : (D.tup [.str (Str.ofString "name"), .int 0, d]).mx ≤ 1000 := by
        simp only [D.mx, D.mxs, List.length_cons, List.length_nil]
        have : (Str.ofString "name").length = 4 := rfl
        omega
      refine c1 ⟨_, .tup [.str (Str.ofString "name"), .int 0, d], .tup ea (u0.free hq0) (.cons (.str _) (.cons (.int _) (.cons ((iv.fr frg).same za) .nil))), .inr (.inr (.inr rfl)), m3, ua.g, fun Gb f3 => ?_⟩
      rw [ky3, if_pos rfl, show (D.int 0).btw 0 4294967295 = true from rfl, Bool.true_and]
      walk_at "vv"
      have ub := ua.fg f3
      refine a_lst (by simp) fun q1 G3 hq1 z1 e1 => ?_
      have u1 := ub.same z1
      walk_at "vv"
      refine v_append u1.t (by omega) ?_
      have u2 := u1.addT (v := .ref q1) (d := .lst ([nmB d, nmB d, nmB d].map D.bl)) (.lst e1 (ub.free hq1) (.cons (.bl _) (.cons (.bl _) (.cons (.bl _) .nil))))
      walk_at "vv"
      refine ⟨tyL u2.u, ?_⟩
      walk_at "vv"
      have fr1 : Fr (M4 T0 U0 W (tP T.cs)) G _ := fun b o n e => fr4T (U := U0) (W := W) (P := tP T.cs) (o := .lst (tv ++ [V.ref q1])) b o n (z1 b o (fr4G f3 b o n (za b o (frg b o n e))))
      refine c1 ⟨_, d, iv.fr fr1, Nat.le_trans md (by decide), fun G4 z2 => ?_⟩
      walk_at "vv"
      refine a_lst (by simp) fun q2 G5 hq2 z3 e2 => ?_
      walk_at "vv"
      refine a_rep (k := 3) e2 (by decide) fun q3 G6 hq3 z4 e3 => ?_
      have u3 := (u2.same z2).same z3
      have u3' := u3.same z4
      walk_at "vv"
      refine v_append u3'.u (by omega) ?_
      have u4 := u3'.addU (v := .ref q3) (d := .lst ([nmB d, nmB d, nmB d].map D.bl)) (.lst e3 (u3.free hq3) (.cons (.bl _) (.cons (.bl _) (.cons (.bl _) .nil))))
      have frA : Fr (M4 T0 U0 W (tP T.cs)) G _ := fun b o n e => fr4U (T := T0) (W := W) (P := tP T.cs) (o := .lst (uv ++ [V.ref q3])) b o n (z4 b o (z3 b o (z2 b o (fr1 b o n e))))
      refine ⟨_, rfl, ⟨_, _, _, u4, by rw [List.length_append, hl]; rfl, ?_, i1.fr frA, i2.fr frA, fun b o n1 n2 e => frA b o (nT e n1 n2) (fr b o n1 n2 e)⟩, frA _ _ nl eo, il.fr frA⟩
      intro d hd
      rcases List.mem_append.mp hd with h | h
      · exact hc d h
      · rw [List.mem_singleton.mp h]; exact cell_bs [_, _, _] (by simp)
    · rintro σ G ⟨y5, rfl, hR, _, _⟩
      rw [hx] at hR
      exact hN _ _ ⟨y5, rfl, hR⟩
  clear hR
  clear y5
  obtain ⟨y5, rfl, hR⟩ := hR3
  refine seq_restS (fun σ1 G => ∃ y5 y6 : Option V, σ1 = [some (.ref W), some (.ref kp), some (.ref kq), some (.ref T0), some (.ref U0), y5, y6] ∧ RI T0 U0 W (tP T.cs) (.ref kp) (.ref kq) (.tup (.str kk :: ks)) (.tup (.str kk2 :: ks2)) H G 20) (fun σ1 G4 hR4 => ?_) (fun N hN => ?_)
  case refine_2 =>
    walk_at "vv"
    obtain ⟨tv, uv, ds, t, hl, hc, i1, i2, fr⟩ := hR
    obtain ⟨kx, ekp⟩ := is_key0 i1
    refine c2 ⟨W, kp, kk, kx, rfl, rfl, sqT_of ekp, t.w, fun x1 d1 G1 ix1 b1 s1 w1 => ?_⟩
    walk_at "vv"
    have t1 := t.sx s1 w1
    have i2 := i2.fr (fr4W s1)
    obtain ⟨kx2, ekq⟩ := is_key0 i2
    refine c2 ⟨W, kq, kk2, kx2, rfl, rfl, sqT_of ekq, w1, fun x2 d2 G2 ix2 b2 s2 w2 => ?_⟩
    walk_at "vv"
    have t2 := t1.sx s2 w2
    have j1 := (ix1.weak t.old).fr (fr4W s2)
    have j2 := ix2.weak t1.old
    refine a_tup (by simp) fun pt G3 hpt s3 ept => ?_
    walk_at "vv"
    have npt := t2.free hpt
    have frx : Fr (M4 T0 U0 W (tP T.cs)) _ G3 := fun b o n e => s3 b o (fr4W s2 b o n (fr4W s1 b o n e))
    refine ⟨⟨_, sqT_of ept⟩, ?_⟩
    refine for_tup (xs := [x1, x2]) (fun i σ G => ∃ y5 y6 : Option V, σ = [some (.ref W), some (.ref kp), some (.ref kq), some (.ref T0), some (.ref U0), y5, y6] ∧ RI T0 U0 W (tP T.cs) (.ref kp) (.ref kq) (.tup (.str kk :: ks)) (.tup (.str kk2 :: ks2)) H G (10 + 5 * i) ∧ G pt = some (.tup [x1, x2]) ∧ IsAll (M4 T0 U0 W (tP T.cs)) G [x1, x2] [d1, d2])
      ⟨_, _, rfl, ⟨tv, uv, ds, t2.same s3, hl, hc, i1.fr frx, (i2.fr (fr4W s2)).same s3, fun b o n1 n2 e => s3 b o (s2 b o n1 (s1 b o n1 (fr b o n1 n2 e)))⟩, ept, .cons (j1.same s3) (.cons (j2.same s3) .nil)⟩ ?_ ?_ ?_
    · rintro i σ G _ ⟨y5, y6, rfl, _, eo, _⟩
      exact sqT_of eo
    · rintro j v6 σ G hv6 ⟨y5, y6, rfl, ⟨tv, uv, ds, t, hl, hc, i1, i2, fr⟩, eo6, il6⟩
      have hj : j < 2 := by
        rcases Nat.lt_or_ge j 2 with h | h
        · exact h
        · rw [List.getElem?_eq_none (by simpa using h)] at hv6; cases hv6
      obtain ⟨dj, hdj, iv6⟩ := il6.get hv6
      have bj : Bd 16 1 dj := by
        have := List.mem_of_getElem? hdj
        simp only [List.mem_cons, List.not_mem_nil, or_false] at this
        rcases this with rfl | rfl
        · exact b1
        · exact b2
      walk_at "vv"
      refine c2 ⟨M4 T0 U0 W (tP T.cs), W, dj, rfl, .inr (.inr (.inl rfl)), .inr (.inr (.inr rfl)), t.old, t.w, iv6, bj, fun l xs es G3 el nl il hx hm s3 w3 => ?_⟩
      walk_at "vv"
      refine ⟨⟨_, sqL_of el⟩, ?_⟩
      refine for_list (xs := xs) (fun i σ G => ∃ y5 : Option V, σ = [some (.ref W), some (.ref kp), some (.ref kq), some (.ref T0), some (.ref U0), y5, some v6] ∧ RI T0 U0 W (tP T.cs) (.ref kp) (.ref kq) (.tup (.str kk :: ks)) (.tup (.str kk2 :: ks2)) H G (10 + 5 * j + i) ∧ G l = some (.lst xs) ∧ IsAll (M4 T0 U0 W (tP T.cs)) G xs es ∧ G pt = some (.tup [x1, x2]) ∧ IsAll (M4 T0 U0 W (tP T.cs)) G [x1, x2] [d1, d2])
        ⟨_, rfl, ⟨tv, uv, ds, t.sx s3 w3, hl, hc, i1.fr (fr4W s3), i2.fr (fr4W s3), fun b o n1 n2 e => s3 b o n1 (fr b o n1 n2 e)⟩, el, il, fr4W s3 _ _ npt eo6, il6.fr (fr4W s3)⟩ ?_ ?_ ?_
      · rintro i σ G _ ⟨y5, rfl, _, eo, _⟩
        exact sqL_of eo
      · rintro i v σ G hv ⟨y5, rfl, ⟨tv, uv, ds, t, hl, hc, i1, i2, fr⟩, eo, il, eo6, il6⟩
        have hi : i < 5 := by
          rcases Nat.lt_or_ge i 5 with h | h
          · exact h
          · rw [List.getElem?_eq_none (by omega)] at hv; cases hv
        obtain ⟨d, hd, iv⟩ := il.get hv
        have md := hm d (List.mem_of_getElem? hd)
        have hlt : tv.length = ds.length := t.ti.len
        have hlu : uv.length = ds.length := t.ui.len
        walk_at "vv"
        refine ⟨tyL t.t, ?_⟩
        walk_at "vv"
        have mk : (D.tup (.str kk :: ks)).mx ≤ 1000 := Nat.le_trans bk.1 (by decide)
        have mk2 : (D.tup (.str kk2 :: ks2)).mx ≤ 1000 := Nat.le_trans bk2.1 (by decide)
        refine c2 ⟨_, _, d, kp, ks, kk, rfl, rfl, i1, iv, .inr (.inr (.inr rfl)), mk, hk, t.g, fun G1 f1 => ?_⟩
        walk_at "vv"
        refine k2 ⟨_, _, d, kp, ks, kk, rfl, rfl, i1.fr (fr4G f1), iv.fr (fr4G f1), .inr (.inr (.inr rfl)), mk, hk, f1.2 t.g, fun G2 f2 => ?_⟩
        walk_at "vv"
        have u0 := (t.fg f1).fg f2
        have frg : Fr (M4 T0 U0 W (tP T.cs)) G G2 := fun b o n e => fr4G f2 b o n (fr4G f1 b o n e)
        refine c2 ⟨_, _, d, kq, ks2, kk2, rfl, rfl, i2.fr frg, iv.fr frg, .inr (.inr (.inr rfl)), mk2, hk2, u0.g, fun Gb f3 => ?_⟩
        walk_at "vv"
        have ub := u0.fg f3
        refine a_lst (by simp) fun q1 G3 hq1 z1 e1 => ?_
        have u1 := ub.same z1
        walk_at "vv"
        refine v_append u1.t (by omega) ?_
        have u2 := u1.addT (v := .ref q1) (d := .lst ([vlB (.tup (.str kk :: ks)) d, vlB (.tup (.str kk :: ks)) d, vlB (.tup (.str kk2 :: ks2)) d].map D.bl)) (.lst e1 (ub.free hq1) (.cons (.bl _) (.cons (.bl _) (.cons (.bl _) .nil))))
        walk_at "vv"
        refine ⟨tyL u2.u, ?_⟩
        walk_at "vv"
        have fr1 : Fr (M4 T0 U0 W (tP T.cs)) G _ := fun b o n e => fr4T (U := U0) (W := W) (P := tP T.cs) (o := .lst (tv ++ [V.ref q1])) b o n (z1 b o (fr4G f3 b o n (frg b o n e)))
        refine c2 ⟨_, _, d, kp, ks, kk, rfl, rfl, hk, i1.fr fr1, iv.fr fr1, md, fun G4 z2 => ?_⟩
        walk_at "vv"
        refine a_lst (by simp) fun q2 G5 hq2 z3 e2 => ?_
        walk_at "vv"
        refine a_rep (k := 2) e2 (by decide) fun q3 G6 hq3 z4 e3 => ?_
        walk_at "vv"
        have fr4 : Fr (M4 T0 U0 W (tP T.cs)) G G6 := fun b o n e => z4 b o (z3 b o (z2 b o (fr1 b o n e)))
        have u3 := ((u2.same z2).same z3).same z4
        refine c2 ⟨_, _, d, kq, ks2, kk2, rfl, rfl, hk2, i2.fr fr4, iv.fr fr4, md, fun G7 z5 => ?_⟩
        walk_at "vv"
        refine a_lst (by simp) fun q4 G8 hq4 z6 e4 => ?_
        walk_at "vv"
        refine a_cat (z6 _ _ (z5 _ _ e3)) e4 (by simp) fun q5 G9 hq5 z7 e5 => ?_
        have u3' := (u3.same z5).same z6
        have u3'' := u3'.same z7
        walk_at "vv"
        refine v_append u3''.u (by omega) ?_
        have u4 := u3''.addU (v := .ref q5) (d := .lst ([vlB (.tup (.str kk :: ks)) d, vlB (.tup (.str kk :: ks)) d, vlB (.tup (.str kk2 :: ks2)) d].map D.bl)) (.lst e5 (u3'.free hq5) (.cons (.bl _) (.cons (.bl _) (.cons (.bl _) .nil))))
        have frA : Fr (M4 T0 U0 W (tP T.cs)) G _ := fun b o n e => fr4U (T := T0) (W := W) (P := tP T.cs) (o := .lst (uv ++ [V.ref q5])) b o n (z7 b o (z6 b o (z5 b o (fr4 b o n e))))
        refine ⟨_, rfl, ⟨_, _, _, u4, by rw [List.length_append, hl]; rfl, ?_, i1.fr frA, i2.fr frA, fun b o n1 n2 e => frA b o (nT e n1 n2) (fr b o n1 n2 e)⟩, frA _ _ nl eo, il.fr frA, frA _ _ npt eo6, il6.fr frA⟩
        intro d hd
        rcases List.mem_append.mp hd with h | h
        · exact hc d h
        · rw [List.mem_singleton.mp h]; exact cell_bs [_, _, _] (by simp)
      · rintro σ G ⟨y5, rfl, hR, _, _, eo6, il6⟩
        rw [hx] at hR
        exact ⟨y5, some v6, rfl, hR, eo6, il6⟩
    · rintro σ G ⟨y5, y6, rfl, hR, _, _⟩
      exact hN _ _ ⟨y5, y6, rfl, hR⟩
  clear hR
  clear y5
  obtain ⟨y5, y6, rfl, ⟨tv, uv, ds, t, hl, hc, i1, i2, fr⟩⟩ := hR4
  have hlt : tv.length = ds.length := t.ti.len
  have hlu : uv.length = ds.length := t.ui.len
  walk_at "vv"
  refine ⟨tyL t.t, ?_⟩
  walk_at "vv"
  refine c1 ⟨_, _, i1, .inr (.inr (.inr rfl)), Nat.le_trans bk.1 (by decide), t.g, fun G1 f1 => ?_⟩
  rw [hk]
  walk_at "vv"
  have t1 := t.fg f1
  refine a_tup (by simp) fun q0 Ga hq0 za ea => ?_
  walk_at "vv"
  have ta := t1.same za
  refine c2 ⟨_, _, .non, q0, [.int 1], Str.ofString "node", rfl, rfl, .tup ea (t1.free hq0) (.cons (.str _) (.cons (.int _) .nil)), .non, .inr (.inr (.inr rfl)), by decide +kernel, by decide +kernel, ta.g, fun Gb f2 => ?_⟩
  rw [show vlB (.tup [.str (Str.ofString "node"), .int 1]) .non = false by decide +kernel]
  walk_at "vv"
  have tb := ta.fg f2
  refine a_tup (by simp) fun q9 Gc hq9 zc ec => ?_
  walk_at "vv"
  have tc := tb.same zc
  refine c2 ⟨_, _, .non, q9, [.int 1, .int 0], Str.ofString "piece", rfl, rfl, .tup ec (tb.free hq9) (.cons (.str _) (.cons (.int _) (.cons (.int _) .nil))), .non, .inr (.inr (.inr rfl)), by decide +kernel, by decide +kernel, tc.g, fun Gd f3 => ?_⟩
  rw [show vlB (.tup [.str (Str.ofString "piece"), .int 1, .int 0]) .non = true by decide +kernel]
  walk_at "vv"
  have td := tc.fg f3
  refine a_lst (by simp) fun q1 G3 hq1 z1 e1 => ?_
  have u1 := td.same z1
  walk_at "vv"
  refine v_append u1.t (by omega) ?_
  have u2 := u1.addT (v := .ref q1) (d := .lst ([true, false, true].map D.bl)) (.lst e1 (td.free hq1) (.cons (.bl _) (.cons (.bl _) (.cons (.bl _) .nil))))
  walk_at "vv"
  refine ⟨tyL u2.u, ?_⟩
  walk_at "vv"
  refine a_lst (by simp) fun q2 G5 hq2 z3 e2 => ?_
  have u3 := u2.same z3
  walk_at "vv"
  refine v_append u3.u (by omega) ?_
  have u4 := u3.addU (v := .ref q2) (d := .lst ([true, false, true].map D.bl)) (.lst e2 (u2.free hq2) (.cons (.bl _) (.cons (.bl _) (.cons (.bl _) .nil))))
  have frA : Fr (M4 T0 U0 W (tP T.cs)) _ _ := fun b o n e => fr4U (T := T0) (W := W) (P := tP T.cs) (o := .lst (uv ++ [V.ref q2])) b o n (z3 b o (fr4T (U := U0) (W := W) (P := tP T.cs) (o := .lst (tv ++ [V.ref q1])) b o n (z1 b o (fr4G f3 b o n (zc b o (fr4G f2 b o n (za b o (fr4G f1 b o n e))))))))
  have hc2 : ∀ d ∈ ds ++ [D.lst ([true, false, true].map D.bl)], Cell d := by
    intro d hd
    rcases List.mem_append.mp hd with h | h
    · exact hc d h
    · rw [List.mem_singleton.mp h]; exact cell_bs [_, _, _] (by simp)
  have nd := nods_all fun d hd => (hc2 d hd).nod
  have sw := shw_cells hc2 (by rw [List.length_append, hl]; decide)
  walk_at "vv"
  refine v_repr (.lst (sqL_of u4.t) (u4.ti.dp _ _ nd)) sw ?_
  walk_at "vv"
  refine v_repr (.lst (sqL_of u4.u) (u4.ui.dp _ _ nd)) sw ?_
  walk_at "vv"
  exact q _ (fun b o n1 n2 e => frA b o (nT e n1 n2) (fr b o n1 n2 e)) u4.g
def spo_Lspring (K : PySem.W.Frag) (cs : Cds) : Sp := sp2 fun s t H Q => ∃ (a : Addr) (ns : List Int) (k : Nat), s = .ref a ∧ t = .int k ∧ SqL K H a (ns.map V.int) ∧ ns.length ≤ 63 ∧ ∀ (W : Addr) (H' : Hp), H W = none → Same H H' → Wl [] H' W → Q (.ref W) H'
abbrev sp_Lspring (K : PySem.W.Frag) (cs : Cds) : Sp := spo_Lspring K cs
theorem ok_Lspring (T : Txt K mg base) : FnOk P w K mg base (L2.CX P w) 1 T.f_Lspring T.fd_Lspring ["_law_script", "_law_turn"] (sp_Lspring K T.cs) := by
  refine T.F_Lspring.okX sc_Lspring len2 (fun cdv A outer s H vs Q E hr h => ?_)
  obtain ⟨a0, a1, rfl, h⟩ := h
  refine ⟨_, (pss_cons (ps_set (i := 2) sc_Lspring.nd rfl (.inl rfl) (pe_op op_add pe_int (pe_op op_mul pe_int (pv 1))))
    (pss_cons (ps_for (passes_of rfl) rfl (pi_list (pe_slice sl_list (pv 0) po_none (po_some pe_int))) (pg_name (i := 3) sc_Lspring.nd rfl (.inl rfl))
      (pss_one (ps_set (i := 2) sc_Lspring.nd rfl (.inl rfl) (pe_op op_modN (pe_callTy cv_int (by rfl) T.b_int (by decide +kernel) (pa_cons (pe_op op_add (pe_op op_add (pe_op op_mul (pv 2) pe_int) (pe_op op_modN (pe_callTy cv_int (by rfl) T.b_int (by decide +kernel) (pa_cons (pv 3) pa_nil)) pe_int)) pe_int) pa_nil)) pe_int))))
    (pss_cons (ps_set (i := 4) sc_Lspring.nd rfl (.inl rfl) (pe_ifExp (pt_cmpR op_lt (pv 1) (pe_callB cv_len (by rfl) T.b_len PySem.boot_len (pa_cons (pv 0) pa_nil)) (nomark _)) (pe_callTy cv_int (by rfl) T.b_int (by decide +kernel) (pa_cons (pe_ix ix_list (pv 0) (pv 1) (fun _ _ => rfl)) pa_nil)) pe_int))
    (pss_cons (ps_set (i := 2) sc_Lspring.nd rfl (.inl rfl) (pe_op op_modN (pe_callTy cv_int (by rfl) T.b_int (by decide +kernel) (pa_cons (pe_op op_add (pe_op op_add (pe_op op_mul (pv 2) pe_int) (pe_op op_mul (pe_op op_modN (pe_callTy cv_int (by rfl) T.b_int (by decide +kernel) (pa_cons (pv 4) pa_nil)) pe_int) pe_int)) pe_int) pa_nil)) pe_int))
    (pss_one (ps_ret (pe_lst (pa_cons (pe_ifExp (PW.pt (pw_or (pt_cmpR op_lt (pv 4) pe_int (nomark _)) (pw_or1 (pt_cmpR op_ge (pv 4) (pe_op op_pow pe_int pe_int) (nomark _))))) (pe_callB cv_abs (by rfl) T.b_abs (by decide +kernel) (pa_cons (pv 4) pa_nil)) pe_int) (pa_cons (pv 2) (pa_cons pe_int pa_nil)))))))))), ?_⟩
  rw [show L2.start N_Lspring [a0, a1] = [some a0, some a1, none, none, none] from rfl]
  obtain ⟨a, ns, k, rfl, rfl, hS, hl, q⟩ := h
  walk_at "vv"
  refine a_slL hS (fun c H1 hc s1 h1 => ?_)
  walk_at "vv"
  refine ⟨⟨_, sqL_of h1⟩, ?_⟩
  refine for_list (xs := cutV (ns.map V.int) none (some 8)) (fun i σ H' => ∃ (m : Int) (y : Option V), σ = [some (.ref a), some (.int k), some (.int m), y, none] ∧ H' = H1) ⟨_, none, rfl, rfl⟩ ?_ ?_ ?_
  · rintro i σ H' _ ⟨m, y, rfl, rfl⟩
    exact sqL_of h1
  · rintro i x σ H' hx ⟨m, y, rfl, rfl⟩
    obtain ⟨z, rfl⟩ := cut_ints hx
    walk_at "vv"
    exact ⟨_, _, rfl, rfl⟩
  · rintro σ H' ⟨m, y, rfl, rfl⟩
    dsimp only
    walk_at "vv"
    refine v_lenL (s1.seq hS) ?_
    walk_at "vv"
    refine v_joinI (fun c Q' q' => ?_) (fun c Q' q' => ?_) (fun o => ?_)
    · walk_at "vv"
      rw [List.length_map, decide_eq_true_eq] at c
      refine v_ixL (s1.seq hS) (atI_nat (j := k) (by rw [List.getElem?_map, List.getElem?_eq_getElem (by omega)]; rfl)) ?_
      walk_at "vv"
      exact q' _
    · walk_at "vv"
      exact q' _
    · walk_at "vv"
      have fin : ∀ (p : Addr) (o1 o2 : Int), H' p = none → Q (.ref p) (upd H' p (.lst [.int o1, .int o2, .int 0])) := fun p o1 o2 hp => q p _ (s1.free hp) (s1.trans (same_new hp)) ⟨_, _, _, upd_same⟩
      refine v_ifd (fun c => ?_) (fun c => ?_)
      · walk_at "vv"
        exact n_lst (by simp) fun p hp => fin p _ _ hp
      · walk_at "vv"
        refine v_ifd (fun c => ?_) (fun c => ?_)
        · walk_at "vv"
          exact n_lst (by simp) fun p hp => fin p _ _ hp
        · walk_at "vv"
          exact n_lst (by simp) fun p hp => fin p _ _ hp
def spo_law (K : PySem.W.Frag) (cs : Cds) : Sp := sp1 fun v H Q => ∃ (a : Addr) (ns : List Int), v = .ref a ∧ SqL K H a (ns.map V.int) ∧ ns.length ≤ 63 ∧ Tb cs H ∧ ∀ H', Q (.bl true) H'
abbrev sp_law (K : PySem.W.Frag) (cs : Cds) : Sp := spo_law K cs
theorem ok_law (T : Txt K mg base) : FnG P w K mg base 21 T.f_law T.fd_law ["_law_script"] (sp_law K T.cs) := by
  refine okG T.F_law sc_law len1 (fun cdv A outer s H vs Q hgd hr h => ?_)
  obtain ⟨a0, rfl, h⟩ := h
  refine ⟨_, (pss_one (ps_ret (pe_callB (cr_all rfl) (by rfl) T.b_all (by decide +kernel) (pa_cons (pe_lc (own := [("_law_turn", 1)]) (g := gName 1) (tt := tYes) (by rfl) sc_law.nd (pi_range1 rfl T.b_range (pa_cons (pe_callB (cv_max rfl) (by rfl) T.b_max (by decide +kernel) (pa_cons pe_int (pa_cons (pe_callB (cv_min rfl) (by rfl) T.b_min (by decide +kernel) (pa_cons (pe_callB cv_len (by rfl) T.b_len PySem.boot_len (pa_cons (pv 0) pa_nil)) (pa_cons pe_int pa_nil))) pa_nil))) pa_nil)) (blkOk_by (own := [("_law_turn", 1)]) (N := N_law) (sc := defScope s_law) (by decide +kernel)) (fun _ _ _ _ _ => pg_name (i := 1) sc_law.nd rfl (Or.inl rfl)) (fun _ _ _ _ _ => pts_nil) (fun _ _ _ _ _ => (pe_callG (ok_Lright T) hgd (hr.mono (by decide)) (by rfl) T.g_Lright T.F_Lright.kp T.bi_Lright .nil (pa_cons (pe_call (ok_Lspring T) (hr.mono (by decide)) (by rfl) T.g_Lspring T.F_Lspring.kp T.bi_Lspring .nil passF (pa_cons (pv 0) (pa_cons (pv 1) pa_nil))) pa_nil)))) pa_nil)))), ?_⟩
  rw [show L2.start N_law [a0] = [some a0, none] from rfl]
  obtain ⟨a, ns, rfl, hS, hl, tb, q⟩ := h
  have tg : GxR.TabG H (tP T.cs) := tabG_tb rfl tb
  walk_at "vv"
  refine v_lenL hS ?_
  walk_at "vv"
  rw [List.length_map]
  obtain ⟨n, hn, hn2⟩ : ∃ n : Nat, n ≤ 4 ∧ (if (if (4 : Int) < (ns.length : Int) then 4 else (ns.length : Int)) > 2 then (if (4 : Int) < (ns.length : Int) then 4 else (ns.length : Int)) else 2) = (n : Int) := by
    by_cases h3 : (4 : Int) < (ns.length : Int)
    · exact ⟨4, by omega, by rw [if_pos h3]; rfl⟩
    · rw [if_neg h3]
      by_cases h2 : (ns.length : Int) > 2
      · exact ⟨ns.length, by omega, by rw [if_pos h2]⟩
      · exact ⟨2, by omega, by rw [if_neg h2]; rfl⟩
  rw [hn2]
  refine ⟨n, rfl, by omega, by omega, fun D hD => ?_⟩
  have nD : D ≠ tP T.cs := fun z => tabG_old tg (z ▸ hD)
  refine lc_range (lo := 0) (n := n) (fun i H2 => H2 D = some (.lst (List.replicate i (.bl true))) ∧ GxR.TabG H2 (tP T.cs) ∧ ∀ b o, b ≠ tP T.cs → H b = some o → H2 b = some o) ⟨upd_same, tabG_upd tg nD, fun b o _ e => same_new hD b o e⟩ ?_ ?_
  · rintro i H2 hi ⟨hD2, tg2, f2⟩
    walk_at "vv"
    refine ⟨rfl, ?_⟩
    walk_at "vv"
    rw [Int.zero_add]
    refine c2 ⟨a, ns, i, rfl, rfl, seqL_tab tg f2 hS, hl, fun W H3 hW s3 w3 => ?_⟩
    walk_at "vv"
    have tg3 := tabG_same tg2 s3
    refine c1 ⟨W, rfl, w3, tg3, fun z => tabG_old tg2 (z ▸ hW), fun H4 f4 tg4 => ?_⟩
    have f24 : ∀ b o, b ≠ tP T.cs → H2 b = some o → H4 b = some o := fun b o n e => f4 b o (fun z => by rw [z, hW] at e; cases e) n (s3 b o e)
    refine ⟨_, f24 _ _ nD hD2, by rw [List.length_replicate]; exact small1000 (by omega), by rw [upd_same, rep_more], tabG_upd tg4 nD, fun b o n e => ?_⟩
    rw [upd_ne (fun z => by rw [z, hD] at e; cases e)]
    exact f24 b o n (f2 b o n e)
  · rintro H2 ⟨hD2, _⟩
    walk_at "vv"
    refine v_allT hD2 ?_
    exact q H2
end
theorem law_start (K : PySem.W.Frag) (cs : Cds) (H : Hp) (a : Addr) (ns : List Int) (hl : ns.length ≤ 63) (hS : SqL K H a (ns.map V.int)) (tb : Tb cs H) : sp_law K cs [.ref a] H (fun v _ => v = .bl true) E0 :=
  ⟨_, rfl, a, ns, rfl, hS, hl, tb, fun _ => rfl⟩

theorem law_at {P : Program} {w : World} {K : PySem.W.Frag} {mg : Str → Option Value} {base : Heap} {fa : Addr} {fd : FuncData} (T : Txt K mg base) (e1 : T.f_law = fa) (e2 : T.fd_law = fd) : FnG P w K mg base 21 fa fd ["_law_script"] (sp_law K T.cs) := by
  subst e1
  subst e2
  exact ok_law T
/-! ### what the top has written -/
def hdFa : List He.Fa := [.glo "_law_draw", .glo "_law_pick", .glo "_law_odd", .glo "_law_bent", .glo "_law_things", .glo "_law_great", .glo "_law_name", .glo "_law_key", .glo "_law_value", .glo "is_whole", .glo "is_between", .glo "is_name", .glo "is_key", .glo "require_key", .glo "first_wrong", .glo "is_unit", .glo "are_cells", .glo "is_node_value", .glo "fits", .glo "is_value", .glo "_law_is_whole", .glo "_law_is_name", .glo "_law_is_key", .glo "_law_is_value", .glo "_law_right", .glo "_law_spring", .glo "law", .free "abs", .free "all", .free "bool", .free "divmod", .free "enumerate", .free "int", .free "isinstance", .free "len", .free "list", .free "max", .free "min", .free "range", .free "repr", .free "str", .free "tuple", .int "GREATEST" 4294967295, .int "GREATEST_UNIT" 65535, .int "MOST_CELLS" 256, .int "MOST_SIGNS" 9, .int "PIECES" 16, .int "PIECE_CELLS" 16, .str "SIGNS" "abcdefghijklmnopqrstuvwxyz0123456789.-"]
def hdFn : List He.DefD := [dfOf "_law_draw" s_Ldraw, dfOf "_law_pick" s_Lpick, dfOf "_law_odd" s_Lodd, dfOf "_law_bent" s_Lbent, dfOf "_law_things" s_Lthings, dfOf "_law_great" s_Lgreat, dfOf "_law_name" s_Lname, dfOf "_law_key" s_Lkey, dfOf "_law_value" s_Lvalue, dfOf "is_whole" s_is_whole, dfOf "is_between" s_is_between, dfOf "is_name" s_is_name, dfOf "is_key" s_is_key, dfOf "require_key" s_require_key, dfOf "first_wrong" s_first_wrong, dfOf "is_unit" s_is_unit, dfOf "are_cells" s_are_cells, dfOf "is_node_value" s_is_node_value, dfOf "fits" s_fits, dfOf "is_value" s_is_value, dfOf "_law_is_whole" s_Lis_whole, dfOf "_law_is_name" s_Lis_name, dfOf "_law_is_key" s_Lis_key, dfOf "_law_is_value" s_Lis_value, dfOf "_law_right" s_Lright, dfOf "_law_spring" s_Lspring, dfOf "law" s_law]
def hdCd : List (Str × Option Str) := [("is_name", none)]
def hdOk (K : PySem.W.Frag) : Bool := true
abbrev hdR : PySem.W.OpenRow := PySem.W.OpenLaw.row PySem.Challenge.rw_flashtrees_k14_whole_keys_values_and_nam
abbrev hdK : PySem.W.Hook := hookT hdOk hdFa hdFn hdCd 4
def hdOb (s : PySem.W.SharedT) : AlT := obsT hdOk hdFa hdFn hdCd 4 (HandSHeadRun.getT s)
theorem hdOb_eq (s : PySem.W.SharedT) : hdOb s = hdK.obs s.abs := obsT_eq (HandSHeadRun.getT_eq s)
def hdL0 : List Str := ["FlashError", "InvalidKey", "is_whole", "is_between", "first_wrong", "UNIT_WIDTH", "GREATEST_UNIT", "is_unit", "GREATEST", "MOST_CELLS", "PIECE_CELLS", "PIECES", "SIGNS", "MOST_SIGNS", "is_name", "are_cells", "is_key", "is_node_value", "fits", "is_value", "require_key", "_law_spring", "_law_draw", "_law_pick", "_law_great", "_law_name", "_law_key", "_law_value", "_law_odd", "_law_bent"]
def hdL1 : List Str := ["_law_is_whole", "_law_is_name", "_law_is_key", "_law_is_value", "_law_things", "_law_right"]
abbrev hdL : List Str := hdL0 ++ hdL1
theorem hdRun (w : World) : HandSHeadRun.RunEq hdR (PySem.W.view hdR.prog [41]) hdK hdOb 4000 hdL w := by
  intro os
  kernel_rfl
theorem all_mk {l : PySem.W.OpenLaw} {w : World} {h : Heap} {mg : Str → Option Value} {fa : Addr} (Y : hdK.says w h) (G : h.Ns mainGlobals mg) (hfa : mg "law" = some (.ref fa)) :
    ∃ (K : PySem.W.Frag) (fd : FuncData) (cs : Cds), K.In h ∧ (∀ p ∈ cs, h.get? p.2.1 = some (PySem.W.tabObj #[])) ∧ (∀ p ∈ cs, K.lookup p.2.1 = none) ∧ (∀ p ∈ cs, PySem.W.CodeHd h p.1 p.2.1) ∧ (∀ (s : Shared) (v : Value), BindsTo s fd ⟨[v], []⟩ [("_law_script", v)]) ∧ ∀ base : Heap, K.In base → base.Ns mainGlobals mg → (∀ p ∈ cs, LamX.TabB base mg p.1 p.2.1) → FnG l.prog w K mg base 21 fa fd ["_law_script"] (sp_law K cs) := by
  obtain ⟨K, c⟩ := Y
  have X := c.kin
  obtain ⟨fd0, D0⟩ := c.def_ 0 (x := "_law_draw") (st := s_Ldraw)
  obtain ⟨fd1, D1⟩ := c.def_ 1 (x := "_law_pick") (st := s_Lpick)
  obtain ⟨fd2, D2⟩ := c.def_ 2 (x := "_law_odd") (st := s_Lodd)
  obtain ⟨fd3, D3⟩ := c.def_ 3 (x := "_law_bent") (st := s_Lbent)
  obtain ⟨fd4, D4⟩ := c.def_ 4 (x := "_law_things") (st := s_Lthings)
  obtain ⟨fd5, D5⟩ := c.def_ 5 (x := "_law_great") (st := s_Lgreat)
  obtain ⟨fd6, D6⟩ := c.def_ 6 (x := "_law_name") (st := s_Lname)
  obtain ⟨fd7, D7⟩ := c.def_ 7 (x := "_law_key") (st := s_Lkey)
  obtain ⟨fd8, D8⟩ := c.def_ 8 (x := "_law_value") (st := s_Lvalue)
  obtain ⟨fd9, D9⟩ := c.def_ 9 (x := "is_whole") (st := s_is_whole)
  obtain ⟨fd10, D10⟩ := c.def_ 10 (x := "is_between") (st := s_is_between)
  obtain ⟨fd11, D11⟩ := c.def_ 11 (x := "is_name") (st := s_is_name)
  obtain ⟨fd12, D12⟩ := c.def_ 12 (x := "is_key") (st := s_is_key)
  obtain ⟨fd13, D13⟩ := c.def_ 13 (x := "require_key") (st := s_require_key)
  obtain ⟨fd14, D14⟩ := c.def_ 14 (x := "first_wrong") (st := s_first_wrong)
  obtain ⟨fd15, D15⟩ := c.def_ 15 (x := "is_unit") (st := s_is_unit)
  obtain ⟨fd16, D16⟩ := c.def_ 16 (x := "are_cells") (st := s_are_cells)
  obtain ⟨fd17, D17⟩ := c.def_ 17 (x := "is_node_value") (st := s_is_node_value)
  obtain ⟨fd18, D18⟩ := c.def_ 18 (x := "fits") (st := s_fits)
  obtain ⟨fd19, D19⟩ := c.def_ 19 (x := "is_value") (st := s_is_value)
  obtain ⟨fd20, D20⟩ := c.def_ 20 (x := "_law_is_whole") (st := s_Lis_whole)
  obtain ⟨fd21, D21⟩ := c.def_ 21 (x := "_law_is_name") (st := s_Lis_name)
  obtain ⟨fd22, D22⟩ := c.def_ 22 (x := "_law_is_key") (st := s_Lis_key)
  obtain ⟨fd23, D23⟩ := c.def_ 23 (x := "_law_is_value") (st := s_Lis_value)
  obtain ⟨fd24, D24⟩ := c.def_ 24 (x := "_law_right") (st := s_Lright)
  obtain ⟨fd25, D25⟩ := c.def_ 25 (x := "_law_spring") (st := s_Lspring)
  obtain ⟨fd26, D26⟩ := c.def_ 26 (x := "law") (st := s_law)
  have F0 := fun_ofD D0
  have F1 := fun_ofD D1
  have F2 := fun_ofD D2
  have F3 := fun_ofD D3
  have F4 := fun_ofD D4
  have F5 := fun_ofD D5
  have F6 := fun_ofD D6
  have F7 := fun_ofD D7
  have F8 := fun_ofD D8
  have F9 := fun_ofD D9
  have F10 := fun_ofD D10
  have F11 := fun_ofD D11
  have F12 := fun_ofD D12
  have F13 := fun_ofD D13
  have F14 := fun_ofD D14
  have F15 := fun_ofD D15
  have F16 := fun_ofD D16
  have F17 := fun_ofD D17
  have F18 := fun_ofD D18
  have F19 := fun_ofD D19
  have F20 := fun_ofD D20
  have F21 := fun_ofD D21
  have F22 := fun_ofD D22
  have F23 := fun_ofD D23
  have F24 := fun_ofD D24
  have F25 := fun_ofD D25
  have F26 := fun_ofD D26
  obtain ⟨t_GREATEST, e_GREATEST⟩ := He.int_ok X G (c.d.fact 42 (f := .int "GREATEST" 4294967295) rfl)
  obtain ⟨t_GREATEST_UNIT, e_GREATEST_UNIT⟩ := He.int_ok X G (c.d.fact 43 (f := .int "GREATEST_UNIT" 65535) rfl)
  obtain ⟨t_MOST_CELLS, e_MOST_CELLS⟩ := He.int_ok X G (c.d.fact 44 (f := .int "MOST_CELLS" 256) rfl)
  obtain ⟨t_MOST_SIGNS, e_MOST_SIGNS⟩ := He.int_ok X G (c.d.fact 45 (f := .int "MOST_SIGNS" 9) rfl)
  obtain ⟨t_PIECES, e_PIECES⟩ := He.int_ok X G (c.d.fact 46 (f := .int "PIECES" 16) rfl)
  obtain ⟨t_PIECE_CELLS, e_PIECE_CELLS⟩ := He.int_ok X G (c.d.fact 47 (f := .int "PIECE_CELLS" 16) rfl)
  obtain ⟨t_SIGNS, e_SIGNS⟩ := He.str_ok X G (c.d.fact 48 (f := .str "SIGNS" "abcdefghijklmnopqrstuvwxyz0123456789.-") rfl)
  have e := hfa.symm.trans (He.glo_ok X G (c.d.fact 26 (f := .glo "law") rfl))
  cases e
  refine ⟨K, fd26, [(cdOf K ("is_name", none), tabOf K (cdOf K ("is_name", none)), q_is_name)], X, ?_, ?_, ?_, fun s v => ?_, fun base _ _ hTB => ?_⟩
  · intro p hp
    simp only [List.mem_cons, List.not_mem_nil, or_false] at hp
    rcases hp with rfl
    · exact (c.tab ("is_name", none) (List.mem_of_getElem? (i := 0) rfl)).2.1
  · intro p hp
    simp only [List.mem_cons, List.not_mem_nil, or_false] at hp
    rcases hp with rfl
    · exact (c.tab ("is_name", none) (List.mem_of_getElem? (i := 0) rfl)).2.2.1
  · intro p hp
    simp only [List.mem_cons, List.not_mem_nil, or_false] at hp
    rcases hp with rfl
    · exact codeHd_of X (c.tab ("is_name", none) (List.mem_of_getElem? (i := 0) rfl)).2.2.2
  · obtain ⟨oc, od, kV, doc, pm, an, cdv, ct, osl, e, _, _⟩ := F26.ex
    subst e
    exact .of_eq rfl
  let T : Txt K mg base := {
    C_is_name := cdOf K ("is_name", none), P_is_name := tabOf K (cdOf K ("is_name", none)), TB_is_name := hTB (cdOf K ("is_name", none), tabOf K (cdOf K ("is_name", none)), q_is_name) (by simp), FC_is_name := funC_ofD D11 (c.code _ (List.mem_of_getElem? (i := 0) rfl)),
    f_Ldraw := _, fd_Ldraw := _, F_Ldraw := F0, g_Ldraw := He.glo_ok X G (c.d.fact 0 (f := .glo "_law_draw") rfl), bi_Ldraw := F0.binds (ps := ["_law_spring_here", "_law_high"]) fun _ _ _ _ _ _ us hl => match us, hl with | [_, _], _ => rfl,
    f_Lpick := _, fd_Lpick := _, F_Lpick := F1, g_Lpick := He.glo_ok X G (c.d.fact 1 (f := .glo "_law_pick") rfl), bi_Lpick := F1.binds (ps := ["_law_spring_here", "_law_some"]) fun _ _ _ _ _ _ us hl => match us, hl with | [_, _], _ => rfl,
    f_Lodd := _, fd_Lodd := _, F_Lodd := F2, g_Lodd := He.glo_ok X G (c.d.fact 2 (f := .glo "_law_odd") rfl), bi_Lodd := F2.binds (ps := ["_law_spring_here"]) fun _ _ _ _ _ _ us hl => match us, hl with | [_], _ => rfl,
    f_Lbent := _, fd_Lbent := _, F_Lbent := F3, g_Lbent := He.glo_ok X G (c.d.fact 3 (f := .glo "_law_bent") rfl), bi_Lbent := F3.binds (ps := ["_law_spring_here", "_law_thing"]) fun _ _ _ _ _ _ us hl => match us, hl with | [_, _], _ => rfl,
    f_Lthings := _, fd_Lthings := _, F_Lthings := F4, g_Lthings := He.glo_ok X G (c.d.fact 4 (f := .glo "_law_things") rfl), bi_Lthings := F4.binds (ps := ["_law_spring_here", "_law_thing"]) fun _ _ _ _ _ _ us hl => match us, hl with | [_, _], _ => rfl,
    f_Lgreat := _, fd_Lgreat := _, F_Lgreat := F5, g_Lgreat := He.glo_ok X G (c.d.fact 5 (f := .glo "_law_great") rfl), bi_Lgreat := F5.binds (ps := ["_law_spring_here", "_law_low"]) fun _ _ _ _ _ _ us hl => match us, hl with | [_, _], _ => rfl,
    f_Lname := _, fd_Lname := _, F_Lname := F6, g_Lname := He.glo_ok X G (c.d.fact 6 (f := .glo "_law_name") rfl), bi_Lname := F6.binds (ps := ["_law_spring_here"]) fun _ _ _ _ _ _ us hl => match us, hl with | [_], _ => rfl,
    f_Lkey := _, fd_Lkey := _, F_Lkey := F7, g_Lkey := He.glo_ok X G (c.d.fact 7 (f := .glo "_law_key") rfl), bi_Lkey := F7.binds (ps := ["_law_spring_here"]) fun _ _ _ _ _ _ us hl => match us, hl with | [_], _ => rfl,
    f_Lvalue := _, fd_Lvalue := _, F_Lvalue := F8, g_Lvalue := He.glo_ok X G (c.d.fact 8 (f := .glo "_law_value") rfl), bi_Lvalue := F8.binds (ps := ["_law_spring_here", "_law_key_here"]) fun _ _ _ _ _ _ us hl => match us, hl with | [_, _], _ => rfl,
    f_is_whole := _, fd_is_whole := _, F_is_whole := F9, g_is_whole := He.glo_ok X G (c.d.fact 9 (f := .glo "is_whole") rfl), bi_is_whole := F9.binds (ps := ["value"]) fun _ _ _ _ _ _ us hl => match us, hl with | [_], _ => rfl,
    f_is_between := _, fd_is_between := _, F_is_between := F10, g_is_between := He.glo_ok X G (c.d.fact 10 (f := .glo "is_between") rfl), bi_is_between := F10.binds (ps := ["value", "least", "most"]) fun _ _ _ _ _ _ us hl => match us, hl with | [_, _, _], _ => rfl,
    f_is_name := _, fd_is_name := _, F_is_name := F11, g_is_name := He.glo_ok X G (c.d.fact 11 (f := .glo "is_name") rfl), bi_is_name := F11.binds (ps := ["value"]) fun _ _ _ _ _ _ us hl => match us, hl with | [_], _ => rfl,
    f_is_key := _, fd_is_key := _, F_is_key := F12, g_is_key := He.glo_ok X G (c.d.fact 12 (f := .glo "is_key") rfl), bi_is_key := F12.binds (ps := ["value"]) fun _ _ _ _ _ _ us hl => match us, hl with | [_], _ => rfl,
    f_require_key := _, fd_require_key := _, F_require_key := F13, g_require_key := He.glo_ok X G (c.d.fact 13 (f := .glo "require_key") rfl), bi_require_key := F13.binds (ps := ["key"]) fun _ _ _ _ _ _ us hl => match us, hl with | [_], _ => rfl,
    f_first_wrong := _, fd_first_wrong := _, F_first_wrong := F14, g_first_wrong := He.glo_ok X G (c.d.fact 14 (f := .glo "first_wrong") rfl), bi_first_wrong := F14.binds (ps := ["values", "is_right"]) fun _ _ _ _ _ _ us hl => match us, hl with | [_, _], _ => rfl,
    f_is_unit := _, fd_is_unit := _, F_is_unit := F15, g_is_unit := He.glo_ok X G (c.d.fact 15 (f := .glo "is_unit") rfl), bi_is_unit := F15.binds (ps := ["value"]) fun _ _ _ _ _ _ us hl => match us, hl with | [_], _ => rfl,
    f_are_cells := _, fd_are_cells := _, F_are_cells := F16, g_are_cells := He.glo_ok X G (c.d.fact 16 (f := .glo "are_cells") rfl), bi_are_cells := F16.binds (ps := ["value", "least", "most"]) fun _ _ _ _ _ _ us hl => match us, hl with | [_, _, _], _ => rfl,
    f_is_node_value := _, fd_is_node_value := _, F_is_node_value := F17, g_is_node_value := He.glo_ok X G (c.d.fact 17 (f := .glo "is_node_value") rfl), bi_is_node_value := F17.binds (ps := ["value"]) fun _ _ _ _ _ _ us hl => match us, hl with | [_], _ => rfl,
    f_fits := _, fd_fits := _, F_fits := F18, g_fits := He.glo_ok X G (c.d.fact 18 (f := .glo "fits") rfl), bi_fits := F18.binds (ps := ["key", "value"]) fun _ _ _ _ _ _ us hl => match us, hl with | [_, _], _ => rfl,
    f_is_value := _, fd_is_value := _, F_is_value := F19, g_is_value := He.glo_ok X G (c.d.fact 19 (f := .glo "is_value") rfl), bi_is_value := F19.binds (ps := ["key", "value"]) fun _ _ _ _ _ _ us hl => match us, hl with | [_, _], _ => rfl,
    f_Lis_whole := _, fd_Lis_whole := _, F_Lis_whole := F20, g_Lis_whole := He.glo_ok X G (c.d.fact 20 (f := .glo "_law_is_whole") rfl), bi_Lis_whole := F20.binds (ps := ["_law_thing", "_law_low", "_law_high"]) fun _ _ _ _ _ _ us hl => match us, hl with | [_, _, _], _ => rfl,
    f_Lis_name := _, fd_Lis_name := _, F_Lis_name := F21, g_Lis_name := He.glo_ok X G (c.d.fact 21 (f := .glo "_law_is_name") rfl), bi_Lis_name := F21.binds (ps := ["_law_thing"]) fun _ _ _ _ _ _ us hl => match us, hl with | [_], _ => rfl,
    f_Lis_key := _, fd_Lis_key := _, F_Lis_key := F22, g_Lis_key := He.glo_ok X G (c.d.fact 22 (f := .glo "_law_is_key") rfl), bi_Lis_key := F22.binds (ps := ["_law_thing"]) fun _ _ _ _ _ _ us hl => match us, hl with | [_], _ => rfl,
    f_Lis_value := _, fd_Lis_value := _, F_Lis_value := F23, g_Lis_value := He.glo_ok X G (c.d.fact 23 (f := .glo "_law_is_value") rfl), bi_Lis_value := F23.binds (ps := ["_law_key_here", "_law_thing"]) fun _ _ _ _ _ _ us hl => match us, hl with | [_, _], _ => rfl,
    f_Lright := _, fd_Lright := _, F_Lright := F24, g_Lright := He.glo_ok X G (c.d.fact 24 (f := .glo "_law_right") rfl), bi_Lright := F24.binds (ps := ["_law_spring_here"]) fun _ _ _ _ _ _ us hl => match us, hl with | [_], _ => rfl,
    f_Lspring := _, fd_Lspring := _, F_Lspring := F25, g_Lspring := He.glo_ok X G (c.d.fact 25 (f := .glo "_law_spring") rfl), bi_Lspring := F25.binds (ps := ["_law_script", "_law_turn"]) fun _ _ _ _ _ _ us hl => match us, hl with | [_, _], _ => rfl,
    f_law := _, fd_law := _, F_law := F26, g_law := He.glo_ok X G (c.d.fact 26 (f := .glo "law") rfl), bi_law := F26.binds (ps := ["_law_script"]) fun _ _ _ _ _ _ us hl => match us, hl with | [_], _ => rfl,
    kb_is_key_0_value := kb_is_key_0_value F12,
    kb_is_name_0_value := kb_is_name_0_value F11,
    kb_is_value_0_value_key := kb_is_value_0_value_key F19,
    b_abs := He.free_ok X G (c.d.fact 27 (f := .free "abs") rfl),
    b_all := He.free_ok X G (c.d.fact 28 (f := .free "all") rfl),
    b_bool := He.free_ok X G (c.d.fact 29 (f := .free "bool") rfl),
    b_divmod := He.free_ok X G (c.d.fact 30 (f := .free "divmod") rfl),
    b_enumerate := He.free_ok X G (c.d.fact 31 (f := .free "enumerate") rfl),
    b_int := He.free_ok X G (c.d.fact 32 (f := .free "int") rfl),
    b_isinstance := He.free_ok X G (c.d.fact 33 (f := .free "isinstance") rfl),
    b_len := He.free_ok X G (c.d.fact 34 (f := .free "len") rfl),
    b_list := He.free_ok X G (c.d.fact 35 (f := .free "list") rfl),
    b_max := He.free_ok X G (c.d.fact 36 (f := .free "max") rfl),
    b_min := He.free_ok X G (c.d.fact 37 (f := .free "min") rfl),
    b_range := He.free_ok X G (c.d.fact 38 (f := .free "range") rfl),
    b_repr := He.free_ok X G (c.d.fact 39 (f := .free "repr") rfl),
    b_str := He.free_ok X G (c.d.fact 40 (f := .free "str") rfl),
    b_tuple := He.free_ok X G (c.d.fact 41 (f := .free "tuple") rfl),
    t_GREATEST := _, c_GREATEST := e_GREATEST,
    t_GREATEST_UNIT := _, c_GREATEST_UNIT := e_GREATEST_UNIT,
    t_MOST_CELLS := _, c_MOST_CELLS := e_MOST_CELLS,
    t_MOST_SIGNS := _, c_MOST_SIGNS := e_MOST_SIGNS,
    t_PIECES := _, c_PIECES := e_PIECES,
    t_PIECE_CELLS := _, c_PIECE_CELLS := e_PIECE_CELLS,
    t_SIGNS := _, c_SIGNS := e_SIGNS }
  exact law_at T rfl rfl
end K14
open PySem PySem.W PySem.Calls PyProof.Rows
set_option maxHeartbeats 0 in
theorem PySem.Challenge.cw_flashtrees_k14_whole_keys_values_and_nam_holds : PySem.Challenge.rw_flashtrees_k14_whole_keys_values_and_nam.Holds := by
  w_on; o_law
  refine HandSHeadRun.head_any (r := OpenLaw.row PySem.Challenge.rw_flashtrees_k14_whole_keys_values_and_nam) (q := view (OpenLaw.row PySem.Challenge.rw_flashtrees_k14_whole_keys_values_and_nam).prog [41]) (H := K14.hdK) (ob := K14.hdOb) (M := 4000) (loose := K14.hdL) (d := HandSHeadRun.topDef (OpenLaw.row PySem.Challenge.rw_flashtrees_k14_whole_keys_values_and_nam).prog 41) (kwd := []) K14.hdOb_eq
    (by kernel_rfl) (fun s => by kernel_rfl) K14.hdRun (by kernel_rfl) (by kernel_rfl) (by kernel_rfl) (by rfl) (by first | assumption | decide +kernel) (by decide +kernel) ⟨rfl, rfl, rfl, rfl, rfl, by decide +kernel⟩ ?hw ?hc
  case hw => w_witness2
  case hc =>
    refine Vc.walkGX (l := PySem.Challenge.rw_flashtrees_k14_whole_keys_values_and_nam) (n := 63) (k := 21) (x := "_law_script") (sp := K14.sp_law) rfl (by decide) (by kernel_rfl) ⟨rfl, by decide, by decide⟩ ?F K14.law_start
    intro w mg fa h Y G hmg0
    have hmg : mg ("law" : PySem.Str) = some (.ref fa) := by
      have e : (HandSHeadRun.topDef (OpenLaw.row PySem.Challenge.rw_flashtrees_k14_whole_keys_values_and_nam).prog 41).name = ("law" : PySem.Str) := by kernel_rfl
      rw [← e]
      exact hmg0
    exact K14.all_mk (l := PySem.Challenge.rw_flashtrees_k14_whole_keys_values_and_nam) Y G hmg
