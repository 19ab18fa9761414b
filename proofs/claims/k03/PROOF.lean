import PyProof.Rows.All
import Wide.All
import OpenK.AllK
import Wide.FinOn
import HandS.Base
import HandS.Call
import HandS.Ends
import HandS.Words
import HandS.List
import HandS.Comp
import HandS.Iter
import HandS.Text
import HandS.Dict
import PyProof.ReprRoads
import HandS.StrMore
import HandS.Style
import HandS.TupAny
import HandS.IsInst
import HandS.Wide
import PyProof.StrLawsRepr
import PyProof.ReprLen
import PyProof.FitsInt
import HandS.Evl
import HandS.Walk
import HandS.SetBool
import HandS.SetKeys
import PyProof.SetRoads
import KE.KUnpackStar
import HandS.Exc
import HandS.ExcOwn
import HandS.WordsExc
import HandS.ExcInit
import HandS.ExcField
import HandS.ExcIs
import HandS.TupMul
import KE.KExcIs
import KE.KTryMore
import HandS.Conv
import PySem.Challenge.RW_decreedays_k03_has_date
set_option Elab.async false
set_option linter.all false
set_option maxRecDepth 100000
set_option maxHeartbeats 1000000
namespace DD
open PySem PySem.Spec PyProof.Rows L2
/-! ### defs that are called where no repr is under way -/
/-- what a def promises, for every call under which no repr runs -/
structure FnR (P : Program) (w : World) (K : PySem.W.Frag) (mg : Str → Option Value) (base : Heap) (CX : CXT) (k : Nat) (f : Addr) (fd : FuncData) (ps : List Str) (sp : Sp) : Prop where
  cnt : ∀ xs H Q E, sp xs H Q E → xs.length = ps.length
  go : ∀ (A : Around), A.guards = some [] → ∀ (fr : List Env) (s : Shared) (H : Hp) (args : Args) (us : List Value) (xs : List V) (Q : VK) (E : XK), Room k A → Env0 P w K mg base A fr s H →
    BindsTo s fd args (ps.zip us) → Vals xs us → sp xs H Q E → codeAny (model P w) A (.call (.ref f) args) (CR CX fr P w H s Q E) s
section
variable {P : Program} {w : World} {K : PySem.W.Frag} {mg : Str → Option Value} {base : Heap} {CX : CXT} {k j : Nat} {f : Addr} {fd : FuncData} {ps : List Str} {sp : Sp}
theorem FnR.of (F : FnOk P w K mg base CX k f fd ps sp) : FnR P w K mg base CX k f fd ps sp :=
  ⟨F.len, fun A _ fr s H args us xs Q E a b c d e => F.run A fr s H args us xs Q E a b c d e⟩
theorem FnR.up (F : FnR P w K mg base CX j f fd ps sp) (h : j ≤ k) : FnR P w K mg base CX k f fd ps sp :=
  ⟨F.cnt, fun A g fr s H args us xs Q E a => F.go A g fr s H args us xs Q E (a.mono h)⟩
/-- a def of the text, by its body -/
theorem okR {x qual : Str} {st : Stmt} {N : List Str} (F : Fun K x qual st f fd) (S : FnScope N ps (defScope st)) (cnt : ∀ xs H Q E, sp xs H Q E → xs.length = ps.length)
    (hb : ∀ (cdv : Value) (A : Around) (fr : List Env) (s : Shared) (H : Hp) (xs : List V) (Q : VK) (E : XK), A.guards = some [] → Room k (A.deeper (envOfC qual (defScope st) s.heap.objs.size f cdv)) → sp xs H Q E →
      ∃ t, PSs (cxOf CX P w K mg base N qual (defScope st) f cdv A fr s H E) (defBody st) t ∧ t { nx := fun _ H' => Q .non H', rt := Q } (start N xs) H) :
    FnR P w K mg base CX (k + 1) f fd ps sp := by
  obtain ⟨oc, od, kV, doc, pm, an, cdv, ct, osl, rfl, lk, hcd⟩ := F.ex
  refine ⟨cnt, fun A gd fr s H args us xs Q E room en bt rv hsp => ?_⟩
  have many := cnt _ _ _ _ hsp
  have inK : K.In s.heap := en.mod.kin.keeps fun b o e => (en.bs b o e).1
  have nolim : s.heap.NoLimit := en.mod.nolimit.keeps fun b o e => (en.bs b o e).1
  refine codeAny_call_function room.depth (inK _ _ lk) rfl S.co S.gen rfl (PySem.W.codeRec_of inK hcd) (bt _ _ _ _ ?_)
  refine wpAny_newFunctionEnv_cells S.kind (fun y hy => ?_) fun env he s1 made => ?_
  · obtain ⟨n, v⟩ := y
    exact (S.par n (List.of_mem_zip hy).1).elim .inl fun q => .inr ⟨q, PySem.W.cellsFrom_some _ _ _ (.inl q)⟩
  subst he
  refine ⟨nolim.keeps made.toInCall.keep, codeAny_func ?_⟩
  obtain ⟨t, ht, hq⟩ := hb cdv A fr s H xs Q E gd (room.deeper _) hsp
  have I := inv_start (CX := CX) (E := E) S room.hd en many rv made
  refine wpAny_mono (ht.run [] s1 (start N xs) H _ I hq) (fun fl s' hs => ?_) fun e s' hs => hs
  cases fl with
  | ret u => exact let ⟨v, _, H', J, rv', q⟩ := hs; ⟨v, H', J.os, J.bare, J.base, J.hok, rv', q⟩
  | next => exact let ⟨_, H', J, q⟩ := hs; ⟨.non, H', J.os, J.bare, J.base, J.hok, rfl, q⟩
  | brk => exact False.elim hs.choose_spec.choose_spec.2
  | cont => exact False.elim hs.choose_spec.choose_spec.2
end
/-- the same of a def that lets no error out -/
theorem okR0 {P : Program} {w : World} {K : PySem.W.Frag} {mg : Str → Option Value} {base : Heap} {k : Nat} {f : Addr} {fd : FuncData} {ps : List Str} {sp : Sp} {x qual : Str} {st : Stmt} {N : List Str} (F : Fun K x qual st f fd) (S : FnScope N ps (defScope st))
    (cnt : ∀ xs H Q E, sp xs H Q E → xs.length = ps.length)
    (hb : ∀ (cdv : Value) (A : Around) (fr : List Env) (s : Shared) (H : Hp) (xs : List V) (Q : VK) (E : XK), A.guards = some [] → Room k (A.deeper (envOfC qual (defScope st) s.heap.objs.size f cdv)) → sp xs H Q E →
      ∃ t, PSs (cxOf CX0 P w K mg base N qual (defScope st) f cdv A fr s H E).nox (defBody st) t ∧ t { nx := fun _ H' => Q .non H', rt := Q } (start N xs) H) :
    FnR P w K mg base CX0 (k + 1) f fd ps sp :=
  okR F S cnt fun cdv A fr s H xs Q E gd hr h => let ⟨t, h1, h2⟩ := hb cdv A fr s H xs Q E gd hr h; ⟨t, h1.nox, h2⟩
section
variable {X : Cx} {CX : CXT} {k : Nat} {f : Addr} {fd : FuncData} {ps : List Str} {sp : Sp} {dvs : List V} {ds : List Value} {E : XK} {x : Str} {p pos : Pos} {e : Expr} {es : List Expr} {t : TA}
theorem runR {pins : List (Addr × Obj)} {σ : L2.St} {H : Hp} {s : Shared} {Q : VK} {us : List Value} {xs : List V} (F : FnR X.prog X.w X.K X.mg X.base CX k f fd ps sp) (gd : X.A.guards = some []) (hr : Room k X.A) (hb : Binds X.K fd ps ds) (hd : Vals dvs ds) (hx : Passes CX X E)
    (I : Inv X pins σ H s) (r : Vals xs us) (h : sp (xs ++ dvs) H Q E) : wpAny (model X.prog X.w) X.A (call (.ref f) us) (EP X pins σ Q) X.xe s := by
  have all : Vals (xs ++ dvs) (us ++ ds) := r.append hd
  have many : (us ++ ds).length = ps.length := all.length.symm.trans (F.cnt _ _ _ _ h)
  have main := F.go X.A gd X.stack s H ⟨us, []⟩ (us ++ ds) (xs ++ dvs) Q E hr I.env0 (hb s us I.kIn many) all h
  refine wpAny_call (codeAny_mono main fun r s' hq => ?_)
  match r, hq with
  | .error e, hq => exact hx pins σ H s e s' I hq
  | .ok (.ret _), hq => exact I.after hq
theorem pe_callR (F : FnR X.prog X.w X.K X.mg X.base CX k f fd ps sp) (gd : X.A.guards = some []) (hr : Room k X.A) (hg : Gl X x) (hm : X.mg x = some (.ref f)) (hk : PySem.W.keepIn X.K (.ref f) = true) (hb : Binds X.K fd ps ds) (hd : Vals dvs ds) (hx : Passes CX X E)
    (ha : PA X (e :: es) t) (hdb : (x == ("__debug__" : Str)) = false := by decide) (he : starEach (e :: es) X.env = (false, eval e X.env) :: starEach es X.env := by rfl) (hpl : (backTo pos (starEach es X.env)).any (·.1) = false := by rfl) :
    PE X (.Call (.Name x p) (e :: es) [] pos) (tCall sp dvs E t) :=
  ⟨fun pins s σ H Q I h => wpAny_Call_Name_kw (ld_glob I hg hm
    (PySem.W.callWith_K (h₀ := X.base) I.ok.mod.kin hk (thn (ha.run pos pins s σ H _ I h) fun _ s1 ⟨_, _, I1, r, q⟩ => ⟨I1.kIn, runR F gd hr hb hd hx I1 r q⟩) he hpl) hdb)⟩
end
/-! ### the head -/
theorem hidden_ns {h : Heap} {H : Hp} {a b : Addr} {m : Str → Option Value} (hA : ∀ c, H c ≠ none → c = a) {o : Obj} {its : Array Value} {n : Nat} (ha : h.get? a = some o) (ho : o.data = .seq its n) : h.Ns b m → (hidT h H).Ns b m := by
  rintro ⟨o2, es, ep, e, d, r⟩
  refine ⟨o2, es, ep, hidT_get e ?_, d, r⟩
  cases q : H b with
  | none => rfl
  | some u =>
    have eb : b = a := hA b (by rw [q]; exact fun z => nomatch z)
    rw [eb, ha] at e
    cases e
    rw [ho] at d
    cases d
/-- the law's promise, run at the top -/
theorem law_run {P : Program} {w : World} {K : PySem.W.Frag} {mg mb : Str → Option Value} {CX : CXT} {k : Nat} {fa a : Addr} {fd : FuncData} {x : Str} {sp : Sp} {s1 : Shared} {its : List Value} {ns : List Int}
    (inK : K.In s1.heap) (gl : s1.heap.Ns mainGlobals mg) (bl : s1.heap.Ns builtinsNs mb) (bb : ∀ y : Str, y ≠ "__name__" → mb y = bootBuiltins y) (lim : s1.heap.NoLimit) (gens : s1.gens = #[])
    (ha : s1.heap.get? a = some { cls := .type "list", data := .seq its.toArray }) (hiv : IntsAre its ns) (few : ns.length ≤ sizeLine) (hr : Room k callerA)
    (F : ∀ base : Heap, K.In base → base.Ns mainGlobals mg → FnR P w K mg base CX k fa fd [x] sp) (bind : ∀ (s : Shared) (u : Value), BindsTo s fd ⟨[u], []⟩ [(x, u)])
    (hsp : ∀ H : Hp, Only H → SqL K H a (ns.map V.int) → sp [.ref a] H (fun v _ => v = .bl true) fun _ _ _ => False)
    (none_leaves : ∀ H e s', CX [] H s1 (fun _ _ _ => False) e s' → False) :
    codeAny (model P w) callerA (.call (.ref fa) ⟨[.ref a], []⟩) (fun r s' => r = .ok (.ret (.bool true)) ∧ OldK s1.heap s'.heap ∧ s'.os = s1.os ∧ AllBare s'.gens) s1 := by
  have rv : Vals (ns.map V.int) its := vals_ints hiv
  have key : ∀ H : Hp, Only H → SqL K H a (ns.map V.int) → HOk P w H s1.heap → (∀ c, H c ≠ none → c = a) → (H a ≠ none → K.lookup a = none) →
      codeAny (model P w) callerA (.call (.ref fa) ⟨[.ref a], []⟩) (fun r s' => r = .ok (.ret (.bool true)) ∧ OldK s1.heap s'.heap ∧ s'.os = s1.os ∧ AllBare s'.gens) s1 := by
    intro H only seq hok hA hK
    have ns : ∀ {b : Addr} {m : Str → Option Value}, s1.heap.Ns b m → (hidT s1.heap H).Ns b m := fun z => hidden_ns hA ha rfl z
    have hKb : K.In (hidT s1.heap H) := fun b o e => hidT_get (inK b o e) (by
      cases q : H b with
      | none => rfl
      | some u =>
        have eb : b = a := hA b (by rw [q]; exact fun z => nomatch z)
        rw [eb] at e q
        rw [hK (by rw [q]; exact fun z => nomatch z)] at e
        cases e)
    have hM : Mod K mg (hidT s1.heap H) := ⟨hKb, ns gl, ⟨mb, ns bl, bb⟩, lim.elim fun mc z => ⟨mc, ns z.1, z.2⟩⟩
    have e0 : Env0 P w K mg (hidT s1.heap H) callerA [] s1 H :=
      ⟨rfl, hM, fun b o e => of_hidT e, Nat.le_of_eq (hidT_size _ _), trivial, fun b z => absurd z List.not_mem_nil, hok, .of_eq gens⟩
    refine codeAny_mono ((F _ hKb (ns gl)).go callerA rfl [] s1 H ⟨[.ref a], []⟩ [.ref a] [.ref a] _ _ hr e0 (bind s1 (.ref a)) (.cons rfl .nil) (hsp H only seq)) fun r s' h => ?_
    match r, h with
    | .error e, h => exact (none_leaves H e s' h).elim
    | .ok (.ret u), ⟨v, H', os, bare, un, hok', r', q⟩ =>
      cases (show v = .bl true from q)
      cases (show u = Value.bool true from r')
      refine ⟨rfl, OldK.of_keep fun b o e => ?_, os, bare⟩
      rcases only b with z | ⟨ob, xs, z⟩
      · exact un.keep b o e z (fun y => absurd y List.not_mem_nil) List.not_mem_nil
      · have before := (hok b _ z).1
        rw [e] at before
        cases before
        exact (hok' b _ (un.frzs b _ _ z)).1
  cases hk : K.lookup a with
  | some o =>
    have same := inK a o hk
    rw [ha] at same
    cases same
    refine key (fun _ => none) (fun _ => .inl rfl) (.inr ⟨_, its.toArray, _, hk, rfl, rfl, rfl, ?_, ?_⟩) (fun b u z => nomatch (show (none : Option HO) = some u from z)) (fun b z => absurd rfl z) fun z => absurd rfl z
    · rw [List.size_toArray, hiv.length]
      exact few
    · simpa using rv
  | none =>
    have at_a : ∀ {c : Addr} {u : HO}, (if c = a then some (HO.frz { cls := .type "list", data := .seq its.toArray } (.lst (ns.map V.int))) else none) = some u → c = a ∧ u = HO.frz { cls := .type "list", data := .seq its.toArray } (.lst (ns.map V.int)) := by
      intro c u z
      split at z
      · exact ⟨by assumption, (Option.some.inj z).symm⟩
      · cases z
    refine key (fun c => if c = a then some (.frz { cls := .type "list", data := .seq its.toArray } (.lst (ns.map V.int))) else none) (fun c => ?_) (.inl (.inr ⟨_, if_pos rfl⟩)) (fun c u z => ?_) (fun c z => ?_) fun _ => hk
    · by_cases hc : c = a
      · exact .inr ⟨_, _, if_pos hc⟩
      · exact .inl (if_neg hc)
    · obtain ⟨rfl, rfl⟩ := at_a z
      exact ⟨ha, by rw [List.length_map]; exact few, its, _, rv, ha⟩
    · by_cases hc : c = a
      · exact hc
      · exact absurd (if_neg hc) z
/-- the goal that the head leaves, from the law's promise -/
theorem walkR {l : PySem.W.OpenLaw} {n k : Nat} {q : Program} {loose : List Str} {XP : (Str → Option Value) → Heap → Prop} {YP : World → Heap → Prop} {d : DefRec} {K : Params → PySem.W.Frag} {CX : CXT} {sp : PySem.W.Frag → Sp} {x : Str}
    (hn : l.most = some n) (hn2 : n ≤ sizeLine) (hdf : d.params.defaults = []) (hr : Room k callerA) (hY : ∀ (w : World) (h : Heap), YP w h → (K w.params).In h)
    (F : ∀ (w : World) (mg : Str → Option Value) (fa : Addr) (h : Heap), (K w.params).In h → h.Ns mainGlobals mg → mg d.name = some (.ref fa) →
      ∃ fd : FuncData, (∀ (s : Shared) (u : Value), BindsTo s fd ⟨[u], []⟩ [(x, u)]) ∧ ∀ base : Heap, (K w.params).In base → base.Ns mainGlobals mg → FnR l.prog w (K w.params) mg base CX k fa fd [x] (sp (K w.params)))
    (hsp : ∀ (K : PySem.W.Frag) (H : Hp) (a : Addr) (ns : List Int), ns.length ≤ n → Only H → SqL K H a (ns.map V.int) → sp K [.ref a] H (fun v _ => v = .bl true) fun _ _ _ => False)
    (none_leaves : ∀ (H : Hp) (s : Shared) (e : Value) (s' : Shared), CX [] H s (fun _ _ _ => False) e s' → False) :
    PySem.W.WalkO q loose XP YP l.row.toRowW d [] (fun f vs => PySem.call f vs) := by
  refine Att.attach_call hn hdf fun w s0 s1 mg mb fa o pm cd doc a its ns G Y ho hd hcd hmg hobj hints hlen hg => ?_
  have inK := hY w _ Y
  obtain ⟨fd, hb, hF⟩ := F w mg fa _ inK G.T.g hmg
  exact law_run inK G.T.g G.T.b G.T.builtins G.T.nolimit hg hobj hints (Nat.le_trans hlen hn2) hr hF hb (fun H o1 o2 => hsp _ H a ns hlen o1 o2) fun H e s' => none_leaves H s1 e s'
/-! ### repr of data -/
section
variable {X : Cx}
theorem depth_fits {A : Around} {n : Nat} (h : n ≤ 60) (hu : A.units + 64 < cLine) : A.units + (n + 1) < cLine := by omega
/-- repr(x), x any data without dicts -/
theorem call_reprD (gd : X.A.guards = some []) (hu : X.A.units + 64 < cLine) : CallR X (.builtin "repr") (fun xs H Q => ∃ v d, xs = [v] ∧ Dp X.K H v d ∧ d.showable = true ∧ d.hasDict = false ∧ d.depth ≤ 60 ∧ d.shown.length ≤ sizeLine ∧ Q (.str d.shown) H) := by
  intro pins s σ H xs us Q I r h
  obtain ⟨v, d, rfl, hd, hs, hn, dep, hz, q⟩ := h
  obtain ⟨u, rfl, ru⟩ := vals1 r
  have heap : ∀ {a : Addr} {as : List Addr}, Reads s.heap (.ref a) d as → wpAny (model X.prog X.w) X.A (call (.builtin "repr") [.ref a]) (EP X pins σ Q) X.xe s := fun {a as} rd =>
    repr_of_reads' rd hs (fun z => by rw [hn] at z; cases z) gd (depth_fits dep hu) (fun _ _ e => e) (fun h' u tk hk => ⟨.str d.shown, H, I.kept hk, ⟨_, rfl⟩, q⟩) hz
  obtain ⟨as, rd⟩ := Dp.reads I d v u hd ru
  cases d with
  | none => cases rd; exact PySem.P.repr_of_none ⟨.str _, H, I.tok _, ⟨_, rfl⟩, q⟩
  | bool b => cases rd; exact PySem.P.repr_of_bool ⟨.str _, H, I.tok _, ⟨_, rfl⟩, q⟩
  | int i => cases rd; exact PySem.P.repr_of_int (of_decide_eq_true hs) ⟨.str _, H, I.tok _, ⟨_, rfl⟩, q⟩
  | str x => cases rd; exact PySem.P.repr_of_str ⟨.str _, H, I.tok _, ⟨_, rfl⟩, q⟩ hz
  | list ds => cases rd with | list a b c e => exact heap (.list a b c e)
  | tuple ds => cases rd with | tuple a b c e => exact heap (.tuple a b c e)
  | dict kvs => cases hd
end
end DD

namespace DD
open PySem PySem.Spec PyProof.Rows L2
/-! ### data: sizes, plain texts -/
mutual
def wt : PyData → Nat
  | .none | .bool _ => 8
  | .int _ => 300
  | .str x => 10 * x.length + 4
  | .list xs | .tuple xs => wtAll xs + 4
  | .dict _ => 0
def wtAll : List PyData → Nat
  | [] => 0
  | x :: xs => wt x + 4 + wtAll xs
end
def tidy (x : Str) : Bool := x.cps.all (· < 128)
mutual
def fineB (B : Nat) : PyData → Bool
  | .none | .bool _ => true
  | .int i => decide (i.natAbs < B)
  | .str x => tidy x
  | .list xs | .tuple xs => fineAllB B xs
  | .dict _ => false
def fineAllB (B : Nat) : List PyData → Bool
  | [] => true
  | x :: xs => fineB B x && fineAllB B xs
end
abbrev fine : PyData → Bool := fineB (10 ^ 80)
abbrev fineAll : List PyData → Bool := fineAllB (10 ^ 80)
theorem fineAllB_iff {B : Nat} : ∀ {ds : List PyData}, fineAllB B ds = true ↔ ∀ d ∈ ds, fineB B d = true
  | [] => ⟨fun _ d h => absurd h List.not_mem_nil, fun _ => rfl⟩
  | x :: xs => by
    unfold fineAllB
    rw [Bool.and_eq_true, fineAllB_iff (ds := xs), List.forall_mem_cons]
theorem fineAll_iff {ds : List PyData} : fineAll ds = true ↔ ∀ d ∈ ds, fine d = true := fineAllB_iff
mutual
theorem fineB_mono {B C : Nat} (h : B ≤ C) : ∀ d : PyData, fineB B d = true → fineB C d = true
  | .none, _ => rfl
  | .bool _, _ => rfl
  | .int i, q => decide_eq_true (Nat.lt_of_lt_of_le (of_decide_eq_true q) h)
  | .str _, q => q
  | .list xs, q => fineAllB_mono h xs q
  | .tuple xs, q => fineAllB_mono h xs q
  | .dict _, q => nomatch q
theorem fineAllB_mono {B C : Nat} (h : B ≤ C) : ∀ ds : List PyData, fineAllB B ds = true → fineAllB C ds = true
  | [], _ => rfl
  | x :: xs, q => by
    obtain ⟨h1, h2⟩ := Bool.and_eq_true_iff.mp (show (fineB B x && fineAllB B xs) = true from q)
    show (fineB C x && fineAllB C xs) = true
    rw [fineB_mono h x h1, fineAllB_mono h xs h2]
    rfl
end
theorem wtAll_mem : ∀ {ds : List PyData} {d : PyData}, d ∈ ds → wt d + 4 ≤ wtAll ds
  | [], _, h => absurd h List.not_mem_nil
  | x :: xs, d, h => by
    unfold wtAll
    rcases List.mem_cons.mp h with rfl | h
    · omega
    · have := wtAll_mem h
      omega
theorem wtAll_append : ∀ (as bs : List PyData), wtAll (as ++ bs) = wtAll as + wtAll bs
  | [], bs => by simp [wtAll]
  | a :: as, bs => by
    show wt a + 4 + wtAll (as ++ bs) = _
    rw [wtAll_append as bs]
    show _ = wt a + 4 + wtAll as + _
    omega
theorem wtAll_len : ∀ ds : List PyData, 4 * ds.length ≤ wtAll ds
  | [] => Nat.le_refl _
  | x :: xs => by
    have := wtAll_len xs
    unfold wtAll
    rw [List.length_cons]
    omega
theorem ofS_len (t : String) : (Str.ofString t).length = t.length := PySem.ofString_length t
theorem e80 : (10 : Nat) ^ 80 < 2 ^ 300 := by decide +kernel
mutual
theorem shown_le : ∀ d : PyData, fine d = true → d.shown.length ≤ wt d
  | .none, _ => by decide
  | .bool b, _ => by cases b <;> decide
  | .int i, h => by
    have hi : i.natAbs < 10 ^ 80 := of_decide_eq_true h
    have := int_text_length_le10 (k := 80) (by decide) hi
    show (Str.ofString (toString i)).length ≤ 300
    rw [ofS_len]
    omega
  | .str x, h => by
    have hx : ∀ c ∈ x.cps.toList, c < 16 ^ 8 := fun c hc => by
      have := Array.all_eq_true'.mp (show x.cps.all (· < 128) = true from h) c (by simpa using hc)
      have := of_decide_eq_true this
      omega
    have := PySem.StrLaws.reprText_len x hx
    show (reprText x).length ≤ 10 * x.length + 4
    omega
  | .list xs, h => by
    have := listText_len_le (PyData.shownAll xs)
    have := shownAll_le xs h
    show (listText _).length ≤ wtAll xs + 4
    omega
  | .tuple xs, h => by
    have := tupleText_len_le (PyData.shownAll xs)
    have := shownAll_le xs h
    show (tupleText _).length ≤ wtAll xs + 4
    omega
  | .dict _, h => nomatch h
theorem shownAll_le : ∀ ds : List PyData, fineAll ds = true → ((PyData.shownAll ds).map (·.length)).sum + 2 * (PyData.shownAll ds).length ≤ wtAll ds
  | [], _ => Nat.le_refl _
  | x :: xs, h => by
    obtain ⟨h1, h2⟩ := Bool.and_eq_true_iff.mp (show (fine x && fineAll xs) = true from h)
    have a := shown_le x h1
    have b := shownAll_le xs h2
    show ((x.shown :: PyData.shownAll xs).map (·.length)).sum + 2 * (x.shown :: PyData.shownAll xs).length ≤ wt x + 4 + wtAll xs
    rw [List.map_cons, List.sum_cons, List.length_cons]
    omega
end
mutual
theorem showable_of : ∀ d : PyData, fine d = true → d.showable = true ∧ d.hasDict = false
  | .none, _ => ⟨rfl, rfl⟩
  | .bool b, _ => ⟨rfl, rfl⟩
  | .int i, h => by
    have hi : i.natAbs < 10 ^ 80 := of_decide_eq_true h
    refine ⟨decide_eq_true ?_, rfl⟩
    have := PySem.Flt.log2_lt_of (n := i.natAbs) (k := 300) (by decide) (Nat.lt_trans hi e80)
    omega
  | .str x, h => ⟨rfl, rfl⟩
  | .list xs, h => showableAll_of xs h
  | .tuple xs, h => showableAll_of xs h
  | .dict _, h => nomatch h
theorem showableAll_of : ∀ ds : List PyData, fineAll ds = true → PyData.showableAll ds = true ∧ PyData.hasDictAll ds = false
  | [], _ => ⟨rfl, rfl⟩
  | x :: xs, h => by
    obtain ⟨h1, h2⟩ := Bool.and_eq_true_iff.mp (show (fine x && fineAll xs) = true from h)
    obtain ⟨a1, a2⟩ := showable_of x h1
    obtain ⟨b1, b2⟩ := showableAll_of xs h2
    exact ⟨by show (x.showable && PyData.showableAll xs) = true; rw [a1, b1]; rfl, by show (x.hasDict || PyData.hasDictAll xs) = false; rw [a2, b2]; rfl⟩
end
/-- data of a law: small enough, no deep nest -/
structure Good (n k : Nat) (d : PyData) : Prop where
  fin : fine d = true
  wt : wt d ≤ n
  dp : d.depth ≤ k
theorem Good.up {n k n' k' : Nat} {d : PyData} (g : Good n k d) (h : n ≤ n' := by omega) (h' : k ≤ k' := by omega) : Good n' k' d := ⟨g.fin, Nat.le_trans g.wt h, Nat.le_trans g.dp h'⟩
theorem depth_mem : ∀ {ds : List PyData} {d : PyData}, d ∈ ds → d.depth ≤ PyData.depthAll ds
  | [], _, h => absurd h List.not_mem_nil
  | x :: xs, d, h => by
    show _ ≤ max x.depth (PyData.depthAll xs)
    rcases List.mem_cons.mp h with rfl | h
    · exact Nat.le_max_left _ _
    · exact Nat.le_trans (depth_mem h) (Nat.le_max_right _ _)
theorem depthAll_le {n : Nat} : ∀ {ds : List PyData}, (∀ d ∈ ds, d.depth ≤ n) → PyData.depthAll ds ≤ n
  | [], _ => Nat.zero_le _
  | x :: xs, h => Nat.max_le.mpr ⟨h x (List.mem_cons_self ..), depthAll_le fun d hd => h d (List.mem_cons_of_mem _ hd)⟩
theorem Good.tup_mem {n k : Nat} {ds : List PyData} {d : PyData} (g : Good n k (.tuple ds)) (h : d ∈ ds) : Good (n - 8) (k - 1) d := by
  have h1 := g.wt
  have h2 := g.dp
  have h3 := wtAll_mem h
  have h4 := depth_mem h
  refine ⟨fineAll_iff.mp g.fin d h, ?_, ?_⟩
  · have : DD.wt (.tuple ds) = wtAll ds + 4 := rfl
    omega
  · have : (PyData.tuple ds).depth = PyData.depthAll ds + 1 := rfl
    omega
theorem Good.mk_tup {n k : Nat} {ds : List PyData} (h1 : ∀ d ∈ ds, fine d = true ∧ d.depth ≤ k) (h2 : wtAll ds + 4 ≤ n) : Good n (k + 1) (.tuple ds) :=
  ⟨fineAll_iff.mpr fun d h => (h1 d h).1, h2, Nat.succ_le_succ (depthAll_le fun d h => (h1 d h).2)⟩
theorem Good.mk_lst {n k : Nat} {ds : List PyData} (h1 : ∀ d ∈ ds, fine d = true ∧ d.depth ≤ k) (h2 : wtAll ds + 4 ≤ n) : Good n (k + 1) (.list ds) :=
  ⟨fineAll_iff.mpr fun d h => (h1 d h).1, h2, Nat.succ_le_succ (depthAll_le fun d h => (h1 d h).2)⟩
theorem line20 : (1000000 : Nat) ≤ sizeLine := by rw [sizeLine_eq]; decide

/-! ### data at a value: each tuple is known as it was made, without a dict of its own -/
def SqF (K : PySem.W.Frag) (H : Hp) (a : Addr) (vs : List V) : Prop := ∃ o : Obj, o.dict = none ∧ (H a = some (.frz o (.tup vs)) ∨
  (K.lookup a = some o ∧ o.cls = .type "tuple" ∧ ∃ (its : Array Value) (n : Nat), o.data = .seq its n ∧ its.size ≤ sizeLine ∧ Vals vs its.toList))
theorem SqF.sqT {K : PySem.W.Frag} {H : Hp} {a : Addr} {vs : List V} (h : SqF K H a vs) : SqT K H a vs := by
  obtain ⟨o, _, h | ⟨h1, h2, its, n, h3, h4, h5⟩⟩ := h
  · exact .inl (.inr ⟨o, h⟩)
  · exact .inr ⟨o, its, n, h1, h2, h3, h4, h5⟩
theorem SqF.to {K : PySem.W.Frag} {H H' : Hp} {a : Addr} {vs : List V} (e : Same H H') (h : SqF K H a vs) : SqF K H' a vs := by
  obtain ⟨o, hd, h | h⟩ := h
  · exact ⟨o, hd, .inl (e _ _ h)⟩
  · exact ⟨o, hd, .inr h⟩
mutual
inductive Df (K : PySem.W.Frag) (H : Hp) : V → PyData → Prop
  | non : Df K H .non .none
  | bl (b : Bool) : Df K H (.bl b) (.bool b)
  | int (i : Int) : Df K H (.int i) (.int i)
  | str (x : Str) : Df K H (.str x) (.str x)
  | lst {a : Addr} {xs : List V} {ds : List PyData} : SqL K H a xs → DfAll K H xs ds → Df K H (.ref a) (.list ds)
  | tup {a : Addr} {xs : List V} {ds : List PyData} : SqF K H a xs → DfAll K H xs ds → Df K H (.ref a) (.tuple ds)
inductive DfAll (K : PySem.W.Frag) (H : Hp) : List V → List PyData → Prop
  | nil : DfAll K H [] []
  | cons {v : V} {vs : List V} {d : PyData} {ds : List PyData} : Df K H v d → DfAll K H vs ds → DfAll K H (v :: vs) (d :: ds)
end
mutual
theorem Df.dp' {K : PySem.W.Frag} {H : Hp} : ∀ (d : PyData) (v : V), Df K H v d → Dp K H v d
  | .none, _, .non => .non
  | .bool _, _, .bl b => .bl b
  | .int _, _, .int i => .int i
  | .str _, _, .str x => .str x
  | .list ds, _, .lst h t => .lst h (DfAll.dp' ds _ t)
  | .tuple ds, _, .tup h t => .tup h.sqT (DfAll.dp' ds _ t)
theorem DfAll.dp' {K : PySem.W.Frag} {H : Hp} : ∀ (ds : List PyData) (vs : List V), DfAll K H vs ds → DpAll K H vs ds
  | [], _, .nil => .nil
  | d :: ds, _, .cons h t => .cons (Df.dp' d _ h) (DfAll.dp' ds _ t)
end
theorem Df.dp {K : PySem.W.Frag} {H : Hp} {d : PyData} {v : V} (h : Df K H v d) : Dp K H v d := Df.dp' d v h
theorem DfAll.get {K : PySem.W.Frag} {H : Hp} : ∀ {vs : List V} {ds : List PyData} {i : Nat} {v : V}, DfAll K H vs ds → vs[i]? = some v → ∃ d, ds[i]? = some d ∧ Df K H v d
  | [], _, _, _, _, e => by simp at e
  | v :: vs, d :: ds, 0, _, .cons h _, e => by
    cases e
    exact ⟨d, rfl, h⟩
  | v :: vs, d :: ds, i + 1, _, .cons _ t, e => DfAll.get (i := i) t e
theorem DfAll.getD {K : PySem.W.Frag} {H : Hp} : ∀ {vs : List V} {ds : List PyData} {i : Nat} {d : PyData}, DfAll K H vs ds → ds[i]? = some d → ∃ v, vs[i]? = some v ∧ Df K H v d
  | _, [], _, _, _, e => by simp at e
  | v :: vs, d :: ds, 0, _, .cons h _, e => by
    cases e
    exact ⟨v, rfl, h⟩
  | v :: vs, d :: ds, i + 1, _, .cons _ t, e => DfAll.getD (i := i) t e
theorem DfAll.len {K : PySem.W.Frag} {H : Hp} : ∀ {vs : List V} {ds : List PyData}, DfAll K H vs ds → vs.length = ds.length
  | _, _, .nil => rfl
  | _, _, .cons _ t => congrArg Nat.succ (DfAll.len t)
theorem DfAll.app {K : PySem.W.Frag} {H : Hp} : ∀ {vs ws : List V} {ds es : List PyData}, DfAll K H vs ds → DfAll K H ws es → DfAll K H (vs ++ ws) (ds ++ es)
  | _, _, _, _, .nil, s => s
  | _, _, _, _, .cons h t, s => .cons h (DfAll.app t s)
theorem DfAll.take {K : PySem.W.Frag} {H : Hp} : ∀ (n : Nat) {vs : List V} {ds : List PyData}, DfAll K H vs ds → DfAll K H (vs.take n) (ds.take n)
  | 0, _, _, _ => .nil
  | _ + 1, _, _, .nil => .nil
  | n + 1, _, _, .cons h t => .cons h (DfAll.take n t)
theorem DfAll.drop {K : PySem.W.Frag} {H : Hp} : ∀ (n : Nat) {vs : List V} {ds : List PyData}, DfAll K H vs ds → DfAll K H (vs.drop n) (ds.drop n)
  | 0, _, _, h => h
  | _ + 1, _, _, .nil => .nil
  | n + 1, _, _, .cons _ t => DfAll.drop n t
theorem DfAll.rev {K : PySem.W.Frag} {H : Hp} : ∀ {vs : List V} {ds : List PyData}, DfAll K H vs ds → DfAll K H vs.reverse ds.reverse
  | _, _, .nil => .nil
  | _, _, .cons h t => by
    rw [List.reverse_cons, List.reverse_cons]
    exact DfAll.app (DfAll.rev t) (.cons h .nil)
theorem seqT_mono {K : PySem.W.Frag} {H H' : Hp} {a : Addr} {xs : List V} (e : Same H H') (h : SqT K H a xs) : SqT K H' a xs := by
  rcases h with (h | ⟨o, h⟩) | h
  · exact .inl (.inl (e _ _ h))
  · exact .inl (.inr ⟨o, e _ _ h⟩)
  · exact .inr h
mutual
theorem Df.mono {K : PySem.W.Frag} {H H' : Hp} (e : Same H H') : ∀ (d : PyData) (v : V), Df K H v d → Df K H' v d
  | .none, _, .non => .non
  | .bool _, _, .bl b => .bl b
  | .int _, _, .int i => .int i
  | .str _, _, .str x => .str x
  | .list ds, _, .lst h t => .lst (e.seq h) (DfAll.mono e ds _ t)
  | .tuple ds, _, .tup h t => .tup (h.to e) (DfAll.mono e ds _ t)
theorem DfAll.mono {K : PySem.W.Frag} {H H' : Hp} (e : Same H H') : ∀ (ds : List PyData) (vs : List V), DfAll K H vs ds → DfAll K H' vs ds
  | [], _, .nil => .nil
  | d :: ds, _, .cons h t => .cons (Df.mono e d _ h) (DfAll.mono e ds _ t)
end
theorem Df.to {K : PySem.W.Frag} {H H' : Hp} {d : PyData} {v : V} (h : Df K H v d) (e : Same H H') : Df K H' v d := Df.mono e d v h
theorem DfAll.to {K : PySem.W.Frag} {H H' : Hp} {ds : List PyData} {vs : List V} (h : DfAll K H vs ds) (e : Same H H') : DfAll K H' vs ds := DfAll.mono e ds vs h
theorem same_new {H : Hp} {p : Addr} {o : HO} (h : H p = none) : Same H (upd H p o) := fun b x e => by
  rw [upd_ne (ne_of_none e h)]
  exact e
theorem len3 {α : Type} {l : List α} (h : l.length = 3) : ∃ a b c, l = [a, b, c] := by
  match l, h with
  | [a, b, c], _ => exact ⟨a, b, c, rfl⟩
theorem len2 {α : Type} {l : List α} (h : l.length = 2) : ∃ a b, l = [a, b] := by
  match l, h with
  | [a, b], _ => exact ⟨a, b, rfl⟩
theorem DfAll.c {K : PySem.W.Frag} {H : Hp} {vs : List V} {d : PyData} {ds : List PyData} (h : DfAll K H vs (d :: ds)) : ∃ v r, vs = v :: r ∧ Df K H v d ∧ DfAll K H r ds := by
  cases h with
  | cons a b => exact ⟨_, _, rfl, a, b⟩
theorem DfAll.n {K : PySem.W.Frag} {H : Hp} {vs : List V} (h : DfAll K H vs []) : vs = [] := by
  cases h
  rfl
theorem DfAll.three {K : PySem.W.Frag} {H : Hp} {vs : List V} {a b c : PyData} (h : DfAll K H vs [a, b, c]) : ∃ x y z, vs = [x, y, z] ∧ Df K H x a ∧ Df K H y b ∧ Df K H z c := by
  obtain ⟨x, _, rfl, h1, h⟩ := DfAll.c h
  obtain ⟨y, _, rfl, h2, h⟩ := DfAll.c h
  obtain ⟨z, _, rfl, h3, h⟩ := DfAll.c h
  obtain rfl := DfAll.n h
  exact ⟨x, y, z, rfl, h1, h2, h3⟩
theorem DfAll.two {K : PySem.W.Frag} {H : Hp} {vs : List V} {a b : PyData} (h : DfAll K H vs [a, b]) : ∃ x y, vs = [x, y] ∧ Df K H x a ∧ Df K H y b := by
  obtain ⟨x, _, rfl, h1, h⟩ := DfAll.c h
  obtain ⟨y, _, rfl, h2, h⟩ := DfAll.c h
  obtain rfl := DfAll.n h
  exact ⟨x, y, rfl, h1, h2⟩
theorem Df.tupF_inv {K : PySem.W.Frag} {H : Hp} {v : V} {ds : List PyData} (h : Df K H v (.tuple ds)) : ∃ a vs, v = .ref a ∧ SqF K H a vs ∧ DfAll K H vs ds := by
  cases h with
  | tup a b => exact ⟨_, _, rfl, a, b⟩
theorem Df.tup_inv {K : PySem.W.Frag} {H : Hp} {v : V} {ds : List PyData} (h : Df K H v (.tuple ds)) : ∃ a vs, v = .ref a ∧ SqT K H a vs ∧ DfAll K H vs ds := by
  obtain ⟨a, vs, e, h1, h2⟩ := h.tupF_inv
  exact ⟨a, vs, e, h1.sqT, h2⟩
theorem Df.lst_inv {K : PySem.W.Frag} {H : Hp} {v : V} {ds : List PyData} (h : Df K H v (.list ds)) : ∃ a vs, v = .ref a ∧ SqL K H a vs ∧ DfAll K H vs ds := by
  cases h with
  | lst a b => exact ⟨_, _, rfl, a, b⟩
/-! ### the heap without some objects: what is read there does not change with them -/
def hid (S : Addr → Bool) (H : Hp) : Hp := fun b => if S b = true then none else H b
theorem hid_same {S : Addr → Bool} {H : Hp} : Same (hid S H) H := fun b o e => by
  unfold hid at e
  split at e
  · cases e
  · exact e
theorem hid_upd {S : Addr → Bool} {H : Hp} {a : Addr} {o : HO} (h : S a = true) : hid S (upd H a o) = hid S H := by
  funext b
  unfold hid
  split
  · rfl
  · rename_i hb
    have : b ≠ a := fun z => hb (by rw [z]; exact h)
    rw [upd_ne this]
/-- all but the objects of S stay -/
def Keeps (S : Addr → Bool) (H H' : Hp) : Prop := Same (hid S H) (hid S H')
theorem Keeps.rfl {S : Addr → Bool} {H : Hp} : Keeps S H H := Same.refl _
theorem Keeps.trans {S : Addr → Bool} {H H1 H2 : Hp} (a : Keeps S H H1) (b : Keeps S H1 H2) : Keeps S H H2 := Same.trans a b
theorem Keeps.at {S : Addr → Bool} {H H' : Hp} (k : Keeps S H H') {b : Addr} {o : HO} (hb : S b = false) (e : H b = some o) : H' b = some o := by
  have h1 : hid S H b = some o := by unfold hid; rw [if_neg (by rw [hb]; exact Bool.false_ne_true)]; exact e
  exact hid_same b o (k b o h1)
theorem Keeps.of {S : Addr → Bool} {H H' : Hp} (h : ∀ b o, S b = false → H b = some o → H' b = some o) : Keeps S H H' := fun b o e => by
  unfold hid at e ⊢
  split at e
  · cases e
  · rename_i hb
    rw [if_neg hb]
    exact h b o (by simpa using hb) e
theorem Keeps.new {S : Addr → Bool} {H : Hp} {p : Addr} {o : HO} (h : H p = none) : Keeps S H (upd H p o) := Keeps.of fun b x _ e => same_new h b x e
theorem Keeps.set {S : Addr → Bool} {H : Hp} {p : Addr} {o : HO} (h : S p = true) : Keeps S H (upd H p o) := by
  unfold Keeps
  rw [hid_upd h]
  exact Same.refl _
theorem Keeps.same {S : Addr → Bool} {H H' : Hp} (h : Same H H') : Keeps S H H' := Keeps.of fun b o _ e => h b o e
/-- the objects of S are all there (so a new one is not of S) -/
def There (S : Addr → Bool) (H : Hp) : Prop := ∀ b, S b = true → H b ≠ none
theorem There.new {S : Addr → Bool} {H : Hp} {p : Addr} (t : There S H) (h : H p = none) : S p = false := by
  cases e : S p with
  | false => rfl
  | true => exact absurd h (t p e)
theorem hid_at {S : Addr → Bool} {H : Hp} {b : Addr} (h : S b = false) : hid S H b = H b := by
  unfold hid
  rw [h]
  rfl
/-- the source's address, if there is one -/
def one (a : Option Addr) : Addr → Bool := fun b => decide (a = some b)
theorem one_self (a : Addr) : one (some a) a = true := decide_eq_true rfl
theorem one_ne {a b : Addr} (h : b ≠ a) : one (some a) b = false := decide_eq_false fun z => h (Option.some.inj z).symm
theorem one_is {a : Option Addr} {b : Addr} (h : one a b = true) : a = some b := of_decide_eq_true h
theorem one_no {a : Option Addr} {b : Addr} (h : a ≠ some b) : one a b = false := decide_eq_false h
theorem one_not {a : Option Addr} {b : Addr} (h : one a b = false) : a ≠ some b := of_decide_eq_false h
/-! ### rules by data -/
def tyName : PyData → String
  | .none => "NoneType"
  | .bool _ => "bool"
  | .int _ => "int"
  | .str _ => "str"
  | .list _ => "list"
  | .tuple _ => "tuple"
  | .dict _ => "dict"
theorem Dp.ty {K : PySem.W.Frag} {H : Hp} {v : V} {d : PyData} (h : Dp K H v d) : TyX K H v (.type (tyName d)) := by
  cases h with
  | non => exact .base .non
  | bl b => exact .base (.bl b)
  | int i => exact .base (.int i)
  | str x => exact .base (.str x)
  | lst h _ =>
    rcases h with (h | ⟨o, h⟩) | ⟨o, its, n, hk, hc, _⟩
    · exact .base (.lst h)
    · exact .base (.frz h)
    · exact .kList hk hc
  | tup h _ =>
    rcases h with (h | ⟨o, h⟩) | ⟨o, its, n, hk, hc, _⟩
    · exact .base (.tup h)
    · exact .fTuple h
    · exact .kTuple hk hc
theorem Df.ty {K : PySem.W.Frag} {H : Hp} {v : V} {d : PyData} (h : Df K H v d) : TyX K H v (.type (tyName d)) := Dp.ty h.dp
def isTy (T : String) (d : PyData) : Bool := (kitB (tyName d) T).getD false
section
variable {X : Cx}
/-- isinstance(x, T) of data: T one of the built-in types that are asked -/
theorem call_isiD : CallR X (.builtin "isinstance") (fun xs H Q => ∃ v d T b, xs = [v, .ty T] ∧ Df X.K H v d ∧ kitB (tyName d) T = some b ∧ Q (.bl b) H) := by
  intro pins s σ H xs us Q I r h
  obtain ⟨v, d, T, b, rfl, hd, hk, q⟩ := h
  exact call_isi pins s σ H _ us Q I r ⟨v, .ty T, _, _, b, rfl, .ty T, Df.ty hd, kit_ty hk, q⟩
/-- a ** b of ints -/
def CPowB (i j : Int) : Prop := 0 ≤ j ∧ ((i.natAbs.log2 : Int) + 1) * j ≤ 2 ^ 27
theorem op_powB : OpR X (binaryOp .Pow) (rI CPowB fun i j => .int (i ^ j.toNat)) := opI fun i j _ _ _ _ _ hc q => by
  refine PyProof.Rows.pow_int hc.1 ?_ q
  have b : (Builtin.Int.intBits i : Int) ≤ (i.natAbs.log2 : Int) + 1 := by
    unfold Builtin.Int.intBits
    split <;> omega
  exact Int.le_trans (Int.mul_le_mul_of_nonneg_right b hc.1) hc.2
end
/-- a call by keywords alone: ks their names, as they are written; ps the parameters; g puts the values in the parameters' order -/
structure KwTo (fd : FuncData) (ks ps : List Str) (g : {α : Type} → List α → List α) : Prop where
  eq : ∀ us : List Value, us.length = ks.length → bindArgs fd ⟨[], ks.zip us⟩ = pure (ps.zip (g us))
  rel : ∀ {xs : List V} {us : List Value}, Vals xs us → xs.length = ks.length → Vals (g xs) (g us)
def gId {α : Type} (l : List α) : List α := l
def gSwap {α : Type} (l : List α) : List α := match l with
  | [a, b] => [b, a]
  | l => l
theorem gSwap_rel {xs : List V} {us : List Value} (r : Vals xs us) (h : xs.length = 2) : Vals (gSwap xs) (gSwap us) := by
  match xs, us, r, h with
  | [a, b], _, .cons r1 (.cons r2 .nil), _ => exact .cons r2 (.cons r1 .nil)
def tCallKw (m : Nat) (sp : Sp) (g : {α : Type} → List α → List α) (E : XK) (tk : TA) : TE := fun σ H Q => tk σ H fun zs H1 => zs.length = m ∧ sp (g zs) H1 Q E
section
variable {X : Cx} {CX : CXT} {k : Nat} {f : Addr} {fd : FuncData} {ps ks : List Str} {sp : Sp} {E : XK} {x : Str} {p pos : Pos} {kws : List Keyword} {tk : TA} {g : {α : Type} → List α → List α}
theorem pe_callKw (F : FnOk X.prog X.w X.K X.mg X.base CX k f fd ps sp) (hr : Room k X.A) (hg : Gl X x) (hm : X.mg x = some (.ref f)) (hk : PySem.W.keepIn X.K (.ref f) = true) (hb : KwTo fd ks ps g) (hx : Passes CX X E)
    (hkw : PK X kws tk) (hall : (backToKw pos (keywordEach kws X.env)).all (·.1.isSome) = true := by rfl) (hks : (backToKw pos (keywordEach kws X.env)).filterMap (·.1) = ks := by rfl)
    (hdb : (x == ("__debug__" : Str)) = false := by decide) (hpl : ((backTo pos (starEach [] X.env)).any (·.1) || (backToKw pos (keywordEach kws X.env)).any (·.1.isNone)) = false := by rfl) :
    PE X (.Call (.Name x p) [] kws pos) (tCallKw ks.length sp g E tk) := by
  refine ⟨fun pins s σ H Q I h => wpAny_Call_Name_kw (ld_glob I hg hm ?_ hdb)⟩
  refine PySem.W.callWith_KW0 (h₀ := X.base) I.ok.mod.kin hk hall (thn (hkw.run pos pins s σ H _ I h) fun ws s1 ⟨zs, H1, I1, rz, len, q⟩ => ⟨I1.kIn, ?_⟩) hpl
  rw [hks]
  have r2 := hb.rel rz len
  have lw : ws.length = ks.length := rz.length.symm.trans len
  have main := F.run X.A X.stack s1 H1 ⟨[], ks.zip ws⟩ (g ws) (g zs) Q E hr I1.env0 (.of_eq (hb.eq ws lw)) r2 q
  refine wpAny_call (codeAny_mono main fun r s' hq => ?_)
  match r, hq with
  | .error e, hq => exact hx pins σ H1 s1 e s' I1 hq
  | .ok (.ret _), hq => exact I1.after hq
end
/-! ### what the program's and the law's tests say of data -/
def isInt : PyData → Bool
  | .int _ => true
  | _ => false
def isKint : PyData → Bool
  | .int _ => true
  | .bool _ => true
  | _ => false
theorem kit_int : ∀ d : PyData, fine d = true → kitB (tyName d) "int" = some (isKint d)
  | .none, _ => (show kitB "NoneType" "int" = some false by decide +kernel)
  | .bool _, _ => (show kitB "bool" "int" = some true by decide +kernel)
  | .int _, _ => (show kitB "int" "int" = some true by decide +kernel)
  | .str _, _ => (show kitB "str" "int" = some false by decide +kernel)
  | .list _, _ => (show kitB "list" "int" = some false by decide +kernel)
  | .tuple _, _ => (show kitB "tuple" "int" = some false by decide +kernel)
  | .dict _, h => nomatch h
def isKbool : PyData → Bool
  | .bool _ => true
  | _ => false
theorem kit_bool : ∀ d : PyData, fine d = true → kitB (tyName d) "bool" = some (isKbool d)
  | .none, _ => (show kitB "NoneType" "bool" = some false by decide +kernel)
  | .bool _, _ => (show kitB "bool" "bool" = some true by decide +kernel)
  | .int _, _ => (show kitB "int" "bool" = some false by decide +kernel)
  | .str _, _ => (show kitB "str" "bool" = some false by decide +kernel)
  | .list _, _ => (show kitB "list" "bool" = some false by decide +kernel)
  | .tuple _, _ => (show kitB "tuple" "bool" = some false by decide +kernel)
  | .dict _, h => nomatch h
def isKstr : PyData → Bool
  | .str _ => true
  | _ => false
theorem kit_str : ∀ d : PyData, fine d = true → kitB (tyName d) "str" = some (isKstr d)
  | .none, _ => (show kitB "NoneType" "str" = some false by decide +kernel)
  | .bool _, _ => (show kitB "bool" "str" = some false by decide +kernel)
  | .int _, _ => (show kitB "int" "str" = some false by decide +kernel)
  | .str _, _ => (show kitB "str" "str" = some true by decide +kernel)
  | .list _, _ => (show kitB "list" "str" = some false by decide +kernel)
  | .tuple _, _ => (show kitB "tuple" "str" = some false by decide +kernel)
  | .dict _, h => nomatch h
def isKtuple : PyData → Bool
  | .tuple _ => true
  | _ => false
theorem kit_tuple : ∀ d : PyData, fine d = true → kitB (tyName d) "tuple" = some (isKtuple d)
  | .none, _ => (show kitB "NoneType" "tuple" = some false by decide +kernel)
  | .bool _, _ => (show kitB "bool" "tuple" = some false by decide +kernel)
  | .int _, _ => (show kitB "int" "tuple" = some false by decide +kernel)
  | .str _, _ => (show kitB "str" "tuple" = some false by decide +kernel)
  | .list _, _ => (show kitB "list" "tuple" = some false by decide +kernel)
  | .tuple _, _ => (show kitB "tuple" "tuple" = some true by decide +kernel)
  | .dict _, h => nomatch h
end DD

namespace DDT
open PySem PySem.Spec PyProof.Rows
/-! ### t[::-1] of a tuple -/
section
variable {prog : Program} {w : World} {A : Around} {E : Value → Shared → Prop} {s : Shared}
theorem back_places (n : Nat) : Builtin.Slice.slicePlaces ((n : Int) - 1) (-1) (-1) = n := by
  unfold Builtin.Slice.slicePlaces
  rw [if_neg (by decide : ¬ ((-1 : Int) > 0))]
  by_cases h : (n : Int) - 1 > -1
  · rw [if_pos h, show -(-1 : Int) = 1 from rfl, Int.ediv_one]
    omega
  · rw [if_neg h]
    show 0 = n
    omega
theorem applied_back {sl : Addr} {n : Nat} {u : Tok} {Q : Int × Int × Nat → Shared → Prop} (hs : s.heap.IsSliceOf sl .none .none (.int (-1) u)) (h : Q ((n : Int) - 1, -1, n) s) :
    wpAny (model prog w) A (Builtin.Slice.sliceApplied (.ref sl) (pure (n : Int))) Q E s := by
  obtain ⟨os, e1, e2, e3⟩ := id hs
  unfold Builtin.Slice.sliceApplied Builtin.Slice.sliceFields
  refine wpAny_bind (wpAny_bind (wpAny_field e1 e3 (x := .none) rfl (wpAny_bind (wpAny_field e1 e3 (x := .none) rfl (wpAny_bind (wpAny_field e1 e3 (x := .int (-1) u) rfl (wpAny_pure (wpAny_bind (slicePart_int ?_)))))))))
  show wpAny _ _ (if ((-1 : Int) == 0) = true then _ else _) _ _ s
  rw [if_neg (by decide)]
  refine wpAny_bind (slicePart_none (wpAny_bind (slicePart_none (wpAny_bind (wpAny_pure ?_)))))
  show wpAny _ _ (pure (((n : Int) - 1), (-1 : Int), Builtin.Slice.slicePlaces ((n : Int) - 1) (-1) (-1))) _ _ s
  rw [back_places]
  exact wpAny_pure h
theorem pick_back (xs : Array Value) : ((List.range xs.size).filterMap fun (m : Nat) => xs[((((xs.size : Nat) : Int) - 1) + (m : Int) * (-1)).toNat]?).toArray = xs.toList.reverse.toArray := by
  congr 1
  have key : ∀ k, k ≤ xs.size → (List.range k).filterMap (fun (m : Nat) => xs[((((xs.size : Nat) : Int) - 1) + (m : Int) * (-1)).toNat]?) = xs.toList.reverse.take k := by
    intro k
    induction k with
    | zero => intro _; rfl
    | succ k ih =>
      intro hk
      have e1 : ((((xs.size : Nat) : Int) - 1) + (k : Int) * (-1)).toNat = xs.size - 1 - k := by omega
      have hlt : xs.size - 1 - k < xs.size := by omega
      have hl : k < xs.toList.reverse.length := by
        rw [List.length_reverse, Array.length_toList]
        omega
      have e2 : xs[xs.size - 1 - k]? = some xs[xs.size - 1 - k] := Array.getElem?_eq_getElem hlt
      have e3 : xs.toList.reverse[k] = xs[xs.size - 1 - k] := by
        rw [List.getElem_reverse, Array.getElem_toList]
        all_goals rfl
      rw [List.range_succ, List.filterMap_append, ih (by omega), List.take_add_one, List.filterMap_cons, e1, e2, List.getElem?_eq_getElem hl, e3]
      rfl
  rw [key xs.size (Nat.le_refl _)]
  exact List.take_of_length_le (by rw [List.length_reverse, Array.length_toList]; exact Nat.le_refl _)
theorem item_back {t sl : Addr} {items : Array Value} {u : Tok} {Q : Value → Shared → Prop} (ht : IsTup s.heap t items) (hs : s.heap.IsSliceOf sl .none .none (.int (-1) u))
    (h : Q (.ref s.heap.objs.size) { s with heap := s.heap.push { cls := .type "tuple", data := .seq items.toList.reverse.toArray } }) (hsz : items.size ≤ sizeLine) : wpAny (model prog w) A (getItem (.ref t) (.ref sl)) Q E s := by
  have room : sizeOk (.seq items.toList.reverse.toArray) := by
    show items.toList.reverse.toArray.size ≤ sizeLine
    rw [List.size_toArray, List.length_reverse, Array.length_toList]
    exact hsz
  obtain ⟨os, e1, e2, e3⟩ := id hs
  have isSl : s.TypeIs (.ref sl) "slice" := ⟨os, e1, e2⟩
  unfold getItem
  refine wpAny_holding ?_
  refine wpAny_bind (wpAny_sequenceKey ht.typeIs (by decide) (wpAny_bind (wpAny_callSpecial?_slot (name := Str.ofString "__getitem__") ht.typeIs PyProof.Rows.slot_tuple_getitem (wpAny_call_entry PyProof.Rows.slot_tuple_getitem ht.typeIs entry_tuple_getitem ?_ (args_tuple_getitem _ _)))))
  show wpAny _ _ (Builtin.Tuple.tupleItemsOf (.ref t) >>= _) _ _ s
  refine wpAny_bind (tupleItemsOf_ ht (wpAny_bind (wpAny_typeOf isSl ?_)))
  rw [if_pos (by decide)]
  refine wpAny_bind (applied_back hs ?_)
  show wpAny _ _ (if (((items.size : Nat) : Int) - 1 == 0 && (-1 : Int) == 1 && items.size == items.size) = true then _ else _) _ _ s
  rw [if_neg (by rw [show ((-1 : Int) == 1) = false from rfl, Bool.and_false, Bool.false_and]; exact Bool.false_ne_true), pick_back]
  first
    | exact wpAny_bind (m := Builtin.Tuple.tupleExact _) (wpAny_newObj_type (wpAny_pure ⟨_, rfl, wpAny_pure h⟩) room)
    | exact wpAny_bind (m := Builtin.Tuple.tupleExact _) (wpAny_newObj_type (wpAny_bind (wpAny_pure (wpAny_pure ⟨_, rfl, wpAny_pure h⟩))) room)
    | exact wpAny_bind (wpAny_bind (m := Builtin.Tuple.tupleExact _) (wpAny_newObj_type (wpAny_pure (wpAny_pure ⟨_, rfl, wpAny_pure h⟩)) room))
    | exact wpAny_bind (wpAny_bind (m := Builtin.Tuple.tupleExact _) (wpAny_newObj_type (wpAny_pure ⟨_, rfl, wpAny_pure h⟩) room))
end
end DDT
namespace DD
open PySem PySem.Spec PyProof.Rows L2
section
variable {X : Cx}
def tRevT (K : PySem.W.Frag) (te : TE) : TE := fun σ H Q => te σ H fun x H1 => ∃ a xs, x = .ref a ∧ SqT K H1 a xs ∧ ∀ p o, H1 p = none → o.dict = none → Q (.ref p) (upd H1 p (.frz o (.tup xs.reverse)))
theorem pe_revT {e : Expr} {te : TE} {k : Nat} {p1 p2 p3 pos : Pos} (he : PE X e te) : PE X (.Subscript e (.Slice none none (some (.UnaryOp .USub (.Constant (.int 1) k p1) p2)) p3) pos) (tRevT X.K te) := by
  refine ⟨fun pins s σ H Q I h => Subscript_ (thn (he.run pins s σ H _ I h) fun v s1 ⟨x, H1, I1, r1, a, xs, ex, hx, q⟩ => ?_)⟩
  subst ex
  cases r1
  have part : PO X (some (.UnaryOp .USub (.Constant (.int 1) k p1) p2)) (tPart (tUn (rU fun i => .int (-i)) (tC (.int 1)))) := po_some (pe_un un_neg pe_int)
  refine wpAny_Slice (thn (po_none.run pins s1 σ H1 (fun o G => o = none ∧ G = H1) I1 ⟨rfl, rfl⟩) fun vl s2 ⟨l, H2, I2, pl, el, g2⟩ => ?_)
  subst el g2
  refine thn (po_none.run pins s2 σ H2 (fun o G => o = none ∧ G = H2) I2 ⟨rfl, rfl⟩) fun vu s3 ⟨u, H3, I3, pu, eu, g3⟩ => ?_
  subst eu g3
  refine thn (part.run pins s3 σ H3 (fun o G => o = some (-1) ∧ G = H3) I3 ⟨1, rfl, -1, rfl, rfl, rfl⟩) fun vs s4 ⟨o, H4, I4, ps, eo, g4⟩ => ?_
  subst eo g4
  have I5 : Inv X pins σ H4 { s4 with heap := s4.heap.push { cls := .type "slice", data := .fields #[vl, vu, vs] } } := I4.kept (t' := s4.toks) fun b ob q => Heap.get?_push_of_some _ q
  obtain ⟨its, r, ht, hz⟩ := I5.tuple hx
  have len := r.length
  cases pl
  cases pu
  cases ps
  show wpAny (model X.prog X.w) X.A (subscriptTail e (.Slice none none (some (.UnaryOp .USub (.Constant (.int 1) k p1) p2)) p3) (.ref a) (.ref s4.heap.objs.size)) (EP X pins σ Q) X.xe { s4 with heap := s4.heap.push { cls := .type "slice", data := .fields #[.none, .none, _] } }
  refine tail_any (ops := [.ref a, .ref s4.heap.objs.size]) ht.typeIs (PyProof.Rows.slot_tuple_getitem.lookup) ?_ (by with_unfolding_all rfl)
  refine DDT.item_back ht (Heap.IsSliceOf.new _ _ _ _) ?_ (by rw [List.size_toArray]; omega)
  exact ⟨.ref _, _, I5.laid (t' := s4.toks) (o := .frz _ (.tup xs.reverse)) (fun b ob q => Heap.get?_push_of_some _ q) (Nat.le_refl _) ⟨Heap.get?_push_size _ rfl, by rw [List.length_reverse]; exact hz, _, r.reverse, IsTup.new _ _⟩, rfl, q _ _ (I5.hok.fresh (Nat.le_refl _)) rfl⟩
/-- xs + ys of any two lists that may be read -/
def rCatQ (K : PySem.W.Frag) : R2 := fun x y H Q => ∃ a b xs ys, x = .ref a ∧ y = .ref b ∧ SqL K H a xs ∧ SqL K H b ys ∧ xs.length + ys.length ≤ sizeLine ∧ ∀ p, H p = none → Q (.ref p) (upd H p (.lst (xs ++ ys)))
theorem op_catQ : OpR X (binaryOp .Add) (rCatQ X.K) := by
  intro pins s σ H x y v u Q I rx ry h
  obtain ⟨a, b, xs, ys, rfl, rfl, ha, hb, hz, q⟩ := h
  cases rx
  cases ry
  obtain ⟨its, r1, ⟨⟨c1, d1, dt1, l1⟩, n1, e1, f1, g1, i1⟩, _⟩ := I.list ha
  obtain ⟨jts, r2, ⟨⟨c2, d2, dt2, l2⟩, n2, e2, f2, g2, i2⟩, _⟩ := I.list hb
  simp only at f1 g1 i1 f2 g2 i2
  subst f1 g1 i1 f2 g2 i2
  have e : its.toArray ++ jts.toArray = (its ++ jts).toArray := by simp
  have few : its.toArray.size + jts.toArray.size ≤ sizeLine := by
    rw [List.size_toArray, List.size_toArray, ← r1.length, ← r2.length]
    exact hz
  refine concat_meets ⟨_, e1, rfl⟩ ⟨_, e2, rfl⟩ noFill_list_add seq_list_add PySem.F.slot_list_add PySem.F.entry_list_add (PySem.F.args_list_add_2 _ _) (list_addW a b _ _ n1 n2 _ _ l1 l2 few) ⟨e1, e2, ?_⟩
  rw [e]
  exact ⟨.ref _, _, I.lnew (t' := s.toks) (r1.append r2) (by rw [List.length_append]; exact hz), rfl, q _ I.fresh⟩
/-! ### tuples that are made: known as they are made -/
def tTupF (t : TA) : TE := fun σ H Q => t σ H fun xs H1 => xs.length ≤ sizeLine ∧ ∀ p o, H1 p = none → o.dict = none → Q (.ref p) (upd H1 p (.frz o (.tup xs)))
theorem pe_tupF {es : List Expr} {t : TA} {pos : Pos} {x1} (h : PA X es t) : PE X (.Tuple es x1 pos) (tTupF t) := by
  refine ⟨fun pins s σ H Q I hq => ?_⟩
  refine wpAny_Tuple_spliced (thn (h.run pos pins s σ H _ I hq) fun us s1 ⟨xs, H1, I1, r, z, q⟩ => ⟨by rw [← r.length]; exact z, ?_⟩)
  exact ⟨.ref s1.heap.objs.size, _, I1.laid (t' := s1.toks) (o := .frz _ (.tup xs)) (fun b u e => Heap.get?_push_of_some _ e) (Nat.le_refl _) ⟨Heap.get?_push_size _ rfl, z, us, r, ⟨_, Heap.get?_push_size _ rfl, rfl, _, rfl⟩⟩, rfl, q _ _ (I1.hok.fresh (Nat.le_refl _)) rfl⟩
def rSlF (K : PySem.W.Frag) : V → Option Int → Option Int → Hp → VK → Prop := fun x lo hi H Q => ∃ a xs, x = .ref a ∧ SqT K H a xs ∧
  (HT.sIx xs.length 0 lo = 0 ∧ HT.sIx xs.length xs.length hi = xs.length → Q (.ref a) H) ∧ (¬ (HT.sIx xs.length 0 lo = 0 ∧ HT.sIx xs.length xs.length hi = xs.length) → ∀ p o, H p = none → o.dict = none → Q (.ref p) (upd H p (.frz o (.tup (cutV xs lo hi)))))
theorem sl_tupF {K : PySem.W.Frag} (hK : X.K = K) : SlR X (rSlF K) := by
  subst hK
  intro pins s σ H x v vl vu lo hi sl Q I rx hs pl pu h
  obtain ⟨a, xs, rfl, hx, q1, q2⟩ := h
  cases rx
  obtain ⟨its, r, ht, hz⟩ := I.tuple hx
  have hlen : its.toArray.size = xs.length := by rw [List.size_toArray]; exact r.length.symm
  refine ⟨"tuple", _, PyProof.Rows.slot_tuple_getitem.lookup, ht.typeIs, ?_⟩
  by_cases hw : HT.sIx xs.length 0 lo = 0 ∧ HT.sIx xs.length xs.length hi = xs.length
  · exact getItem_tuple_whole ht hs pl pu (by rw [hlen]; exact hw) ⟨.ref a, H, I, rfl, q1 hw⟩
  · refine HT.getItem_tuple_cut ht hs pl pu (by rw [hlen]; exact hw) ?_ (by rw [hlen]; exact hz)
    rw [hlen]
    exact ⟨.ref s.heap.objs.size, _, I.laid (t' := s.toks) (o := .frz _ (.tup (cutV xs lo hi))) (fun b ob q => Heap.get?_push_of_some _ q) (Nat.le_refl _) ⟨Heap.get?_push_size _ rfl, Nat.le_trans (cutV_length xs lo hi) hz, _, (r.drop (HT.sIx xs.length 0 lo)).take (HT.sIx xs.length xs.length hi - HT.sIx xs.length 0 lo), IsTup.new _ _⟩, rfl, q2 hw _ _ (I.hok.fresh (Nat.le_refl _)) rfl⟩
def rCatF (K : PySem.W.Frag) : R2 := fun x y H Q => ∃ a b xs ys, x = .ref a ∧ y = .ref b ∧ SqT K H a xs ∧ SqT K H b ys ∧ xs.length + ys.length ≤ sizeLine ∧ (xs = [] → Q (.ref b) H) ∧ (xs ≠ [] → ys = [] → Q (.ref a) H) ∧
  (xs ≠ [] → ys ≠ [] → ∀ p o, H p = none → o.dict = none → Q (.ref p) (upd H p (.frz o (.tup (xs ++ ys)))))
theorem op_catF {K : PySem.W.Frag} (hK : X.K = K) : OpR X (binaryOp .Add) (rCatF K) := by
  subst hK
  intro pins s σ H x y v u Q I rx ry h
  obtain ⟨a, b, xs, ys, rfl, rfl, ha, hb, hz, q0, q1, q2⟩ := h
  cases rx
  cases ry
  obtain ⟨its, r1, p1, _⟩ := I.tuple ha
  obtain ⟨its2, r2, p2, _⟩ := I.tuple hb
  by_cases hx : xs = []
  · subst hx
    cases r1
    exact cat_tup0 p1 p2 ⟨.ref b, H, I, rfl, q0 rfl⟩
  · refine HT.cat_tup p1 p2 (fun z => hx (r1.nil_iff.mp z)) (fun z => ⟨.ref a, H, I, rfl, q1 hx (r2.nil_iff.mp z)⟩) (fun z => ?_) (by rw [← r1.length, ← r2.length]; exact hz)
    exact ⟨.ref s.heap.objs.size, _, I.laid (t' := s.toks) (o := .frz _ (.tup (xs ++ ys))) (fun b ob q => Heap.get?_push_of_some _ q) (Nat.le_refl _) ⟨Heap.get?_push_size _ rfl, by rw [List.length_append]; exact hz, _, r1.append r2, IsTup.new _ _⟩, rfl, q2 hx (fun w => z (r2.nil_iff.mpr w)) _ _ (I.hok.fresh (Nat.le_refl _)) rfl⟩
/-- tuple(l) -/
def rTupQ (K : PySem.W.Frag) : List V → Hp → VK → Prop := fun xs H Q => ∃ p ys, xs = [.ref p] ∧ ((SqL K H p ys ∧ ∀ l o, H l = none → o.dict = none → Q (.ref l) (upd H l (.frz o (.tup ys)))) ∨ (SqT K H p ys ∧ Q (.ref p) H))
theorem call_tupF {K : PySem.W.Frag} (hK : X.K = K) : CallR X (.type "tuple") (rTupQ K) := by
  subst hK
  intro pins s σ H xs us Q I r h
  obtain ⟨p, ys, rfl, h⟩ := h
  obtain ⟨u, rfl, rx⟩ := vals1 r
  cases rx
  rcases h with ⟨hq, q⟩ | ⟨hq, q⟩
  · obtain ⟨its, r', pl, hz⟩ := I.list hq
    have hlen := r'.length
    refine call_tuple_list pl.isList (fun h' kp => ?_) (by simp only [List.size_toArray] <;> omega)
    have I1 : Inv X pins σ H { s with heap := h' } := I.kept (t' := s.toks) kp
    exact ⟨.ref h'.objs.size, _, I1.laid (t' := s.toks) (o := .frz _ (.tup ys)) (fun b o e => Heap.get?_push_of_some _ e) (Nat.le_refl _) ⟨Heap.get?_push_size _ rfl, hz, its, r', IsTup.new _ _⟩, rfl, q _ _ (I1.hok.fresh (Nat.le_refl _)) rfl⟩
  · obtain ⟨its, r', pl, hz⟩ := I.tuple hq
    exact call_tuple_same pl ⟨.ref p, H, I, rfl, q⟩
def rDivQ : List V → Hp → VK → Prop := fun xs H Q => ∃ i j, xs = [.int i, .int j] ∧ CDiv i j ∧ ∀ p o, H p = none → o.dict = none → Q (.ref p) (upd H p (.frz o (.tup [.int (i / j), .int (i % j)])))
theorem call_divmodF : CallR X (.builtin "divmod") rDivQ := by
  intro pins s σ H xs us Q I r h
  obtain ⟨i, j, rfl, ⟨h1, h2⟩, q⟩ := h
  obtain ⟨u, w', rfl, ⟨t, rfl⟩, ⟨t', rfl⟩⟩ := vals2 r
  refine divmod_int (by omega) ?_ (.inl (PyProof.noPylong_small (by omega)))
  rw [Int.fdiv_eq_ediv_of_nonneg i (by omega), Int.fmod_eq_emod_of_nonneg i (by omega)]
  exact ⟨.ref s.heap.objs.size, _, I.laid (o := .frz _ (.tup [.int (i / j), .int (i % j)])) (fun b o e => Heap.get?_push_of_some _ e) (Nat.le_refl _) ⟨Heap.get?_push_size s.heap rfl, by simp only [List.length_cons, List.length_nil]; rw [sizeLine_eq]; decide, [.int (i / j) s.toks, .int (i % j) (s.toks + 1)], .cons ⟨_, rfl⟩ (.cons ⟨_, rfl⟩ .nil), ⟨_, Heap.get?_push_size s.heap rfl, rfl, 0, rfl⟩⟩, rfl, q _ _ (I.hok.fresh (Nat.le_refl _)) rfl⟩
end
end DD

namespace DD
open PySem PySem.Spec PyProof.Rows L2
/-! ### the drawn source: a list of three numbers, written by the draws alone -/
def Src (H : Hp) (a : Addr) (n : Nat) : Prop := ∃ g b t : Int, H a = some (.lst [.int g, .int b, .int t]) ∧ 0 ≤ g ∧ 0 ≤ b ∧ b < 2 ^ 61 ∧ 0 ≤ t ∧ t ≤ n
theorem Src.up {H : Hp} {a : Addr} {n m : Nat} (s : Src H a n) (h : n ≤ m) : Src H a m := by
  obtain ⟨g, b, t, e, h1, h2, h3, h4, h5⟩ := s
  exact ⟨g, b, t, e, h1, h2, h3, h4, by omega⟩
theorem Src.at {H H' : Hp} {a : Addr} {n : Nat} (s : Src H a n) (h : ∀ o, H a = some o → H' a = some o) : Src H' a n := by
  obtain ⟨g, b, t, e, r⟩ := s
  exact ⟨g, b, t, h _ e, r⟩
/-- S: what data do not speak of; a, the source, among them (where there is one) -/
structure Rn (S : Addr → Bool) (a : Option Addr) (n : Nat) (H : Hp) : Prop where
  sa : ∀ x, a = some x → S x = true
  th : There S H
  src : ∀ x, a = some x → Src H x n
theorem Rn.mk1 {S : Addr → Bool} {a : Addr} {n : Nat} {H : Hp} (sa : S a = true) (th : There S H) (s : Src H a n) : Rn S (some a) n H := ⟨fun x e => by cases e; exact sa, th, fun x e => by cases e; exact s⟩
theorem keeps_one {S : Addr → Bool} {a : Option Addr} {H H' : Hp} (sa : ∀ x, a = some x → S x = true) (k : Keeps (one a) H H') : Keeps S H H' :=
  Keeps.of fun b o hb e => k.at (one_no fun z => by rw [sa b z] at hb; cases hb) e
theorem Rn.step {S : Addr → Bool} {a : Option Addr} {n m : Nat} {H H' : Hp} (r : Rn S a n H) (k : Keeps (one a) H H') (s : ∀ x, a = some x → Src H' x m) : Rn S a m H' := by
  refine ⟨r.sa, fun b hb => ?_, s⟩
  by_cases e : a = some b
  · obtain ⟨g, b', t, q, _⟩ := s b e
    rw [q]
    exact fun z => nomatch z
  · intro z
    cases q : H b with
    | none => exact r.th b hb q
    | some o =>
      rw [k.at (one_no e) q] at z
      cases z
theorem Rn.stepS {S : Addr → Bool} {a : Addr} {n m : Nat} {H H' : Hp} (r : Rn S (some a) n H) (k : Keeps (one (some a)) H H') (s : Src H' a m) : Rn S (some a) m H' := r.step k fun x e => by cases e; exact s
theorem Rn.same {S : Addr → Bool} {a : Option Addr} {n : Nat} {H H' : Hp} (r : Rn S a n H) (k : Same H H') : Rn S a n H' := r.step (Keeps.same k) fun x e => (r.src x e).at (k x)
theorem Rn.up {S : Addr → Bool} {a : Option Addr} {n m : Nat} {H : Hp} (r : Rn S a n H) (h : n ≤ m) : Rn S a m H := ⟨r.sa, r.th, fun x e => (r.src x e).up h⟩
/-- no source at all: only the number of draws is written -/
theorem Rn.pure {S : Addr → Bool} {n : Nat} {H : Hp} (t : There S H) : Rn S none n H := ⟨fun x e => (by cases e), t, fun x e => (by cases e)⟩
theorem Df.keep {K : PySem.W.Frag} {S : Addr → Bool} {H H' : Hp} {v : V} {d : PyData} (h : Df K (hid S H) v d) (k : Keeps S H H') : Df K (hid S H') v d := Df.to h k
theorem DfAll.keep {K : PySem.W.Frag} {S : Addr → Bool} {H H' : Hp} {v : List V} {d : List PyData} (h : DfAll K (hid S H) v d) (k : Keeps S H H') : DfAll K (hid S H') v d := DfAll.to h k
theorem Df.bare {K : PySem.W.Frag} {S : Addr → Bool} {H : Hp} {v : V} {d : PyData} (h : Df K (hid S H) v d) : Df K H v d := Df.to h hid_same
theorem DfAll.bare {K : PySem.W.Frag} {S : Addr → Bool} {H : Hp} {v : List V} {d : List PyData} (h : DfAll K (hid S H) v d) : DfAll K H v d := DfAll.to h hid_same
/-- a new tuple of data, a new list -/
theorem Df.newT {K : PySem.W.Frag} {S : Addr → Bool} {H : Hp} {p : Addr} {o : Obj} {vs : List V} {ds : List PyData} (h : DfAll K (hid S H) vs ds) (n : H p = none) (hp : S p = false) (ho : o.dict = none) : Df K (hid S (upd H p (.frz o (.tup vs)))) (.ref p) (.tuple ds) :=
  .tup ⟨o, ho, .inl (by rw [hid_at hp]; exact upd_same)⟩ (DfAll.keep h (Keeps.new n))
theorem Df.newL {K : PySem.W.Frag} {S : Addr → Bool} {H : Hp} {p : Addr} {vs : List V} {ds : List PyData} (h : DfAll K (hid S H) vs ds) (n : H p = none) (hp : S p = false) : Df K (hid S (upd H p (.lst vs))) (.ref p) (.list ds) :=
  .lst (.inl (.inl (by rw [hid_at hp]; exact upd_same))) (DfAll.keep h (Keeps.new n))

/-! ### what an expression gives: data with P, by at most m draws -/
abbrev most : Nat := 1000000
def Ev (K : PySem.W.Frag) (S : Addr → Bool) (a : Option Addr) (σ : L2.St) (H0 : Hp) (te : TE) (m : Nat) (P : PyData → Prop) : Prop :=
  ∀ (H : Hp) (n : Nat) (Q : VK), Keeps S H0 H → Rn S a n H → n + m ≤ most → (∀ (H' : Hp) (v : V) (d : PyData), Keeps (one a) H H' → Rn S a (n + m) H' → Df K (hid S H') v d → P d → Q v H') → te σ H Q
def EvA (K : PySem.W.Frag) (S : Addr → Bool) (a : Option Addr) (σ : L2.St) (H0 : Hp) (ta : TA) (m : Nat) (P : List PyData → Prop) : Prop :=
  ∀ (H : Hp) (n : Nat) (Q : List V → Hp → Prop), Keeps S H0 H → Rn S a n H → n + m ≤ most → (∀ (H' : Hp) (vs : List V) (ds : List PyData), Keeps (one a) H H' → Rn S a (n + m) H' → DfAll K (hid S H') vs ds → P ds → Q vs H') → ta σ H Q
section
variable {K : PySem.W.Frag} {S : Addr → Bool} {a : Option Addr} {σ : L2.St} {H0 : Hp} {te ta tb : TE} {tr : TA} {m m1 m2 : Nat} {P P1 P2 : PyData → Prop} {R R1 : List PyData → Prop}
theorem Ev.mono (h : Ev K S a σ H0 te m P1) (hp : ∀ d, P1 d → P d) : Ev K S a σ H0 te m P := fun H n Q k r b q => h H n Q k r b fun H' v d k' r' hd p => q H' v d k' r' hd (hp d p)
theorem Ev.up (h : Ev K S a σ H0 te m1 P) (hm : m1 ≤ m) : Ev K S a σ H0 te m P := fun H n Q k r b q => h H n Q k r (by omega) fun H' v d k' r' hd p => q H' v d k' (r'.up (by omega)) hd p
theorem Ev.late {H1 : Hp} (h : Ev K S a σ H0 te m P) (k0 : Keeps S H0 H1) : Ev K S a σ H1 te m P := fun H n Q k r b q => h H n Q (k0.trans k) r b q
theorem ev_var {i : Nat} {v : V} {d : PyData} (e : σ[i]? = some (some v)) (h : Df K (hid S H0) v d) (p : P d) : Ev K S a σ H0 (tVar i) 0 P := fun H n Q k r b q => ⟨v, e, q H v d Keeps.rfl r (Df.keep h k) p⟩
theorem ev_int {i : Int} (p : P (.int i)) : Ev K S a σ H0 (tC (.int i)) 0 P := fun H n Q k r b q => q H _ _ Keeps.rfl r (.int i) p
theorem ev_str {x : Str} (p : P (.str x)) : Ev K S a σ H0 (tC (.str x)) 0 P := fun H n Q k r b q => q H _ _ Keeps.rfl r (.str x) p
theorem ev_bl {x : Bool} (p : P (.bool x)) : Ev K S a σ H0 (tC (.bl x)) 0 P := fun H n Q k r b q => q H _ _ Keeps.rfl r (.bl x) p
theorem ev_non (p : P .none) : Ev K S a σ H0 (tC .non) 0 P := fun H n Q k r b q => q H _ _ Keeps.rfl r .non p
theorem eva_nil (p : R []) : EvA K S a σ H0 tNil 0 R := fun H n Q k r b q => q H [] [] Keeps.rfl r .nil p
theorem eva_cons (h1 : Ev K S a σ H0 te m1 P) (h2 : EvA K S a σ H0 tr m2 R1) (p : ∀ d ds, P d → R1 ds → R (d :: ds)) : EvA K S a σ H0 (tCons te tr) (m1 + m2) R := by
  intro H n Q k r b q
  refine h1 H n _ k r (by omega) fun H1 v d k1 r1 hd p1 => ?_
  refine h2 H1 (n + m1) _ (k.trans (keeps_one r.sa k1)) r1 (by omega) fun H2 vs ds k2 r2 hds p2 => ?_
  exact q H2 _ _ (k1.trans k2) (by rw [← Nat.add_assoc]; exact r2) (.cons (Df.keep hd (keeps_one r.sa k2)) hds) (p d ds p1 p2)
theorem ev_tup (h : EvA K S a σ H0 tr m R) (few : ∀ ds, R ds → ds.length ≤ 100000) (p : ∀ ds, R ds → P (.tuple ds)) : Ev K S a σ H0 (tTupF tr) m P := by
  intro H n Q k r b q
  refine h H n _ k r b fun H1 vs ds k1 r1 hds p1 => ⟨?_, fun x o nx ho => ?_⟩
  · rw [DfAll.len hds]
    exact Nat.le_trans (few ds p1) (Nat.le_trans (by decide) line20)
  · exact q _ _ _ (k1.trans (Keeps.new nx)) (r1.same (same_new nx)) (Df.newT hds nx (r1.th.new nx) ho) (p ds p1)
theorem ev_lst (h : EvA K S a σ H0 tr m R) (few : ∀ ds, R ds → ds.length ≤ 100000) (p : ∀ ds, R ds → P (.list ds)) : Ev K S a σ H0 (tLst tr) m P := by
  intro H n Q k r b q
  refine h H n _ k r b fun H1 vs ds k1 r1 hds p1 => ⟨?_, fun x nx => ?_⟩
  · rw [DfAll.len hds]
    exact Nat.le_trans (few ds p1) (Nat.le_trans (by decide) line20)
  · exact q _ _ _ (k1.trans (Keeps.new nx)) (r1.same (same_new nx)) (Df.newL hds nx (r1.th.new nx)) (p ds p1)
/-- an operator over two data -/
theorem ev_op {r : R2} (ha : Ev K S a σ H0 ta m1 P1) (hb : Ev K S a σ H0 tb m2 P2)
    (hr : ∀ (H : Hp) (x y : V) (d e : PyData) (Q : VK), There S H → Df K (hid S H) x d → Df K (hid S H) y e → P1 d → P2 e → (∀ (H' : Hp) (v : V) (f : PyData), Same H H' → Df K (hid S H') v f → P f → Q v H') → r x y H Q) : Ev K S a σ H0 (tOp r ta tb) (m1 + m2) P := by
  intro H n Q k rn b q
  refine ha H n _ k rn (by omega) fun H1 x d k1 r1 hd p1 => ?_
  refine hb H1 (n + m1) _ (k.trans (keeps_one rn.sa k1)) r1 (by omega) fun H2 y e k2 r2 he p2 => ?_
  rw [Nat.add_assoc] at r2
  exact hr H2 x y d e Q r2.th (Df.keep hd (keeps_one rn.sa k2)) he p1 p2 fun H3 v f s3 hf p3 => q H3 v f (k1.trans (k2.trans (Keeps.same s3))) (r2.same s3) hf p3
/-- an operator over one -/
theorem ev_un {r : V → Hp → VK → Prop} (ha : Ev K S a σ H0 ta m P1)
    (hr : ∀ (H : Hp) (x : V) (d : PyData) (Q : VK), There S H → Df K (hid S H) x d → P1 d → (∀ (H' : Hp) (v : V) (f : PyData), Same H H' → Df K (hid S H') v f → P f → Q v H') → r x H Q) : Ev K S a σ H0 (tUn r ta) m P := by
  intro H n Q k rn b q
  refine ha H n _ k rn b fun H1 x d k1 r1 hd p1 => ?_
  exact hr H1 x d Q r1.th hd p1 fun H3 v f s3 hf p3 => q H3 v f (k1.trans (Keeps.same s3)) (r1.same s3) hf p3
/-- a built-in over data -/
theorem ev_cb {r : List V → Hp → VK → Prop} (ha : EvA K S a σ H0 tr m R)
    (hr : ∀ (H : Hp) (xs : List V) (ds : List PyData) (Q : VK), There S H → DfAll K (hid S H) xs ds → R ds → (∀ (H' : Hp) (v : V) (f : PyData), Same H H' → Df K (hid S H') v f → P f → Q v H') → r xs H Q) : Ev K S a σ H0 (tCB r tr) m P := by
  intro H n Q k rn b q
  refine ha H n _ k rn b fun H1 x d k1 r1 hd p1 => ?_
  exact hr H1 x d Q r1.th hd p1 fun H3 v f s3 hf p3 => q H3 v f (k1.trans (Keeps.same s3)) (r1.same s3) hf p3
/-- a + b, a - b: ints -/
theorem ev_ints {f : Int → Int → Int} {p1 p2 : Int → Prop} (ha : Ev K S a σ H0 ta m1 fun d => ∃ i, d = .int i ∧ p1 i) (hb : Ev K S a σ H0 tb m2 fun d => ∃ i, d = .int i ∧ p2 i) (h : ∀ i j, p1 i → p2 j → P (.int (f i j))) :
    Ev K S a σ H0 (tOp (rI0 fun i j => .int (f i j)) ta tb) (m1 + m2) P :=
  ev_op ha hb fun H x y d e Q t hd he p1 p2 q => by
    obtain ⟨i, rfl, pi⟩ := p1
    obtain ⟨j, rfl, pj⟩ := p2
    cases hd
    cases he
    exact ⟨i, j, rfl, rfl, q H _ _ (Same.refl H) (.int _) (h i j pi pj)⟩
theorem ev_intsC {C : Int → Int → Prop} {f : Int → Int → Int} {p1 p2 : Int → Prop} (ha : Ev K S a σ H0 ta m1 fun d => ∃ i, d = .int i ∧ p1 i) (hb : Ev K S a σ H0 tb m2 fun d => ∃ i, d = .int i ∧ p2 i) (h : ∀ i j, p1 i → p2 j → C i j ∧ P (.int (f i j))) :
    Ev K S a σ H0 (tOp (rI C fun i j => .int (f i j)) ta tb) (m1 + m2) P :=
  ev_op ha hb fun H x y d e Q t hd he p1 p2 q => by
    obtain ⟨i, rfl, pi⟩ := p1
    obtain ⟨j, rfl, pj⟩ := p2
    cases hd
    cases he
    obtain ⟨c, p⟩ := h i j pi pj
    exact ⟨i, j, rfl, rfl, c, q H _ _ (Same.refl H) (.int _) p⟩
theorem ev_neg {p1 : Int → Prop} (ha : Ev K S a σ H0 ta m fun d => ∃ i, d = .int i ∧ p1 i) (h : ∀ i, p1 i → P (.int (-i))) : Ev K S a σ H0 (tUn (rU fun i => .int (-i)) ta) m P :=
  ev_un ha fun H x d Q t hd p1 q => by
    obtain ⟨i, rfl, pi⟩ := p1
    cases hd
    exact ⟨i, rfl, q H _ _ (Same.refl H) (.int _) (h i pi)⟩
/-- xs[i] of a list -/
theorem ev_ixL (ha : Ev K S a σ H0 ta m1 P1) (hb : Ev K S a σ H0 tb m2 P2) (h : ∀ d e, P1 d → P2 e → ∃ ds i f, d = .list ds ∧ e = .int i ∧ atI ds i = some f ∧ P f) : Ev K S a σ H0 (tOp (rIxL K) ta tb) (m1 + m2) P :=
  ev_op ha hb fun H x y d e Q t hd he p1 p2 q => by
    obtain ⟨ds, i, f, rfl, rfl, hf, pf⟩ := h d e p1 p2
    obtain ⟨p, vs, rfl, hL, hds⟩ := Df.lst_inv hd
    cases he
    obtain ⟨j, hj, hjf⟩ := Option.bind_eq_some_iff.mp hf
    obtain ⟨v, hv, dv⟩ := DfAll.getD hds hjf
    have hat : atI vs i = some v := by
      unfold atI
      rw [DfAll.len hds, hj]
      exact hv
    exact ⟨p, vs, i, v, rfl, rfl, Same.seq hid_same hL, hat, q H v f (Same.refl H) dv pf⟩
theorem ev_ixT (ha : Ev K S a σ H0 ta m1 P1) (hb : Ev K S a σ H0 tb m2 P2) (h : ∀ d e, P1 d → P2 e → ∃ ds i f, d = .tuple ds ∧ e = .int i ∧ atI ds i = some f ∧ P f) : Ev K S a σ H0 (tOp (rIxT K) ta tb) (m1 + m2) P :=
  ev_op ha hb fun H x y d e Q t hd he p1 p2 q => by
    obtain ⟨ds, i, f, rfl, rfl, hf, pf⟩ := h d e p1 p2
    obtain ⟨p, vs, rfl, hL, hds⟩ := Df.tup_inv hd
    cases he
    obtain ⟨j, hj, hjf⟩ := Option.bind_eq_some_iff.mp hf
    obtain ⟨v, hv, dv⟩ := DfAll.getD hds hjf
    have hat : atI vs i = some v := by
      unfold atI
      rw [DfAll.len hds, hj]
      exact hv
    exact ⟨p, vs, i, v, rfl, rfl, seqT_mono hid_same hL, hat, q H v f (Same.refl H) dv pf⟩
/-- xs + ys of lists -/
theorem ev_catL (ha : Ev K S a σ H0 ta m1 P1) (hb : Ev K S a σ H0 tb m2 P2) (h : ∀ d e, P1 d → P2 e → ∃ ds es, d = .list ds ∧ e = .list es ∧ ds.length + es.length ≤ 100000 ∧ P (.list (ds ++ es))) :
    Ev K S a σ H0 (tOp (rCatQ K) ta tb) (m1 + m2) P :=
  ev_op ha hb fun H x y d e Q t hd he p1 p2 q => by
    obtain ⟨ds, es, rfl, rfl, few, pf⟩ := h d e p1 p2
    obtain ⟨p, vs, rfl, hL, hds⟩ := Df.lst_inv hd
    obtain ⟨p', vs', rfl, hL', hes⟩ := Df.lst_inv he
    have l1 := DfAll.len hds
    have l2 := DfAll.len hes
    refine ⟨p, p', vs, vs', rfl, rfl, Same.seq hid_same hL, Same.seq hid_same hL', ?_, fun x nx => ?_⟩
    · exact Nat.le_trans (by omega) line20
    · exact q _ _ _ (same_new nx) (Df.newL (DfAll.app hds hes) nx (t.new nx)) pf
/-- s + t of tuples -/
theorem ev_catT (ha : Ev K S a σ H0 ta m1 P1) (hb : Ev K S a σ H0 tb m2 P2) (h : ∀ d e, P1 d → P2 e → ∃ ds es, d = .tuple ds ∧ e = .tuple es ∧ ds.length + es.length ≤ 100000 ∧ P (.tuple (ds ++ es))) :
    Ev K S a σ H0 (tOp (rCatF K) ta tb) (m1 + m2) P :=
  ev_op ha hb fun H x y d e Q t hd he p1 p2 q => by
    obtain ⟨ds, es, rfl, rfl, few, pf⟩ := h d e p1 p2
    obtain ⟨p, vs, rfl, hL, hds⟩ := Df.tup_inv hd
    obtain ⟨p', vs', rfl, hL', hes⟩ := Df.tup_inv he
    have l1 := DfAll.len hds
    have l2 := DfAll.len hes
    refine ⟨p, p', vs, vs', rfl, rfl, seqT_mono hid_same hL, seqT_mono hid_same hL', Nat.le_trans (by omega) line20, fun z => ?_, fun z1 z2 => ?_, fun z1 z2 x o nx ho => ?_⟩
    · subst z
      have : ds = [] := List.length_eq_zero_iff.mp l1.symm
      subst this
      exact q H _ _ (Same.refl H) he pf
    · subst z2
      have : es = [] := List.length_eq_zero_iff.mp l2.symm
      subst this
      rw [List.append_nil] at pf
      exact q H _ _ (Same.refl H) hd pf
    · exact q _ _ _ (same_new nx) (Df.newT (DfAll.app hds hes) nx (t.new nx) ho) pf
end
end DD
namespace DD
open PySem PySem.Spec PyProof.Rows L2
/-- an expression that gives an int with p, the heap as it was -/
theorem by_int {te : TE} {σ : L2.St} {H : Hp} {G : VK} {p : Int → Prop} (h1 : ∀ G : VK, (∀ c : Int, p c → G (.int c) H) → te σ H G) (h2 : ∀ c : Int, p c → G (.int c) H) : te σ H G := h1 G h2
end DD
namespace DD
open PySem PySem.Spec PyProof.Rows L2
section
variable {K : PySem.W.Frag} {S : Addr → Bool} {a : Option Addr} {σ : L2.St} {H0 : Hp} {te ta tb : TE} {tr : TA} {m m1 m2 : Nat} {P P1 P2 : PyData → Prop} {R R1 : List PyData → Prop}
/-- a def that draws m times at most: the source first, then data -/
def spRng (K : PySem.W.Frag) (m : Nat) (pre : List PyData → Prop) (post : List PyData → PyData → Prop) : Sp := fun vs H Q _ => ∃ (a : Addr) (S : Addr → Bool) (ws : List V) (ds : List PyData) (n : Nat),
  vs = .ref a :: ws ∧ Rn S a n H ∧ n + m ≤ most ∧ DfAll K (hid S H) ws ds ∧ pre ds ∧ ∀ H' v d, Keeps (one a) H H' → Rn S a (n + m) H' → Df K (hid S H') v d → post ds d → Q v H'
theorem spRng_len {pre : List PyData → Prop} {post : List PyData → PyData → Prop} {j : Nat} (h : ∀ ds, pre ds → ds.length = j) : ∀ vs H Q E, spRng K m pre post vs H Q E → vs.length = j + 1 := fun vs H Q E z => by
  obtain ⟨a, S, ws, ds, n, rfl, _, _, hd, hp, _⟩ := z
  rw [List.length_cons, DfAll.len hd, h ds hp]
theorem ev_rng {a : Addr} {pre : List PyData → Prop} {post : List PyData → PyData → Prop} {E : XK} {i : Nat} (hs : σ[i]? = some (some (.ref a))) (ht : EvA K S a σ H0 tr m1 R) (h1 : ∀ ds, R ds → pre ds) (h2 : ∀ ds d, R ds → post ds d → P d) :
    Ev K S a σ H0 (tCall (spRng K m pre post) [] E (tCons (tVar i) tr)) (m1 + m) P := by
  intro H n Q k r b q
  refine ⟨.ref a, hs, ht H n _ k r (by omega) fun H1 ws ds k1 r1 hd p1 => ?_⟩
  exact ⟨a, S, ws ++ [], ds, n + m1, rfl, r1, by omega, by rw [List.append_nil]; exact hd, h1 ds p1, fun H2 v d k2 r2 hd2 p2 => q H2 v d (k1.trans k2) (by rw [← Nat.add_assoc]; exact r2) hd2 (h2 ds d p1 p2)⟩
/-- exactly these data -/
theorem eva_c (h1 : Ev K S a σ H0 te 0 (· = d)) {ds : List PyData} (h2 : EvA K S a σ H0 tr 0 (· = ds)) : EvA K S a σ H0 (tCons te tr) 0 (· = d :: ds) := eva_cons h1 h2 fun _ _ e1 e2 => by rw [e1, e2]
theorem eva_n : EvA K S a σ H0 tNil 0 (· = []) := eva_nil rfl
theorem ev_t {ds : List PyData} (h : EvA K S a σ H0 tr m (· = ds)) (few : ds.length ≤ 100000) : Ev K S a σ H0 (tTupF tr) m (· = .tuple ds) := ev_tup h (fun _ e => e ▸ few) fun _ e => e ▸ rfl
theorem ev_l {ds : List PyData} (h : EvA K S a σ H0 tr m (· = ds)) (few : ds.length ≤ 100000) : Ev K S a σ H0 (tLst tr) m (· = .list ds) := ev_lst h (fun _ e => e ▸ few) fun _ e => e ▸ rfl
/-- len of a list, of a tuple -/
def rLenQ (K : PySem.W.Frag) : List V → Hp → VK → Prop := fun xs H Q => ∃ p ys, xs = [.ref p] ∧ (SqL K H p ys ∨ SqT K H p ys) ∧ Q (.int ys.length) H
theorem ev_len (h : EvA K S a σ H0 tr m R) (p : ∀ ds, R ds → ∃ es, (ds = [.list es] ∨ ds = [.tuple es]) ∧ P (.int es.length)) : Ev K S a σ H0 (tCB (rLenQ K) tr) m P :=
  ev_cb h fun H xs ds Q t hd pd q => by
    obtain ⟨es, hes, pe⟩ := p ds pd
    rcases hes with rfl | rfl
    · obtain ⟨x, _, rfl, h1, h2⟩ := DfAll.c hd
      obtain rfl := DfAll.n h2
      obtain ⟨b, vs, rfl, hL, hv⟩ := Df.lst_inv h1
      exact ⟨b, vs, rfl, .inl (Same.seq hid_same hL), q H _ _ (Same.refl H) (.int _) (by rw [DfAll.len hv]; exact pe)⟩
    · obtain ⟨x, _, rfl, h1, h2⟩ := DfAll.c hd
      obtain rfl := DfAll.n h2
      obtain ⟨b, vs, rfl, hL, hv⟩ := Df.tup_inv h1
      exact ⟨b, vs, rfl, .inr (seqT_mono hid_same hL), q H _ _ (Same.refl H) (.int _) (by rw [DfAll.len hv]; exact pe)⟩
end
end DD
namespace DD
open PySem PySem.Spec PyProof.Rows L2
theorem ev_intE {K : PySem.W.Frag} {S : Addr → Bool} {a : Option Addr} {σ : L2.St} {H0 : Hp} {i : Int} {p : Int → Prop} (h : p i) : Ev K S a σ H0 (tC (.int i)) 0 (fun d => ∃ j, d = .int j ∧ p j) := ev_int ⟨i, rfl, h⟩
theorem ev_negC {K : PySem.W.Frag} {S : Addr → Bool} {a : Option Addr} {σ : L2.St} {H0 : Hp} {i : Int} : Ev K S a σ H0 (tUn (rU fun i => .int (-i)) (tC (.int i))) 0 (· = .int (-i)) := ev_neg (p1 := (· = i)) (ev_intE rfl) fun j e => by rw [e]
theorem ev_powC {K : PySem.W.Frag} {S : Addr → Bool} {a : Option Addr} {σ : L2.St} {H0 : Hp} {i j : Int} (h : CPow i j) : Ev K S a σ H0 (tOp (rI CPow fun i j => .int (i ^ j.toNat)) (tC (.int i)) (tC (.int j))) 0 (· = .int (i ^ j.toNat)) :=
  ev_intsC (m1 := 0) (m2 := 0) (p1 := (· = i)) (p2 := (· = j)) (ev_intE rfl) (ev_intE rfl) fun x y e1 e2 => by
    subst e1 e2
    exact ⟨h, rfl⟩
end DD
namespace DD
open PySem PySem.Spec PyProof.Rows L2
theorem ev_go {K : PySem.W.Frag} {S : Addr → Bool} {a : Option Addr} {σ : L2.St} {H : Hp} {te : TE} {m n : Nat} {P : PyData → Prop} {Q : VK} (r : Rn S a n H) (b : n + m ≤ most) (h : Ev K S a σ H te m P)
    (q : ∀ H' v d, Keeps (one a) H H' → Rn S a (n + m) H' → Df K (hid S H') v d → P d → Q v H') : te σ H Q := h H n Q Keeps.rfl r b q
end DD
namespace DD
open PySem PySem.Spec PyProof.Rows L2
section
variable {K : PySem.W.Frag} {S : Addr → Bool} {a : Option Addr} {σ : L2.St} {H : Hp} {te : TE} {m n i : Nat} {u : TS} {D : Ends}
/-- x = e, then the rest -/
theorem ev_set (P : PyData → Prop) (m : Nat) (r : Rn S a n H) (b : n + m ≤ most) (h : Ev K S a σ H te m P) (q : ∀ H' v d, Keeps (one a) H H' → Rn S a (n + m) H' → Df K (hid S H') v d → P d → u D (σ.set i (some v)) H') :
    tSeq (tAsg te (gName i)) u D σ H := h H n _ Keeps.rfl r b q
/-- return e -/
theorem ev_ret (P : PyData → Prop) (m : Nat) (r : Rn S a n H) (b : n + m ≤ most) (h : Ev K S a σ H te m P) (q : ∀ H' v d, Keeps (one a) H H' → Rn S a (n + m) H' → Df K (hid S H') v d → P d → D.rt v H') : tRet te D σ H := h H n _ Keeps.rfl r b q
end
theorem most0 {n m : Nat} (h : n + m ≤ most) : n + 0 ≤ most := Nat.le_trans (Nat.le_add_right n m) h
end DD
namespace DD
open PySem PySem.Spec PyProof.Rows L2
/-- a test of one datum -/
def spB (K : PySem.W.Frag) (r : PyData → Bool) : Sp := fun vs H Q _ => ∃ v d, vs = [v] ∧ Df K H v d ∧ Good 900000 50 d ∧ ∀ H', Same H H' → Q (.bl (r d)) H'
theorem spB_len {K : PySem.W.Frag} {r : PyData → Bool} : ∀ vs H Q E, spB K r vs H Q E → vs.length = 1 := fun vs H Q E h => by
  obtain ⟨v, d, rfl, _⟩ := h
  rfl
end DD

namespace DD
open PySem PySem.Spec PyProof.Rows L2
/-! ### slices, texts, lists of alternatives -/
def EvO (K : PySem.W.Frag) (S : Addr → Bool) (a : Option Addr) (σ : L2.St) (H0 : Hp) (t : TO) (m : Nat) (p : Option Int → Prop) : Prop :=
  ∀ (H : Hp) (n : Nat) (Q : Option Int → Hp → Prop), Keeps S H0 H → Rn S a n H → n + m ≤ most → (∀ (H' : Hp) (o : Option Int), Keeps (one a) H H' → Rn S a (n + m) H' → p o → Q o H') → t σ H Q
def cutD (ds : List PyData) (lo hi : Option Int) : List PyData := (ds.drop (HT.sIx ds.length 0 lo)).take (HT.sIx ds.length ds.length hi - HT.sIx ds.length 0 lo)
theorem cutD_to (ds : List PyData) (k : Nat) : cutD ds none (some (k : Int)) = ds.take k := by
  unfold cutD
  rw [HT.sIx_none, HT.sIx_nat, List.drop_zero, Nat.sub_zero]
  by_cases h : k ≤ ds.length
  · rw [Nat.min_eq_left h]
  · rw [Nat.min_eq_right (by omega), List.take_of_length_le (Nat.le_refl _), List.take_of_length_le (by omega)]
theorem cutD_from (ds : List PyData) (k : Nat) : cutD ds (some (k : Int)) none = ds.drop k := by
  unfold cutD
  rw [HT.sIx_none, HT.sIx_nat]
  by_cases h : k ≤ ds.length
  · rw [Nat.min_eq_left h, List.take_of_length_le (by rw [List.length_drop]; exact Nat.le_refl _)]
  · rw [Nat.min_eq_right (by omega), List.drop_of_length_le (Nat.le_refl _), List.drop_of_length_le (by omega), List.take_nil]
section
variable {K : PySem.W.Frag} {S : Addr → Bool} {a : Option Addr} {σ : L2.St} {H0 : Hp} {te ta tb : TE} {tr : TA} {tl th : TO} {m m1 m2 m3 : Nat} {P P1 P2 : PyData → Prop} {R R1 : List PyData → Prop} {p1 p2 : Option Int → Prop}
theorem evo_none : EvO K S a σ H0 tNoPart 0 (· = none) := fun H n Q k r b q => q H none Keeps.rfl r rfl
theorem evo_some {p : Int → Prop} (h : Ev K S a σ H0 te m fun d => ∃ i, d = .int i ∧ p i) : EvO K S a σ H0 (tPart te) m (fun o => ∃ i, o = some i ∧ p i) := by
  intro H n Q k r b q
  refine h H n _ k r b fun H1 v d k1 r1 hd ⟨i, e, pi⟩ => ?_
  subst e
  cases hd
  exact ⟨i, rfl, q H1 _ k1 r1 ⟨i, rfl, pi⟩⟩
theorem ev_cut (h : Ev K S a σ H0 te m1 P1) (hl : EvO K S a σ H0 tl m2 p1) (hh : EvO K S a σ H0 th m3 p2) (p : ∀ d lo hi, P1 d → p1 lo → p2 hi → ∃ ds, d = .tuple ds ∧ P (.tuple (cutD ds lo hi))) :
    Ev K S a σ H0 (tSl (rSlF K) te tl th) (m1 + m2 + m3) P := by
  intro H n Q k r b q
  refine h H n _ k r (by omega) fun H1 x d k1 r1 hd q1 => ?_
  refine hl H1 (n + m1) _ (k.trans (keeps_one r.sa k1)) r1 (by omega) fun H2 lo k2 r2 q2 => ?_
  refine hh H2 (n + m1 + m2) _ ((k.trans (keeps_one r.sa k1)).trans (keeps_one r.sa k2)) r2 (by omega) fun H3 hi k3 r3 q3 => ?_
  obtain ⟨ds, rfl, pd⟩ := p d lo hi q1 q2 q3
  have hd3 := Df.keep hd ((keeps_one r.sa k2).trans (keeps_one r.sa k3))
  obtain ⟨y, vs, rfl, hT, hv⟩ := Df.tup_inv hd3
  have el := DfAll.len hv
  have r4 : Rn S a (n + (m1 + m2 + m3)) H3 := by
    rw [show n + (m1 + m2 + m3) = n + m1 + m2 + m3 by omega]
    exact r3
  have k4 := k1.trans (k2.trans k3)
  refine ⟨y, vs, rfl, seqT_mono hid_same hT, fun w => ?_, fun w z o nz ho => ?_⟩
  · rw [el] at w
    have e : cutD ds lo hi = ds := by
      unfold cutD
      rw [w.1, w.2, List.drop_zero, Nat.sub_zero, List.take_of_length_le (Nat.le_refl _)]
    rw [e] at pd
    exact q H3 _ _ k4 r4 hd3 pd
  · have e : DfAll K (hid S H3) (cutV vs lo hi) (cutD ds lo hi) := by
      unfold cutV cutD
      rw [el]
      exact DfAll.take _ (DfAll.drop _ hv)
    exact q _ _ _ (k4.trans (Keeps.new nz)) (r4.same (same_new nz)) (Df.newT e nz (r4.th.new nz) ho) pd
theorem ev_rev (h : Ev K S a σ H0 te m P1) (p : ∀ d, P1 d → ∃ ds, d = .tuple ds ∧ P (.tuple ds.reverse)) : Ev K S a σ H0 (tRevT K te) m P := by
  intro H n Q k r b q
  refine h H n _ k r b fun H1 x d k1 r1 hd q1 => ?_
  obtain ⟨ds, rfl, pd⟩ := p d q1
  obtain ⟨y, vs, rfl, hT, hv⟩ := Df.tup_inv hd
  exact ⟨y, vs, rfl, seqT_mono hid_same hT, fun z o nz ho => q _ _ _ (k1.trans (Keeps.new nz)) (r1.same (same_new nz)) (Df.newT (DfAll.rev hv) nz (r1.th.new nz) ho) pd⟩
/-- list(t) -/
def rListQ (K : PySem.W.Frag) : List V → Hp → VK → Prop := fun xs H Q => ∃ p ys, xs = [.ref p] ∧ (SqL K H p ys ∨ SqT K H p ys) ∧ ∀ l, H l = none → Q (.ref l) (upd H l (.lst ys))
theorem ev_list (h : EvA K S a σ H0 tr m R) (p : ∀ ds, R ds → ∃ es, ds = [.tuple es] ∧ P (.list es)) : Ev K S a σ H0 (tCB (rListQ K) tr) m P :=
  ev_cb h fun H xs ds Q t hd pd q => by
    obtain ⟨es, rfl, pe⟩ := p ds pd
    obtain ⟨x, _, rfl, h1, h2⟩ := DfAll.c hd
    obtain rfl := DfAll.n h2
    obtain ⟨b, vs, rfl, hL, hv⟩ := Df.tup_inv h1
    exact ⟨b, vs, rfl, .inr (seqT_mono hid_same hL), fun l nl => q _ _ _ (same_new nl) (Df.newL hv nl (t.new nl)) pe⟩
theorem ev_strI (h : EvA K S a σ H0 tr m R) (p : ∀ ds, R ds → ∃ i : Int, ds = [.int i] ∧ i.natAbs < 10 ^ 80 ∧ P (.str (toString i))) : Ev K S a σ H0 (tCB (fun xs H Q => ∃ i : Int, xs = [.int i] ∧ i.natAbs.log2 < 1920 ∧ Q (.str (toString i)) H) tr) m P :=
  ev_cb h fun H xs ds Q t hd pd q => by
    obtain ⟨i, rfl, hi, pe⟩ := p ds pd
    obtain ⟨x, _, rfl, h1, h2⟩ := DfAll.c hd
    obtain rfl := DfAll.n h2
    cases h1
    have := PySem.Flt.log2_lt_of (n := i.natAbs) (k := 300) (by decide) (Nat.lt_trans hi e80)
    exact ⟨i, rfl, by omega, q H _ _ (Same.refl H) (.str _) pe⟩
theorem ev_eqI (ha : Ev K S a σ H0 ta m1 fun d => ∃ i, d = .int i) (hb : Ev K S a σ H0 tb m2 fun d => ∃ i, d = .int i) (p : ∀ b, P (.bool b)) : Ev K S a σ H0 (tOp rEq ta tb) (m1 + m2) P :=
  ev_op ha hb fun H x y d e Q t hd he q1 q2 q => by
    obtain ⟨i, rfl⟩ := q1
    obtain ⟨j, rfl⟩ := q2
    cases hd
    cases he
    exact ⟨rfl, q H _ _ (Same.refl H) (.bl _) (p _)⟩
theorem ev_catS (ha : Ev K S a σ H0 ta m1 P1) (hb : Ev K S a σ H0 tb m2 P2) (h : ∀ d e, P1 d → P2 e → ∃ x y, d = .str x ∧ e = .str y ∧ x.length + y.length ≤ 1000000 ∧ P (.str (x ++ y))) :
    Ev K S a σ H0 (tOp (fun x y H Q => ∃ i j, x = .str i ∧ y = .str j ∧ i.length + j.length ≤ sizeLine ∧ Q (.str (i ++ j)) H) ta tb) (m1 + m2) P :=
  ev_op ha hb fun H x y d e Q t hd he q1 q2 q => by
    obtain ⟨i, j, rfl, rfl, few, pe⟩ := h d e q1 q2
    cases hd
    cases he
    exact ⟨i, j, rfl, rfl, Nat.le_trans few line20, q H _ _ (Same.refl H) (.str _) pe⟩
theorem ev_upper (h : Ev K S a σ H0 te m P1) (p : ∀ d, P1 d → ∃ x, d = .str x ∧ x.length ≤ 1000000 ∧ P (.str (Txt.upper x))) :
    Ev K S a σ H0 (tM0 (fun x xs H Q => ∃ a, x = .str a ∧ xs = [] ∧ a.length ≤ 5592405 ∧ Q (.str (Txt.upper a)) H) te) m P := by
  intro H n Q k r b q
  refine h H n _ k r b fun H1 x d k1 r1 hd q1 => ?_
  obtain ⟨x, rfl, few, pe⟩ := p d q1
  cases hd
  exact ⟨⟨x, rfl⟩, x, rfl, rfl, by omega, q H1 _ _ k1 r1 (.str _) pe⟩
theorem ev_cutS (h : Ev K S a σ H0 te m1 P1) (hl : EvO K S a σ H0 tl m2 p1) (hh : EvO K S a σ H0 th m3 p2) (p : ∀ d lo hi, P1 d → p1 lo → p2 hi → ∃ x, d = .str x ∧ x.length ≤ 1000000 ∧ P (.str (cutS x lo hi))) :
    Ev K S a σ H0 (tSl rSlS te tl th) (m1 + m2 + m3) P := by
  intro H n Q k r b q
  refine h H n _ k r (by omega) fun H1 x d k1 r1 hd q1 => ?_
  refine hl H1 (n + m1) _ (k.trans (keeps_one r.sa k1)) r1 (by omega) fun H2 lo k2 r2 q2 => ?_
  refine hh H2 (n + m1 + m2) _ ((k.trans (keeps_one r.sa k1)).trans (keeps_one r.sa k2)) r2 (by omega) fun H3 hi k3 r3 q3 => ?_
  obtain ⟨z, rfl, few, pd⟩ := p d lo hi q1 q2 q3
  cases hd
  have r4 : Rn S a (n + (m1 + m2 + m3)) H3 := by
    rw [show n + (m1 + m2 + m3) = n + m1 + m2 + m3 by omega]
    exact r3
  exact ⟨z, rfl, Nat.le_trans few line20, q H3 _ _ (k1.trans (k2.trans k3)) r4 (.str _) pd⟩
/-- a display of alternatives -/
theorem eva_all0 : EvA K S a σ H0 tNil 0 (fun ds => ds.length = 0 ∧ ∀ e ∈ ds, P e) := eva_nil ⟨rfl, fun e h => absurd h List.not_mem_nil⟩
theorem eva_all {k : Nat} (h1 : Ev K S a σ H0 te m1 P) (h2 : EvA K S a σ H0 tr m2 (fun ds => ds.length = k ∧ ∀ e ∈ ds, P e)) : EvA K S a σ H0 (tCons te tr) (m1 + m2) (fun ds => ds.length = k + 1 ∧ ∀ e ∈ ds, P e) :=
  eva_cons h1 h2 fun d ds p r => ⟨by rw [List.length_cons, r.1], fun e he => (List.mem_cons.mp he).elim (fun z => z ▸ p) (r.2 e)⟩
theorem ev_pick {k : Nat} (ha : Ev K S a σ H0 ta m1 fun d => ∃ ds, d = .list ds ∧ ds.length = k ∧ ∀ e ∈ ds, P e) (hb : Ev K S a σ H0 tb m2 fun e => ∃ i : Int, e = .int i ∧ 0 ≤ i ∧ i < k) : Ev K S a σ H0 (tOp (rIxL K) ta tb) (m1 + m2) P :=
  ev_ixL ha hb fun d e ⟨ds, h1, h2, h3⟩ ⟨i, h4, h5, h6⟩ => by
    have hk : i.toNat < ds.length := by omega
    refine ⟨ds, i, ds[i.toNat], h1, h4, ?_, h3 _ (List.getElem_mem hk)⟩
    have := atI_nat (List.getElem?_eq_getElem hk)
    rwa [Int.toNat_of_nonneg h5] at this
/-- x, y = e, f -/
theorem ev_par {u : TS} {D : Ends} {n i j : Nat} {H : Hp} (P : PyData → Prop) (P' : PyData → Prop) (m : Nat) (r : Rn S a n H) (b : n + m ≤ most) (h : EvA K S a σ H tr m fun ds => ∃ d e, ds = [d, e] ∧ P d ∧ P' e)
    (q : ∀ H' v w d e, Keeps (one a) H H' → Rn S a (n + m) H' → Df K (hid S H') v d → Df K (hid S H') w e → P d → P' e → u D ((σ.set i (some v)).set j (some w)) H') : tSeq (tPar i j tr) u D σ H := by
  refine h H n _ Keeps.rfl r b fun H1 vs ds k1 r1 hd ⟨d, e, q1, q2, q3⟩ => ?_
  subst q1
  obtain ⟨x, y, rfl, hx, hy⟩ := DfAll.two hd
  exact ⟨x, y, rfl, q H1 x y d e k1 r1 hx hy q2 q3⟩
end
/-! ### the sizes of what is bent -/
theorem wtAll_take (k : Nat) (ds : List PyData) : wtAll (ds.take k) + wtAll (ds.drop k) = wtAll ds := by rw [← wtAll_append, List.take_append_drop]
theorem wtAll_rev : ∀ ds : List PyData, wtAll ds.reverse = wtAll ds
  | [] => rfl
  | d :: ds => by
    rw [List.reverse_cons, wtAll_append, wtAll_rev ds]
    show wtAll ds + (wt d + 4 + 0) = wt d + 4 + wtAll ds
    omega
theorem wtAll_one (d : PyData) : wtAll [d] = wt d + 4 := rfl
structure BentTo (B : Nat) (d d' : PyData) : Prop where
  fin : fineB (B + 60) d' = true
  sz : wt d' ≤ 2 * wt d + 3000
  dp : d'.depth ≤ d.depth + 4
theorem bent_seq {B : Nat} {ds es : List PyData} (hf : fineAllB B ds = true) (hm : ∀ e ∈ es, e ∈ ds ∨ (fineB (B + 60) e = true ∧ e.depth ≤ PyData.depthAll ds + 4)) (hw : wtAll es ≤ 2 * wtAll ds + 3000) :
    BentTo B (.tuple ds) (.tuple es) ∧ BentTo B (.tuple ds) (.list es) := by
  have f : ∀ e ∈ es, fineB (B + 60) e = true := fun e he => (hm e he).elim (fun z => fineB_mono (by omega) e (fineAllB_iff.mp hf e z)) fun z => z.1
  have g : PyData.depthAll es ≤ PyData.depthAll ds + 4 := depthAll_le fun e he => (hm e he).elim (fun z => Nat.le_trans (depth_mem z) (by omega)) fun z => z.2
  have h1 : wt (.tuple es) = wtAll es + 4 := rfl
  have h2 : wt (.list es) = wtAll es + 4 := rfl
  have h3 : wt (.tuple ds) = wtAll ds + 4 := rfl
  have h4 : (PyData.tuple es).depth = PyData.depthAll es + 1 := rfl
  have h5 : (PyData.list es).depth = PyData.depthAll es + 1 := rfl
  have h6 : (PyData.tuple ds).depth = PyData.depthAll ds + 1 := rfl
  exact ⟨⟨fineAllB_iff.mpr f, by omega, by omega⟩, ⟨fineAllB_iff.mpr f, by omega, by omega⟩⟩
theorem tidy_iff {x : Str} : tidy x = true ↔ ∀ c ∈ x.cps.toList, c < 128 := by
  unfold tidy
  rw [← Array.all_toList, List.all_eq_true]
  exact ⟨fun h c hc => of_decide_eq_true (h c hc), fun h c hc => decide_eq_true (h c hc)⟩
theorem tidy_app {x y : Str} (hx : tidy x = true) (hy : tidy y = true) : tidy (x ++ y) = true := by
  rw [tidy_iff] at hx hy ⊢
  intro c hc
  have e : (x ++ y).cps.toList = x.cps.toList ++ y.cps.toList := by
    show (x.cps ++ y.cps).toList = _
    exact Array.toList_append
  rw [e] at hc
  exact (List.mem_append.mp hc).elim (hx c) (hy c)
theorem tidy_int (i : Int) : tidy (Str.ofString (toString i)) = true := by
  rw [tidy_iff]
  intro c hc
  rw [signs_ofString] at hc
  obtain ⟨ch, hc, e⟩ := List.mem_map.mp hc
  rcases int_sign i ch hc with h | h
  · have := digit_range h
    omega
  · rw [h] at e
    have : ('-' : Char).toNat = 45 := by decide
    omega
theorem tidy_cut {x : Str} (lo hi : Option Int) (h : tidy x = true) : tidy (cutS x lo hi) = true := by
  rw [tidy_iff] at h ⊢
  intro c hc
  exact h c (List.mem_of_mem_drop (List.mem_of_mem_take (by simpa [cutS] using hc)))
theorem upper_tab : ∀ c, c < 128 → ∃ e, Unicode.upperOf c = [e] ∧ e < 128 := by
  have h : ∀ c, c < 128 → (Unicode.upperOf c).length = 1 ∧ (Unicode.upperOf c).headD 0 < 128 := by decide +kernel
  intro c hc
  obtain ⟨h1, h2⟩ := h c hc
  match e : Unicode.upperOf c, h1 with
  | [x], _ => exact ⟨x, rfl, by rw [e] at h2; exact h2⟩
theorem upper_list : ∀ l : List (Array Nat), (∀ a ∈ l, ∃ e, a = #[e] ∧ e < 128) → ((l.map Array.toList).flatten.length = l.length ∧ ∀ c ∈ (l.map Array.toList).flatten, c < 128)
  | [], _ => ⟨rfl, fun c h => absurd h List.not_mem_nil⟩
  | x :: l, h => by
    obtain ⟨e, rfl, he⟩ := h x (List.mem_cons_self ..)
    obtain ⟨h1, h2⟩ := upper_list l fun a ha => h a (List.mem_cons_of_mem _ ha)
    rw [List.map_cons, List.flatten_cons]
    refine ⟨?_, fun c hc => ?_⟩
    · show (e :: (l.map Array.toList).flatten).length = _
      rw [List.length_cons, h1, List.length_cons]
    · rcases List.mem_cons.mp (show c ∈ e :: (l.map Array.toList).flatten from hc) with rfl | hc
      · exact he
      · exact h2 c hc
theorem tidy_upper {x : Str} (h : tidy x = true) : tidy (Txt.upper x) = true ∧ (Txt.upper x).length = x.length := by
  rw [tidy_iff] at h
  have key := upper_list ((x.cps.mapIdx fun _ c => (Unicode.upperOf c).toArray).toList) (fun z hz => by
    obtain ⟨i, hi, rfl⟩ := Array.mem_iff_getElem.mp (Array.mem_toList_iff.mp hz)
    rw [Array.getElem_mapIdx]
    have hlt : i < x.cps.size := by simpa using hi
    obtain ⟨e, h1, h2⟩ := upper_tab x.cps[i] (h _ (by rw [Array.mem_toList_iff]; exact Array.getElem_mem hlt))
    exact ⟨e, by rw [h1], h2⟩)
  have e : (Txt.upper x).cps.toList = (((x.cps.mapIdx fun _ c => (Unicode.upperOf c).toArray).toList).map Array.toList).flatten := by
    show (Array.flatten _).toList = _
    exact Array.toList_flatten
  refine ⟨tidy_iff.mpr fun c hc => key.2 c (by rw [← e]; exact hc), ?_⟩
  have e2 : (Txt.upper x).length = (Txt.upper x).cps.toList.length := by rw [Array.length_toList]; rfl
  rw [e2, e, key.1, Array.length_toList, Array.size_mapIdx]
  rfl
end DD

namespace DD
open PySem PySem.Spec PyProof.Rows L2
/-! ### comprehensions by Ev -/
def plusA (S : Addr → Bool) (D : Addr) : Addr → Bool := fun b => S b || decide (b = D)
theorem plusA_self (S : Addr → Bool) (D : Addr) : plusA S D D = true := by unfold plusA; rw [decide_eq_true rfl, Bool.or_true]
theorem plusA_of {S : Addr → Bool} {D b : Addr} (h : S b = true) : plusA S D b = true := by unfold plusA; rw [h, Bool.true_or]
theorem plusA_no {S : Addr → Bool} {D b : Addr} (h : S b = false) (hn : b ≠ D) : plusA S D b = false := by unfold plusA; rw [h, decide_eq_false hn]; rfl
theorem plusA_back {S : Addr → Bool} {D b : Addr} (h : plusA S D b = false) : S b = false ∧ b ≠ D := by
  unfold plusA at h
  rw [Bool.or_eq_false_iff] at h
  exact ⟨h.1, of_decide_eq_false h.2⟩
theorem hid_some {S : Addr → Bool} {H : Hp} {b : Addr} {o : HO} (e : hid S H b = some o) : S b = false ∧ H b = some o := by
  cases q : S b with
  | false => exact ⟨rfl, by rw [hid_at q] at e; exact e⟩
  | true =>
    unfold hid at e
    rw [if_pos q] at e
    cases e
theorem hid_plus {S : Addr → Bool} {D : Addr} {H : Hp} : Same (hid (plusA S D) H) (hid S H) := fun b o e => by
  obtain ⟨h1, h2⟩ := hid_some e
  rw [hid_at (plusA_back h1).1]
  exact h2
/-- data ahead of the list D are data behind it too -/
theorem hid_new {S : Addr → Bool} {D : Addr} {H : Hp} {o : HO} (hD : H D = none) : Same (hid S H) (hid (plusA S D) (upd H D o)) := fun b u e => by
  obtain ⟨hS, e⟩ := hid_some e
  have hb : b ≠ D := ne_of_none e hD
  rw [hid_at (plusA_no hS hb), upd_ne hb]
  exact e
section
variable {K : PySem.W.Frag} {S : Addr → Bool} {a : Option Addr} {σ : L2.St} {H0 : Hp} {te ta tb tn : TE} {tr : TA} {m m1 m2 : Nat} {P1 P2 : PyData → Prop} {R R1 : List PyData → Prop}
theorem lc_ev {J : It} {N : Nat} {G : Hp → Prop} {X : Nat → V → Prop} (w : Walk J N G (fun i H x H' => H' = H ∧ X i x)) {g : TG} {vs : List Nat} {slot : Nat} {H1 : Hp} {n : Nat} {P : Nat → PyData → Prop} {Q : VK}
    (hg : g = gName slot) (hw : ∀ x, wipe ((wipe σ vs).set slot (some x)) vs = wipe σ vs) (r : Rn S a n H1) (b : n + N * m ≤ most) (few : N ≤ 100000)
    (hG : ∀ D H', Keeps S H1 H' ∨ Keeps (plusA S D) (upd H1 D (.lst [])) H' → H1 D = none → G H')
    (he : ∀ D, H1 D = none → ∀ i x, i < N → X i x → Ev K (plusA S D) a ((wipe σ vs).set slot (some x)) (upd H1 D (.lst [])) te m (P i))
    (q : ∀ H' D ds, Keeps (one a) H1 H' → Rn S a (n + N * m) H' → Df K (hid S H') (.ref D) (.list ds) → ds.length = N → (∀ i e, ds[i]? = some e → P i e) → Q (.ref D) H') :
    ∀ D, H1 D = none → ∃ W : Nat → Nat → Hp → Prop, (∃ m, W 0 m (upd H1 D (.lst []))) ∧ ∀ i m H, W i m H →
      (J.stop i H ∧ Q (.ref D) H) ∨ (J.go i H ∧ ∃ Nx : Hp → Prop, (∀ H', Nx H' → ∃ m', m' < m ∧ W (i + 1) m' H') ∧ ∀ x H', J.yld i H x H' → g x (wipe σ vs) H' fun σ2 H2 => wipe σ2 vs = wipe σ vs ∧ tYes σ2 H2 fun b H3 =>
        if b = true then te σ2 H3 fun y H4 => ∃ acc, H4 D = some (.lst acc) ∧ acc.length < sizeLine ∧ Nx (upd H4 D (.lst (acc ++ [y]))) else Nx H3) := by
  intro D hD
  subst hg
  have aD : a ≠ some D := fun z => by
    obtain ⟨_, _, _, e, _⟩ := r.src D z
    rw [hD] at e
    cases e
  have sD : S D = false := r.th.new hD
  have r0 : Rn (plusA S D) a n (upd H1 D (.lst [])) := by
    refine ⟨fun x e => plusA_of (r.sa x e), fun b hb => ?_, fun x e => (r.src x e).at (same_new hD x)⟩
    by_cases e : b = D
    · rw [e, upd_same]
      exact fun z => nomatch z
    · rw [upd_ne e]
      refine r.th b ?_
      unfold plusA at hb
      rw [decide_eq_false e, Bool.or_false] at hb
      exact hb
  refine lc_it w (fun i H => ∃ (xs : List V) (ds : List PyData), H D = some (.lst xs) ∧ DfAll K (hid (plusA S D) H) xs ds ∧ ds.length = i ∧ (∀ j e, ds[j]? = some e → P j e) ∧
      Keeps (fun b => one a b || decide (b = D)) (upd H1 D (.lst [])) H ∧ Rn (plusA S D) a (n + i * m) H) ?_ ?_ ?_ ?_
  · exact ⟨[], [], upd_same, .nil, rfl, fun j e h => by simp at h, Keeps.rfl, by rw [Nat.zero_mul]; exact r0⟩
  · rintro i H hi ⟨xs, ds, e1, e2, e3, e4, kp, rr⟩
    refine hG D H (.inr (Keeps.of fun b o hb e => kp.at ?_ e)) hD
    have z := plusA_back hb
    have na : a ≠ some b := fun y => by rw [r.sa b y] at z; exact nomatch z.1
    show (one a b || decide (b = D)) = false
    rw [one_no na, decide_eq_false z.2]
    rfl
  · rintro i x H H' hi ⟨xs, ds, e1, e2, e3, e4, kp, rr⟩ ⟨rfl, hx⟩
    have kS : Keeps (plusA S D) (upd H1 D (.lst [])) H' := Keeps.of fun b o hb e => kp.at (by
      have z := plusA_back hb
      have na : a ≠ some b := fun y => by rw [r.sa b y] at z; exact nomatch z.1
      show (one a b || decide (b = D)) = false
      rw [one_no na, decide_eq_false z.2]
      rfl) e
    have bound : n + i * m + m ≤ n + N * m := by
      have := Nat.mul_le_mul_right m (show i + 1 ≤ N from hi)
      rw [Nat.succ_mul] at this
      omega
    refine ⟨hw x, ?_⟩
    dsimp only [tYes]
    rw [if_pos rfl]
    refine he D hD i x hi hx H' (n + i * m) _ kS rr (Nat.le_trans bound b) fun H2 v d k2 r2 hd pd => ?_
    have eD : H2 D = some (.lst xs) := k2.at (one_no aD) e1
    have el := DfAll.len e2
    refine ⟨xs, eD, Nat.lt_of_lt_of_le (by omega : xs.length < 1000000) line20, xs ++ [v], ds ++ [d], upd_same, ?_, ?_, ?_, ?_, ?_⟩
    · rw [hid_upd (plusA_self S D)]
      exact DfAll.app (DfAll.keep e2 (keeps_one rr.sa k2)) (.cons hd .nil)
    · rw [List.length_append, e3]
      rfl
    · intro j e hj
      by_cases h : j < ds.length
      · rw [List.getElem?_append_left h] at hj
        exact e4 j e hj
      · rw [List.getElem?_append_right (by omega)] at hj
        have hj0 : j - ds.length = 0 := by
          cases hz : j - ds.length with
          | zero => rfl
          | succ z => rw [hz] at hj; simp at hj
        rw [hj0] at hj
        cases hj
        have : j = i := by omega
        subst this
        exact pd
    · refine Keeps.of fun b o hb e => ?_
      have z := kp.at hb e
      have hb' : one a b = false ∧ decide (b = D) = false := Bool.or_eq_false_iff.mp hb
      rw [upd_ne (of_decide_eq_false hb'.2)]
      exact k2.at hb'.1 z
    · rw [Nat.succ_mul, ← Nat.add_assoc]
      refine ⟨r2.sa, fun b hb => ?_, ?_⟩
      · by_cases e : b = D
        · rw [e, upd_same]
          exact fun z => nomatch z
        · rw [upd_ne e]
          exact r2.th b hb
      · exact fun x hx => (r2.src x hx).at fun o e => by rw [upd_ne (fun y => aD (by rw [hx, y]))]; exact e
  · rintro H ⟨xs, ds, e1, e2, e3, e4, kp, rr⟩
    refine q H D ds (Keeps.of fun b o hb e => ?_) ⟨r.sa, fun b hb => rr.th b (plusA_of hb), rr.src⟩ ?_ e3 e4
    · have nD : b ≠ D := ne_of_none e hD
      refine kp.at ?_ (by rw [upd_ne nD]; exact e)
      show (one a b || decide (b = D)) = false
      rw [hb, decide_eq_false nD]
      rfl
    · exact .lst (.inl (.inl (by rw [hid_at sD]; exact e1))) (DfAll.to e2 hid_plus)
/-- [e for x in range(k)] -/
theorem ev_lcR {vs : List Nat} {slot N : Nat} {P : Nat → PyData → Prop} {Z : PyData → Prop} (hn : EvA K S a σ H0 tr m1 fun l => l = [.int (N : Int)]) (hw : ∀ x, wipe ((wipe σ vs).set slot (some x)) vs = wipe σ vs) (few : N ≤ 100000)
    (he : ∀ D H1, Same (hid S H0) (hid (plusA S D) H1) → ∀ i : Nat, i < N → Ev K (plusA S D) a ((wipe σ vs).set slot (some (.int i))) H1 te m (P i)) (hz : ∀ ds, ds.length = N → (∀ i e, ds[i]? = some e → P i e) → Z (.list ds)) :
    Ev K S a σ H0 (tLc (iRng1 tr) (gName slot) tYes te vs) (m1 + N * m) Z := by
  intro H n Q k r b q
  refine hn H n _ k r (by omega) fun H1 xs ds k1 r1 hd e => ?_
  subst e
  obtain ⟨x, _, rfl, h1, h2⟩ := DfAll.c hd
  obtain rfl := DfAll.n h2
  cases h1
  refine ⟨N, rfl, by omega, by omega, ?_⟩
  rw [Int.toNat_natCast]
  refine lc_ev (K := K) (S := S) (a := a) (m := m) (n := n + m1) (P := P) (X := fun i x => x = .int (0 + (i : Int))) (walk_range (lo := 0) (n := N)) rfl hw r1 (by omega) few (fun _ _ _ _ => trivial) (fun D hD i x hi hx => ?_) (fun H' D ds kk rr hd el hp => q H' _ _ (k1.trans kk) (by rw [← Nat.add_assoc]; exact rr) hd (hz ds el hp))
  rw [hx, Int.zero_add]
  exact he D _ (Same.trans (k.trans (keeps_one r.sa k1)) (hid_new hD)) i hi
/-- [e for c in s], s a text -/
theorem ev_lcS {vs : List Nat} {slot : Nat} {s : Str} {P : Nat → PyData → Prop} {Z : PyData → Prop} (hn : Ev K S a σ H0 tn m1 (· = .str s)) (hw : ∀ x, wipe ((wipe σ vs).set slot (some x)) vs = wipe σ vs) (few : s.length ≤ 100000)
    (he : ∀ D H1, Same (hid S H0) (hid (plusA S D) H1) → ∀ (i : Nat) (c : Nat), s.cps[i]? = some c → Ev K (plusA S D) a ((wipe σ vs).set slot (some (.str ⟨#[c]⟩))) H1 te m (P i)) (hz : ∀ ds, ds.length = s.length → (∀ i e, ds[i]? = some e → P i e) → Z (.list ds)) :
    Ev K S a σ H0 (tLc (iStr tn) (gName slot) tYes te vs) (m1 + s.length * m) Z := by
  intro H n Q k r b q
  refine hn H n _ k r (by omega) fun H1 x d k1 r1 hd e => ?_
  subst e
  cases hd
  refine ⟨s, rfl, ?_⟩
  refine lc_ev (K := K) (S := S) (a := a) (m := m) (n := n + m1) (P := P) (X := fun i x => ∃ c, s.cps[i]? = some c ∧ x = .str ⟨#[c]⟩) (walk_str (z := s)) rfl hw r1 (by show n + m1 + s.length * m ≤ most; omega) few (fun _ _ _ _ => trivial) (fun D hD i x hi hx => ?_) (fun H' D ds kk rr hd el hp => q H' _ _ (k1.trans kk) (by rw [← Nat.add_assoc]; exact rr) hd (hz ds el hp))
  obtain ⟨c, hc, rfl⟩ := hx
  exact he D _ (Same.trans (k.trans (keeps_one r.sa k1)) (hid_new hD)) i c hc
theorem sq_keep {L : Addr} {xs : List V} {D : Addr} {H1 H' : Hp} (h : SqL K (hid S H1) L xs) (hD : H1 D = none) (k : Keeps S H1 H' ∨ Keeps (plusA S D) (upd H1 D (.lst [])) H') : SqL K H' L xs := by
  rcases k with k | k
  · exact Same.seq (Same.trans k hid_same) h
  · exact Same.seq (Same.trans (Same.trans (hid_new hD) k) hid_same) h
theorem sqT_keep {L : Addr} {xs : List V} {D : Addr} {H1 H' : Hp} (h : SqT K (hid S H1) L xs) (hD : H1 D = none) (k : Keeps S H1 H' ∨ Keeps (plusA S D) (upd H1 D (.lst [])) H') : SqT K H' L xs := by
  rcases k with k | k
  · exact seqT_mono (Same.trans k hid_same) h
  · exact seqT_mono (Same.trans (Same.trans (hid_new hD) k) hid_same) h
/-- [e for x in xs], xs a list of data -/
theorem ev_lcL {vs : List Nat} {slot : Nat} {es : List PyData} {P : Nat → PyData → Prop} {Z : PyData → Prop} (hn : Ev K S a σ H0 tn m1 (· = .list es)) (hw : ∀ x, wipe ((wipe σ vs).set slot (some x)) vs = wipe σ vs) (few : es.length ≤ 100000)
    (he : ∀ D H1, Same (hid S H0) (hid (plusA S D) H1) → ∀ (i : Nat) (x : V) (e : PyData), es[i]? = some e → Df K (hid (plusA S D) H1) x e → Ev K (plusA S D) a ((wipe σ vs).set slot (some x)) H1 te m (P i)) (hz : ∀ ds, ds.length = es.length → (∀ i e, ds[i]? = some e → P i e) → Z (.list ds)) :
    Ev K S a σ H0 (tLc (iList K tn) (gName slot) tYes te vs) (m1 + es.length * m) Z := by
  intro H n Q k r b q
  refine hn H n _ k r (by omega) fun H1 x d k1 r1 hd e => ?_
  subst e
  obtain ⟨L, xs, rfl, hL, hxs⟩ := Df.lst_inv hd
  have el := DfAll.len hxs
  refine ⟨L, rfl, ⟨xs, Same.seq hid_same hL⟩, ?_⟩
  rw [← el] at b few hz q
  refine lc_ev (K := K) (S := S) (a := a) (m := m) (n := n + m1) (P := P) (X := fun i x => xs[i]? = some x) (walk_list (K := K) (a := L) (xs := xs)) rfl hw r1 (by omega) few (fun D H' kk hD => sq_keep hL hD kk) (fun D hD i x hi hx => ?_) (fun H' D ds kk rr hd el hp => q H' _ _ (k1.trans kk) (by rw [← Nat.add_assoc]; exact rr) hd (hz ds el hp))
  obtain ⟨e, he1, he2⟩ := DfAll.get hxs hx
  exact he D _ (Same.trans (k.trans (keeps_one r.sa k1)) (hid_new hD)) i x e he1 (Df.to he2 (hid_new hD))
theorem ev_lcT {vs : List Nat} {slot : Nat} {es : List PyData} {P : Nat → PyData → Prop} {Z : PyData → Prop} (hn : Ev K S a σ H0 tn m1 (· = .tuple es)) (hw : ∀ x, wipe ((wipe σ vs).set slot (some x)) vs = wipe σ vs) (few : es.length ≤ 100000)
    (he : ∀ D H1, Same (hid S H0) (hid (plusA S D) H1) → ∀ (i : Nat) (x : V) (e : PyData), es[i]? = some e → Df K (hid (plusA S D) H1) x e → Ev K (plusA S D) a ((wipe σ vs).set slot (some x)) H1 te m (P i)) (hz : ∀ ds, ds.length = es.length → (∀ i e, ds[i]? = some e → P i e) → Z (.list ds)) :
    Ev K S a σ H0 (tLc (iTup K tn) (gName slot) tYes te vs) (m1 + es.length * m) Z := by
  intro H n Q k r b q
  refine hn H n _ k r (by omega) fun H1 x d k1 r1 hd e => ?_
  subst e
  obtain ⟨L, xs, rfl, hL, hxs⟩ := Df.tup_inv hd
  have el := DfAll.len hxs
  refine ⟨L, rfl, ⟨xs, seqT_mono hid_same hL⟩, ?_⟩
  rw [← el] at b few hz q
  refine lc_ev (K := K) (S := S) (a := a) (m := m) (n := n + m1) (P := P) (X := fun i x => xs[i]? = some x) (walk_tup (K := K) (a := L) (xs := xs)) rfl hw r1 (by omega) few (fun D H' kk hD => sqT_keep hL hD kk) (fun D hD i x hi hx => ?_) (fun H' D ds kk rr hd el hp => q H' _ _ (k1.trans kk) (by rw [← Nat.add_assoc]; exact rr) hd (hz ds el hp))
  obtain ⟨e, he1, he2⟩ := DfAll.get hxs hx
  exact he D _ (Same.trans (k.trans (keeps_one r.sa k1)) (hid_new hD)) i x e he1 (Df.to he2 (hid_new hD))
/-! ### repr, tests, calls of tests -/
def rReprQ (K : PySem.W.Frag) : List V → Hp → VK → Prop := fun xs H Q => ∃ v d, xs = [v] ∧ Dp K H v d ∧ d.showable = true ∧ d.hasDict = false ∧ d.depth ≤ 60 ∧ d.shown.length ≤ sizeLine ∧ Q (.str d.shown) H
theorem ev_repr {P : PyData → Prop} (h : EvA K S a σ H0 tr m R) (p : ∀ ds, R ds → ∃ d, ds = [d] ∧ Good 1000000 60 d ∧ P (.str d.shown)) : Ev K S a σ H0 (tCB (rReprQ K) tr) m P :=
  ev_cb h fun H xs ds Q t hd pd q => by
    obtain ⟨d, rfl, g, pe⟩ := p ds pd
    obtain ⟨x, _, rfl, h1, h2⟩ := DfAll.c hd
    obtain rfl := DfAll.n h2
    obtain ⟨s1, s2⟩ := showable_of d g.fin
    exact ⟨x, d, rfl, (Df.bare h1).dp, s1, s2, g.dp, Nat.le_trans (shown_le d g.fin) (Nat.le_trans g.wt line20), q H _ _ (Same.refl H) (.str _) pe⟩
/-- x != y of texts -/
theorem ev_neS {P : PyData → Prop} (ha : Ev K S a σ H0 ta m1 P1) (hb : Ev K S a σ H0 tb m2 P2) (h : ∀ d e, P1 d → P2 e → ∃ x y, d = .str x ∧ e = .str y ∧ P (.bool (!decide (V.str x = V.str y)))) : Ev K S a σ H0 (tOp rNe ta tb) (m1 + m2) P :=
  ev_op ha hb fun H x y d e Q t hd he q1 q2 q => by
    obtain ⟨i, j, rfl, rfl, p⟩ := h d e q1 q2
    cases hd
    cases he
    exact ⟨rfl, q H _ _ (Same.refl H) (.bl _) p⟩
theorem ne_same (x : Str) : (!decide (V.str x = V.str x)) = false := by rw [decide_eq_true rfl]; rfl
/-- if a or b: .., both false -/
theorem ev_orF {t1 t2 : TE} {body : TS} {D : Ends} {n : Nat} {H : Hp} (r : Rn S a n H) (b : n + (m1 + m2) ≤ most) (h1 : Ev K S a σ H t1 m1 (· = .bool false)) (h2 : Ev K S a σ H t2 m2 (· = .bool false))
    (q : ∀ H', Keeps (one a) H H' → Rn S a (n + (m1 + m2)) H' → D.nx σ H') : tIfS (tOr (tTest t1) (tTest t2)) body tNext D σ H := by
  refine h1 H n _ Keeps.rfl r (by omega) fun H1 v d k1 r1 hd e => ?_
  subst e
  cases hd
  refine ⟨false, rfl, ?_⟩
  refine iteF (h2 H1 (n + m1) _ (keeps_one r.sa k1) r1 (by omega) fun H2 v d k2 r2 hd e => ?_)
  subst e
  cases hd
  refine ⟨false, rfl, ?_⟩
  refine iteF (q H2 (k1.trans k2) ?_)
  rw [← Nat.add_assoc]
  exact r2
end
end DD
namespace DD
open PySem PySem.Spec PyProof.Rows L2
/-! ### pure defs: no source -/
def noS : Addr → Bool := fun _ => false
theorem there_no {H : Hp} : There noS H := fun b h => nomatch h
theorem rn_no {H : Hp} : Rn noS none 0 H := Rn.pure there_no
theorem hid_no {H : Hp} : hid noS H = H := by
  funext b
  exact hid_at rfl
theorem keeps_no {H H' : Hp} (k : Keeps (one none) H H') : Same H H' := fun b o e => k.at rfl e
theorem dp_no {K : PySem.W.Frag} {H : Hp} {v : V} {d : PyData} (h : Df K H v d) : Df K (hid noS H) v d := by rw [hid_no]; exact h
theorem no_dp {K : PySem.W.Frag} {H : Hp} {v : V} {d : PyData} (h : Df K (hid noS H) v d) : Df K H v d := by rw [hid_no] at h; exact h
/-- an expression without draws, run where no source is -/
theorem ev_no {K : PySem.W.Frag} {σ : L2.St} {H : Hp} {te : TE} (m : Nat) (P : PyData → Prop) {Q : VK} (h : Ev K noS none σ H te m P) (hm : m ≤ most) (q : ∀ H' v d, Same H H' → Df K H' v d → P d → Q v H') : te σ H Q :=
  h H 0 Q Keeps.rfl rn_no (by rw [Nat.zero_add]; exact hm) fun H' v d k r hd p => q H' v d (keeps_no k) (no_dp hd) p
theorem dp_bools {K : PySem.W.Frag} {H : Hp} : ∀ {bs : List Bool} {vs : List V}, DfAll K H vs (bs.map PyData.bool) → vs = bs.map V.bl
  | [], _, h => DfAll.n h
  | b :: bs, _, h => by
    obtain ⟨v, r, rfl, h1, h2⟩ := DfAll.c h
    cases h1
    rw [dp_bools h2]
    rfl
section
variable {K : PySem.W.Frag} {S : Addr → Bool} {a : Option Addr} {σ : L2.St} {H0 : Hp} {te ta tb tn : TE} {tr : TA} {m m1 m2 : Nat} {P P1 P2 : PyData → Prop} {R R1 : List PyData → Prop}
theorem ev_all (h : EvA K S a σ H0 tr m R) (p : ∀ ds, R ds → ∃ bs : List Bool, ds = [.list (bs.map PyData.bool)] ∧ P (.bool (bs.all id))) : Ev K S a σ H0 (tCB (rAll K) tr) m P :=
  ev_cb h fun H xs ds Q t hd pd q => by
    obtain ⟨bs, rfl, pe⟩ := p ds pd
    obtain ⟨x, _, rfl, h1, h2⟩ := DfAll.c hd
    obtain rfl := DfAll.n h2
    obtain ⟨b, vs, rfl, hL, hv⟩ := Df.lst_inv h1
    rw [dp_bools hv] at hL
    exact ⟨b, bs, rfl, Same.seq hid_same hL, q H _ _ (Same.refl H) (.bl _) pe⟩
theorem ev_any (h : EvA K S a σ H0 tr m R) (p : ∀ ds, R ds → ∃ bs : List Bool, ds = [.list (bs.map PyData.bool)] ∧ P (.bool (bs.any id))) : Ev K S a σ H0 (tCB (rAny K) tr) m P :=
  ev_cb h fun H xs ds Q t hd pd q => by
    obtain ⟨bs, rfl, pe⟩ := p ds pd
    obtain ⟨x, _, rfl, h1, h2⟩ := DfAll.c hd
    obtain rfl := DfAll.n h2
    obtain ⟨b, vs, rfl, hL, hv⟩ := Df.lst_inv h1
    rw [dp_bools hv] at hL
    exact ⟨b, bs, rfl, Same.seq hid_same hL, q H _ _ (Same.refl H) (.bl _) pe⟩
theorem ev_inSign (ha : Ev K S a σ H0 ta m1 P1) (hb : Ev K S a σ H0 tb m2 P2) (h : ∀ d e, P1 d → P2 e → ∃ (c : Nat) (z : Str), d = .str ⟨#[c]⟩ ∧ e = .str z ∧ P (.bool (decide (c ∈ z.cps.toList)))) :
    Ev K S a σ H0 (tOp (fun x y H Q => ∃ (c : Nat) (z : Str), x = .str ⟨#[c]⟩ ∧ y = .str z ∧ Q (.bl (decide (c ∈ z.cps.toList))) H) ta tb) (m1 + m2) P :=
  ev_op ha hb fun H x y d e Q t hd he q1 q2 q => by
    obtain ⟨c, z, rfl, rfl, p⟩ := h d e q1 q2
    cases hd
    cases he
    exact ⟨c, z, rfl, rfl, q H _ _ (Same.refl H) (.bl _) p⟩
end
theorem list_of_get {f : Nat → PyData} : ∀ (n : Nat) (ds : List PyData), ds.length = n → (∀ i e, ds[i]? = some e → e = f i) → ds = (List.range n).map f
  | 0, [], _, _ => rfl
  | n + 1, ds, hl, h => by
    refine List.ext_getElem? fun i => ?_
    rw [List.getElem?_map]
    by_cases hi : i < n + 1
    · rw [List.getElem?_range hi, List.getElem?_eq_getElem (by omega), h i _ (List.getElem?_eq_getElem (by omega))]
      rfl
    · rw [List.getElem?_eq_none (by omega), List.getElem?_eq_none (by rw [List.length_range]; omega)]
      rfl
  | 0, _ :: _, hl, _ => by simp at hl
/-- data by their places -/
theorem list_by {α : Type} {f : α → PyData} (xs : List α) (ds : List PyData) (hl : ds.length = xs.length) (h : ∀ (i : Nat) (e : PyData) (x : α), ds[i]? = some e → xs[i]? = some x → e = f x) : ds = xs.map f := by
  refine List.ext_getElem? fun i => ?_
  rw [List.getElem?_map]
  by_cases hi : i < xs.length
  · rw [List.getElem?_eq_getElem (l := ds) (by omega), List.getElem?_eq_getElem hi, h i _ _ (List.getElem?_eq_getElem (by omega)) (List.getElem?_eq_getElem hi)]
    rfl
  · rw [List.getElem?_eq_none (by omega), List.getElem?_eq_none (by omega)]
    rfl
end DD
namespace DD
open PySem PySem.Spec PyProof.Rows L2
theorem ev_retN {K : PySem.W.Frag} {σ : L2.St} {H : Hp} {te : TE} {D : Ends} (m : Nat) (P : PyData → Prop) (h : Ev K noS none σ H te m P) (hm : m ≤ most) (q : ∀ H' v d, Same H H' → Df K H' v d → P d → D.rt v H') : tRet te D σ H := ev_no m P h hm q
theorem ev_setN {K : PySem.W.Frag} {σ : L2.St} {H : Hp} {te : TE} {D : Ends} {u : TS} {i : Nat} (m : Nat) (P : PyData → Prop) (h : Ev K noS none σ H te m P) (hm : m ≤ most) (q : ∀ H' v d, Same H H' → Df K H' v d → P d → u D (σ.set i (some v)) H') : tSeq (tAsg te (gName i)) u D σ H := ev_no m P h hm q
end DD
namespace DD
open PySem PySem.Spec PyProof.Rows L2
section
variable {K : PySem.W.Frag} {S : Addr → Bool} {a : Option Addr} {σ : L2.St} {H0 : Hp} {te ta tb tn : TE} {tr : TA} {m m1 m2 : Nat} {P P1 P2 : PyData → Prop} {R R1 : List PyData → Prop}
theorem ev_callB {r : PyData → Bool} {E : XK} (h : EvA K S a σ H0 tr m R) (p : ∀ ds, R ds → ∃ d, ds = [d] ∧ Good 900000 50 d ∧ P (.bool (r d))) : Ev K S a σ H0 (tCall (spB K r) [] E tr) m P := by
  intro H n Q k rn b q
  refine h H n _ k rn b fun H1 vs ds k1 r1 hd pd => ?_
  obtain ⟨d, rfl, g, pe⟩ := p ds pd
  obtain ⟨x, _, rfl, h1, h2⟩ := DfAll.c hd
  obtain rfl := DfAll.n h2
  exact ⟨x, d, rfl, Df.bare h1, g, fun H2 s2 => q H2 _ _ (k1.trans (Keeps.same s2)) (r1.same s2) (.bl _) pe⟩
theorem ev_callKwB {r : PyData → Bool} {E : XK} (h : EvA K S a σ H0 tr m R) (p : ∀ ds, R ds → ∃ d, ds = [d] ∧ Good 900000 50 d ∧ P (.bool (r d))) : Ev K S a σ H0 (tCallKw 1 (spB K r) gId E tr) m P := by
  intro H n Q k rn b q
  refine h H n _ k rn b fun H1 vs ds k1 r1 hd pd => ?_
  obtain ⟨d, rfl, g, pe⟩ := p ds pd
  obtain ⟨x, _, rfl, h1, h2⟩ := DfAll.c hd
  obtain rfl := DfAll.n h2
  exact ⟨rfl, x, d, rfl, Df.bare h1, g, fun H2 s2 => q H2 _ _ (k1.trans (Keeps.same s2)) (r1.same s2) (.bl _) pe⟩
theorem ev_andT (h1 : Ev K S a σ H0 ta m1 (· = .bool true)) (h2 : Ev K S a σ H0 tb m2 P) : Ev K S a σ H0 (tAndV ta tb) (m1 + m2) P := by
  intro H n Q k rn b q
  refine h1 H n _ k rn (by omega) fun H1 v d k1 r1 hd e => ?_
  subst e
  cases hd
  refine ⟨true, rfl, ?_⟩
  refine iteT (h2 H1 (n + m1) _ (k.trans (keeps_one rn.sa k1)) r1 (by omega) fun H2 v d k2 r2 hd p => ?_)
  exact q H2 v d (k1.trans k2) (by rw [← Nat.add_assoc]; exact r2) hd p
theorem ev_isB {x y : Bool} (h1 : Ev K S a σ H0 ta m1 (· = .bool x)) (h2 : Ev K S a σ H0 tb m2 (· = .bool y)) (p : P (.bool (decide (x = y)))) : Ev K S a σ H0 (tOp rIsB ta tb) (m1 + m2) P :=
  ev_op h1 h2 fun H v w d e Q t hd he q1 q2 q => by
    subst q1 q2
    cases hd
    cases he
    exact ⟨x, y, rfl, rfl, q H _ _ (Same.refl H) (.bl _) p⟩
/-- for v in a list of data -/
theorem ev_forLast {n i : Nat} {H : Hp} {tb : TS} {D : Ends} (P : PyData → Prop) (m : Nat) (Pv : L2.St → Prop) (r : Rn S a n H) (b : n + m ≤ most) (h : Ev K S a σ H te m fun d => ∃ l, d = .list l ∧ ∀ e ∈ l, P e) (h0 : Pv σ)
    (hs : ∀ Hs σ1 H1 v d, Pv σ1 → Keeps (one a) H Hs → Keeps (one a) Hs H1 → Rn S a (n + m) H1 → Df K (hid S H1) v d → P d →
      tb { D with nx := fun σ' H' => Pv σ' ∧ Keeps (one a) Hs H' ∧ Rn S a (n + m) H', ct := fun σ' H' => Pv σ' ∧ Keeps (one a) Hs H' ∧ Rn S a (n + m) H', bk := D.nx } (σ1.set i (some v)) H1)
    (hd : ∀ σ1 H1, Pv σ1 → Keeps (one a) H H1 → Rn S a (n + m) H1 → D.nx σ1 H1) : tFor (iList K te) (gName i) tb D σ H := by
  refine h H n _ Keeps.rfl r b fun H1 v d k1 r1 hdd ⟨l, e, hl⟩ => ?_
  subst e
  obtain ⟨L, xs, rfl, hL, hxs⟩ := Df.lst_inv hdd
  refine ⟨L, rfl, ⟨xs, Same.seq hid_same hL⟩, ?_⟩
  refine for_list (K := K) (a := L) (xs := xs) (fun _ σ1 H2 => Pv σ1 ∧ Keeps (one a) H1 H2 ∧ Rn S a (n + m) H2) ⟨h0, Keeps.rfl, r1⟩ (fun j σ1 H2 _ p => Same.seq (Same.trans (keeps_one r.sa p.2.1) hid_same) hL) (fun j x σ1 H2 hx p => ?_) (fun σ1 H2 p => hd σ1 H2 p.1 (k1.trans p.2.1) p.2.2)
  obtain ⟨e, he1, he2⟩ := DfAll.get hxs hx
  have he3 : Df K (hid S H2) x e := Df.keep he2 (keeps_one r.sa p.2.1)
  exact hs H1 σ1 H2 x e p.1 k1 p.2.1 p.2.2 he3 (hl e (List.mem_of_getElem? he1))
theorem ev_forL {n i : Nat} {H : Hp} {u tb : TS} {D : Ends} (P : PyData → Prop) (m : Nat) (Pv : L2.St → Prop) (r : Rn S a n H) (b : n + m ≤ most) (h : Ev K S a σ H te m fun d => ∃ l, d = .list l ∧ ∀ e ∈ l, P e) (h0 : Pv σ)
    (hs : ∀ Hs σ1 H1 v d, Pv σ1 → Keeps (one a) H Hs → Keeps (one a) Hs H1 → Rn S a (n + m) H1 → Df K (hid S H1) v d → P d →
      tb { D with nx := fun σ' H' => Pv σ' ∧ Keeps (one a) Hs H' ∧ Rn S a (n + m) H', ct := fun σ' H' => Pv σ' ∧ Keeps (one a) Hs H' ∧ Rn S a (n + m) H', bk := u D } (σ1.set i (some v)) H1)
    (hd : ∀ σ1 H1, Pv σ1 → Keeps (one a) H H1 → Rn S a (n + m) H1 → u D σ1 H1) : tSeq (tFor (iList K te) (gName i) tb) u D σ H :=
  ev_forLast (D := { D with nx := u D }) P m Pv r b h h0 hs hd
end
theorem same_hid_new {H H1 : Hp} {p : Addr} (s : Same H H1) (np : H p = none) : Same H (hid (one (some p)) H1) := fun b o e => by
  rw [hid_at (one_ne (ne_of_none e np))]
  exact s b o e
theorem rn_src {H : Hp} {p : Addr} {n : Nat} (s : Src H p n) : Rn (one (some p)) (some p) n H :=
  Rn.mk1 (one_self p) (fun b hb => by
    cases one_is hb
    obtain ⟨_, _, _, e, _⟩ := s
    rw [e]
    exact fun z => nomatch z) s
end DD

namespace DD
open PySem PySem.Spec PyProof.Rows L2
/-! ### {e for x in ..} where e is an int or a text -/
section
variable {X : Cx}
/-- the reading: D the new set, the keys so far in it -/
def tKc (P : Program) (w : World) (wi : TI) (g : TG) (tt : TT) (te : TE) (vs : List Nat) : TE := fun σ H Q => wi σ H fun J H1 => ∀ D, H1 D = none → ∃ W : Nat → Nat → Hp → Prop, (∃ m, W 0 m (upd H1 D (SetK P w D (fun _ => false) 0))) ∧ ∀ i m H, W i m H →
  (J.stop i H ∧ Q (.ref D) H) ∨ (J.go i H ∧ ∃ Nx : Hp → Prop, (∀ H', Nx H' → ∃ m', m' < m ∧ W (i + 1) m' H') ∧ ∀ x H', J.yld i H x H' → g x (wipe σ vs) H' fun σ2 H2 => wipe σ2 vs = wipe σ vs ∧ tt σ2 H2 fun b H3 =>
    if b = true then te σ2 H3 fun y H4 => ∃ (k : Key) (S : Key → Bool) (n : Nat), y = kV k ∧ H4 D = some (SetK P w D S n) ∧ n + 1 < scanBound ∧ Nx (upd H4 D (SetK P w D (fun j => S j || decide (j = k)) (if S k = true then n else n + 1))) else Nx H3)
abbrev freshSet (w : World) : Obj := { cls := .type "set", dict := none, data := .set #[] 0 (.fresh 0 0 (!w.params.followText "set-order")) }
theorem fresh_set {P : Program} {w : World} {h : Heap} : (h.push (freshSet w)).SetOf (mixKind P w) h.objs.size (fun _ => false) 0 :=
  ⟨_, #[], 0, _, Heap.get?_push_size _ rfl, ⟨rfl, rfl, rfl⟩, rfl, (fun e he => by simp at he), (fun k => by simp), (by decide), (by rfl), rfl⟩
theorem kc_core {pins : List (Addr × Obj)} {s : Shared} {σ : L2.St} {H : Hp} {Q : VK} {elt tg iter : Expr} {ifs : List Expr} {scope : Scope} {own : List (PySem.Str × Nat)} {pos pos' : Pos} {wi : TI} {g : TG} {tt : TT} {te : TE} {Qf : Value → Shared → Prop}
    (calm : X.calm = true) (names : X.N.Nodup) (I : Inv X pins σ H s) (walk : PI X tg iter wi) (blk : BlkOk X.N X.env.scope scope own)
    (tgt : ∀ (s : Shared) (H : Hp) (C : Addr) (cl : List (PySem.Str × Addr)) (fp : List Addr), PG (X.blk s H scope (compEnvC scope cl C X.env) fp) tg g)
    (tests : ∀ (s : Shared) (H : Hp) (C : Addr) (cl : List (PySem.Str × Addr)) (fp : List Addr), PTs (X.blk s H scope (compEnvC scope cl C X.env) fp) ifs tt)
    (elem : ∀ (s : Shared) (H : Hp) (C : Addr) (cl : List (PySem.Str × Addr)) (fp : List Addr), PE (X.blk s H scope (compEnvC scope cl C X.env) fp) elt te) (fold : ∀ x, foldedSetIterable iter X.env x = pure x)
    (h : tKc X.prog X.w wi g tt te (own.map (·.2)) σ H Q) (behind : ∀ D C s' m H', Inv X pins σ H' s' → Q (.ref D) H' → s'.heap.Ns C m → FpOk X pins H' C → compPost (model X.prog X.w) X.A X.xe none Qf (.ref D) C (.ok .next) s') :
    wpAny (model X.prog X.w) X.A (comprehension (.SetComp elt [⟨tg, iter, ifs, 0⟩] scope pos) scope X.env pos' (newSet (.type "set")) false (eval iter X.env) none) Qf X.xe s := by
  have captured : ∀ y ∈ scope.names, y.2 = .free → ∃ c, X.env.cells.lookup y.1 = some c := fun y hy e => (blk.free y hy e).elim (fun z => I.ok.has _ (.inl z)) fun z => I.ok.has _ (.inr z)
  refine wpAny_comprehension_free (use := none) rfl fold (closure_ok captured) blk.kind (fun y hy e => (blk.uniq y hy).trans (congrArg some e)) (thn (walk.run pins s σ H _ I h) fun xv s1 h1 => thn h1 fun itv s2 h2 => ?_)
  obtain ⟨it, fp, tn, J, H2, e, I2, T, at2, ok2, q⟩ := h2
  subst e
  refine PpSet.newSet_ok (newEnv_comp ?_)
  generalize eD : s2.heap.objs.size = D
  have noD : H2 D = none := I2.hok.fresh (Nat.le_of_eq eD)
  obtain ⟨W, ⟨m0, w0⟩, turn⟩ := q D noD
  generalize es3 : ({ s2 with heap := s2.heap.push (freshSet X.w) } : Shared) = s3
  have heap3 : s3.heap = s2.heap.push (freshSet X.w) := by rw [← es3]
  generalize eH3 : upd H2 D (SetK X.prog X.w D (fun _ => false) 0) = H3 at w0
  have I3 : Inv X pins σ H3 s3 := by
    rw [← es3, ← eH3]
    refine I2.laid (t' := s2.toks) (fun b o e => Heap.get?_push_of_some _ e) (Nat.le_of_eq eD) ?_
    rw [← eD]
    exact setK_new fresh_set
  have ok3 : ∀ b ∈ fp, FpOk X pins H3 b ∧ b < s3.heap.objs.size := fun b hb => by
    obtain ⟨o, there, _⟩ := T.obj _ _ at2 b hb
    have below : b < s2.heap.objs.size := Heap.lt_size there
    refine ⟨⟨?_, (ok2 b hb).2⟩, by rw [heap3, Heap.size_push]; exact Nat.lt_succ_of_lt below⟩
    rw [← eH3, upd_ne (by rw [← eD]; exact Nat.ne_of_lt below)]
    exact (ok2 b hb).1
  have at3 : tn 0 s3.heap := T.keep _ _ _ at2 fun b _ o e => by rw [heap3]; exact Heap.get?_push_of_some _ e
  have I4 := block_start I3 blk names ok3
  have G := tgt s3 H3 s3.heap.objs.size (cellsFrom (s3.heap.objs.size + 1) scope.names (cloFrom X.env.cells scope.names [])) fp
  have B := tests s3 H3 s3.heap.objs.size (cellsFrom (s3.heap.objs.size + 1) scope.names (cloFrom X.env.cells scope.names [])) fp
  have M := elem s3 H3 s3.heap.objs.size (cellsFrom (s3.heap.objs.size + 1) scope.names (cloFrom X.env.cells scope.names [])) fp
  show codeAny (model X.prog X.w) X.A (.compStart (.SetComp elt [⟨tg, iter, ifs, 0⟩] scope pos) 0 (.ref it) (.ref D) (compEnvC scope (cellsFrom (s3.heap.objs.size + 1) scope.names (cloFrom X.env.cells scope.names [])) s3.heap.objs.size X.env))
    (compPost (model X.prog X.w) X.A X.xe none Qf (.ref D) s3.heap.objs.size) { s3 with heap := pushCells (s3.heap.push { cls := .type "dict", data := .dict #[] }) scope.names }
  have free3 : ∀ b ∈ fp, H3 b = none := fun b hb => (ok3 b hb).1.1
  generalize ece : compEnvC scope (cellsFrom (s3.heap.objs.size + 1) scope.names (cloFrom X.env.cells scope.names [])) s3.heap.objs.size X.env = ce at I4 G B M ⊢
  have frame : ce.locals = s3.heap.objs.size := by subst ece; rfl
  generalize es4 : ({ s3 with heap := pushCells (s3.heap.push { cls := .type "dict", data := .dict #[] }) scope.names } : Shared) = s4 at I4 ⊢
  have at4 : tn 0 s4.heap := T.keep _ _ _ at3 fun b _ o e => by rw [← es4]; exact pushCells_keeps _ _ _ _ (Heap.get?_push_of_some _ e)
  have still : ∀ {σ' : L2.St} {H' : Hp} {s' : Shared}, Inv (X.blk s3 H3 scope ce fp) [] σ' H' s' → (∀ b ∈ fp, H' b = none) → ∀ b ∈ fp, FpOk (X.blk s3 H3 scope ce fp) [] H' b := fun {σ' H' s'} I' no b hb =>
    ⟨no b hb, (I'.ok.exf b hb).1, I'.ok.exfs b hb, .inl hb, fun x c e => (I'.ok.exf b hb).2 x c e, fun p hp => absurd hp (by simp)⟩
  refine PpSet.codeAny_compStart_set ?loop (T.self X.A 0 _ _ _ at4 ?loop)
  refine PpSet.compLoopS_any (fun n s' => ∃ i H', Inv (X.blk s3 H3 scope ce fp) [] (wipe σ (own.map (·.2))) H' s' ∧ tn i s'.heap ∧ (∀ b ∈ fp, H' b = none) ∧ W i n H') ?_ m0 ⟨0, H3, I4, at4, free3, w0⟩
  rintro n s5 ⟨i, H5, I5, at5, free5, w5⟩
  rcases turn i n H5 w5 with ⟨stop, fin⟩ | ⟨go, Nx, next, step⟩
  · refine thnF (T.done (X.blk s3 H3 scope ce fp) rfl rfl rfl calm i [] s5 _ H5 (fun _ _ => False) I5 (still I5 free5) at5 stop) fun r s6 ⟨er, I6⟩ => ?_
    subst er
    have back : Inv X pins σ H5 s6 := I3.call' (ch := fp) I6.os I6.base I6.hok I6.bare fun b hb => let z := (ok3 b hb).1; ⟨z.2.2.2.1, z.2.1, z.2.2.2.2.1, z.2.2.2.2.2⟩
    obtain ⟨m, ns, _⟩ := I6.loc
    exact behind D s3.heap.objs.size s6 m H5 back fin (frame ▸ ns) (I3.fpOk (Nat.le_refl _) (frame ▸ I6.free))
  · refine thnF (T.item (X.blk s3 H3 scope ce fp) rfl rfl rfl calm i [] s5 _ H5 (fun _ _ => False) I5 (still I5 free5) at5 go) fun r s6 ⟨u, er, h6⟩ => ?_
    subst er
    refine thnF h6 fun _ s7 ⟨x, H7, I7, rx, y7, at7, free7⟩ => ?_
    have pinned := I7.pinned (still I7 free7) (T.obj _ _ at7)
    refine thnF (G.run _ s7 _ H7 x u _ pinned rx (step x H7 y7)) fun _ s8 ⟨σ8, H8, I8, wiped, q8⟩ => thnF (B.run _ s8 σ8 H8 _ I8 q8) fun b s9 ⟨H9, I9, q9⟩ => ?_
    have again : ∀ {s' : Shared} {H' : Hp}, Inv (X.blk s3 H3 scope ce fp) ([] ++ pinsAt fp s7.heap) σ8 H' s' → Nx H' → ∃ m, m < n ∧ ∃ i H', Inv (X.blk s3 H3 scope ce fp) [] (wipe σ (own.map (·.2))) H' s' ∧ tn i s'.heap ∧ (∀ b ∈ fp, H' b = none) ∧ W i m H' := by
      intro s' H' I' nx
      obtain ⟨m', lt, w'⟩ := next H' nx
      have held : ∀ b ∈ fp, ∀ o, s7.heap.get? b = some o → s'.heap.get? b = some o ∧ H' b = none := fun b hb o e => let z := I'.pin (b, o) (List.mem_append_right _ (List.mem_append_right _ (mem_pinsAt hb e))); ⟨z.1, z.2.1⟩
      refine ⟨m', lt, i + 1, H', (I'.unpinned (pins := [])).weak (by rw [← wiped, wipe_length]) (fun j v e => (wipe_some (wiped ▸ e)).1), T.keep _ _ _ at7 fun b hb o e => (held b hb o e).1, fun b hb => ?_, w'⟩
      obtain ⟨o, e, _⟩ := T.obj _ _ at7 b hb
      exact (held b hb o e).2
    cases b with
    | false =>
      simp only [Bool.false_eq_true, if_false] at q9 ⊢
      exact again I9 q9
    | true =>
      simp only [if_true] at q9 ⊢
      refine thnF (M.run _ s9 σ8 H9 _ I9 q9) fun z s10 ⟨yv, H10, I10, r10, k, S0, n0, ey, hD10, room, nx⟩ => ?_
      subst ey
      refine call_set_add (kV_is r10) (key_scan r10) (setK_get (X := X.blk s3 H3 scope ce fp) I10 hD10) room fun h' sb new => again (I10.write (e := D) (t' := s10.toks + 1) (by rw [hD10]; trivial) (.inl rfl) (fun b u hb hu => (sb.2 b hb).trans hu) ?_ (setK_new new)) nx
      obtain ⟨o, _, _, _, ho, _⟩ := id new
      exact ⟨o, ho⟩
theorem pe_kc {elt tg iter : Expr} {ifs : List Expr} {scope : Scope} {own : List (PySem.Str × Nat)} {pos : Pos} {wi : TI} {g : TG} {tt : TT} {te : TE} (calm : X.calm = true) (names : X.N.Nodup) (walk : PI X tg iter wi) (blk : BlkOk X.N X.env.scope scope own)
    (tgt : ∀ (s : Shared) (H : Hp) (C : Addr) (cl : List (PySem.Str × Addr)) (fp : List Addr), PG (X.blk s H scope (compEnvC scope cl C X.env) fp) tg g)
    (tests : ∀ (s : Shared) (H : Hp) (C : Addr) (cl : List (PySem.Str × Addr)) (fp : List Addr), PTs (X.blk s H scope (compEnvC scope cl C X.env) fp) ifs tt)
    (elem : ∀ (s : Shared) (H : Hp) (C : Addr) (cl : List (PySem.Str × Addr)) (fp : List Addr), PE (X.blk s H scope (compEnvC scope cl C X.env) fp) elt te) (fold : ∀ x, foldedSetIterable iter X.env x = pure x := by intro _; rfl) :
    PE X (.SetComp elt [⟨tg, iter, ifs, 0⟩] scope pos) (tKc X.prog X.w wi g tt te (own.map (·.2))) := by
  refine ⟨fun pins s σ H Q I h => ?_⟩
  rw [PpSet.eval_SetComp]
  refine kc_core calm names I walk blk tgt tests elem fold h fun D C s' m H' I' q ns ok => ⟨m, ns, fun h'' sb => ?_⟩
  exact ⟨.ref D, H', I'.turned (t' := s'.toks) (fun b o hb e => (sb.2 b hb).trans e) ok.1 ok.2.1 ok.2.2.2.1 ok.2.2.2.2.1 ok.2.2.2.2.2, rfl, q⟩
/-- len of such a set -/
theorem call_lenK : CallR X (.builtin "len") (fun xs H Q => ∃ D S n, xs = [.ref D] ∧ H D = some (SetK X.prog X.w D S n) ∧ Q (.int n) H) := by
  intro pins s σ H xs us Q I r h
  obtain ⟨D, S, n, rfl, hD, q⟩ := h
  obtain ⟨u, rfl, ru⟩ := vals1 r
  cases ru
  obtain ⟨o, es, ep, t, ho, hx, hd, _, _, hb, hf, hn⟩ := setK_get I hD
  have small : (scanBound : Nat) ≤ 2 ^ 62 := by decide
  refine call_len_set ho hx hd hf (by omega) ⟨.int n, H, I.tok _, ⟨_, by rw [hn]⟩, q⟩
end
end DD
namespace DD
open PySem PySem.Spec PyProof.Rows L2
/-- such a comprehension over any walk -/
theorem kc_it {J : It} {N : Nat} {G : Hp → Prop} {Y : Nat → Hp → V → Hp → Prop} (w : Walk J N G Y) {P : Program} {wo : World} {g : TG} {tt : TT} {te : TE} {vs : List Nat} {σ : L2.St} {H1 : Hp} {D : Addr} {Qd : Hp → Prop} (Pv : Nat → Hp → Prop)
    (h0 : Pv 0 (upd H1 D (SetK P wo D (fun _ => false) 0))) (hG : ∀ i H, i ≤ N → Pv i H → G H)
    (hs : ∀ i x H H', i < N → Pv i H → Y i H x H' → g x (wipe σ vs) H' fun σ2 H2 => wipe σ2 vs = wipe σ vs ∧ tt σ2 H2 fun b H3 =>
      if b = true then te σ2 H3 fun y H4 => ∃ (k : Key) (S : Key → Bool) (n : Nat), y = kV k ∧ H4 D = some (SetK P wo D S n) ∧ n + 1 < scanBound ∧ Pv (i + 1) (upd H4 D (SetK P wo D (fun j => S j || decide (j = k)) (if S k = true then n else n + 1))) else Pv (i + 1) H3)
    (hd : ∀ H, Pv N H → Qd H) :
    ∃ W : Nat → Nat → Hp → Prop, (∃ m, W 0 m (upd H1 D (SetK P wo D (fun _ => false) 0))) ∧ ∀ i m H, W i m H →
      (J.stop i H ∧ Qd H) ∨ (J.go i H ∧ ∃ Nx : Hp → Prop, (∀ H', Nx H' → ∃ m', m' < m ∧ W (i + 1) m' H') ∧ ∀ x H', J.yld i H x H' → g x (wipe σ vs) H' fun σ2 H2 => wipe σ2 vs = wipe σ vs ∧ tt σ2 H2 fun b H3 =>
        if b = true then te σ2 H3 fun y H4 => ∃ (k : Key) (S : Key → Bool) (n : Nat), y = kV k ∧ H4 D = some (SetK P wo D S n) ∧ n + 1 < scanBound ∧ Nx (upd H4 D (SetK P wo D (fun j => S j || decide (j = k)) (if S k = true then n else n + 1))) else Nx H3) := by
  refine ⟨fun i m H => m + i = N ∧ Pv i H, ⟨N, by omega, h0⟩, fun i m H ⟨e, p⟩ => ?_⟩
  by_cases lt : i < N
  · exact .inr ⟨w.goes i H lt (hG i H (Nat.le_of_lt lt) p), Pv (i + 1), fun H' p' => ⟨m - 1, by omega, by omega, p'⟩, fun x H' y => hs i x H H' lt p (w.yields i H x H' lt (hG i H (Nat.le_of_lt lt) p) y)⟩
  · obtain rfl : i = N := by omega
    exact .inl ⟨w.stops H (hG i H (Nat.le_refl _) p), hd H p⟩
/-! ### xs.count(k) of texts -/
theorem strs_of : ∀ {ys : List Str} {us : List Value}, Vals (ys.map V.str) us → StrsAre us ys
  | [], us, r => by
    cases r
    exact .nil
  | y :: ys, us, r => by
    rw [List.map_cons] at r
    cases r with
    | cons r1 r2 =>
      obtain ⟨t, rfl⟩ := r1
      exact .cons y t (strs_of r2)
theorem countIn_strs (k : Str) : ∀ ys : List Str, countIn (.str k) (ys.map PyData.str) = ((ys.count k : Nat) : Int)
  | [] => rfl
  | y :: ys => by
    rw [List.map_cons, countIn, countIn_strs k ys, List.count_cons]
    by_cases h : (y == k) = true
    · have h' : same (PyData.str y) (PyData.str k) = true := h
      rw [if_pos h', if_pos h]
      push_cast
      omega
    · have h' : ¬ same (PyData.str y) (PyData.str k) = true := h
      rw [if_neg h', if_neg h]
      push_cast
      omega
section
variable {X : Cx}
def rCntS (K : PySem.W.Frag) : V → List V → Hp → VK → Prop := fun x xs H Q => ∃ (p : Addr) (ys : List Str) (k : Str), x = .ref p ∧ xs = [.str k] ∧ SqL K H p (ys.map V.str) ∧ Q (.int (ys.count k : Nat)) H
theorem mt_countS : MtR X "list.count" (rCntS X.K) := by
  intro pins s σ H x xs v us Q I rx rxs h
  obtain ⟨p, ys, k, rfl, rfl, hs, q⟩ := h
  cases rx
  obtain ⟨u, rfl, t, rfl⟩ := vals1 rxs
  obtain ⟨its, rv, hl, _⟩ := I.list hs
  refine count_list_strs hl.isList (strs_of rv) ?_
  rw [countIn_strs]
  exact ⟨.int (ys.count k : Nat), H, I.tok _, ⟨_, rfl⟩, q⟩
end
end DD
namespace DD
open PySem PySem.Spec PyProof.Rows L2
/-- if not e: .. -/
theorem if_notN {K : PySem.W.Frag} {σ : L2.St} {H : Hp} {te : TE} {t : TS} {D : Ends} {b : Bool} (m : Nat) (h : Ev K noS none σ H te m (· = .bool b)) (hm : m ≤ most) (qF : b = false → ∀ H1, Same H H1 → t D σ H1) (qT : b = true → ∀ H1, Same H H1 → D.nx σ H1) :
    tIfS (tNot (tB te)) t tNext D σ H := by
  refine ev_no m _ h hm fun H1 v d s1 hd e => ?_
  subst e
  cases hd
  cases b with
  | false => exact ⟨false, rfl, iteT (qF rfl H1 s1)⟩
  | true => exact ⟨true, rfl, iteF (qT rfl H1 s1)⟩
theorem nodup_take {α : Type} {l : List α} {i : Nat} {x : α} (h : l[i]? = some x) : (l.take (i + 1)).Nodup ↔ (l.take i).Nodup ∧ x ∉ l.take i := by
  rw [List.take_add_one, h]
  show (l.take i ++ [x]).Nodup ↔ _
  rw [List.nodup_append]
  constructor
  · rintro ⟨h1, _, h2⟩
    exact ⟨h1, fun hx => h2 x hx x (List.mem_singleton.mpr rfl) rfl⟩
  · rintro ⟨h1, h2⟩
    refine ⟨h1, List.nodup_cons.mpr ⟨List.not_mem_nil, List.nodup_nil⟩, fun y hy z hz e => ?_⟩
    rw [List.mem_singleton.mp hz] at e
    rw [e] at hy
    exact h2 hy
end DD

namespace DD
open PySem PySem.Spec PyProof.Rows L2
/-! ### lists that are made, kept apart, and changed -/
section
variable {K : PySem.W.Frag} {S : Addr → Bool} {a : Option Addr} {σ : L2.St} {H0 : Hp} {te ta tb tn : TE} {tr : TA} {tl th : TO} {m m1 m2 m3 : Nat} {P P1 P2 : PyData → Prop} {R R1 : List PyData → Prop} {p1 p2 : Option Int → Prop}
theorem lc_evF {J : It} {N : Nat} {G : Hp → Prop} {X : Nat → V → Prop} (w : Walk J N G (fun i H x H' => H' = H ∧ X i x)) {g : TG} {vs : List Nat} {slot : Nat} {H1 : Hp} {n : Nat} {P : Nat → PyData → Prop} {Q : VK}
    (hg : g = gName slot) (hw : ∀ x, wipe ((wipe σ vs).set slot (some x)) vs = wipe σ vs) (r : Rn S a n H1) (b : n + N * m ≤ most) (few : N ≤ 100000)
    (hG : ∀ D H', Keeps S H1 H' ∨ Keeps (plusA S D) (upd H1 D (.lst [])) H' → H1 D = none → G H')
    (he : ∀ D, H1 D = none → ∀ i x, i < N → X i x → Ev K (plusA S D) a ((wipe σ vs).set slot (some x)) (upd H1 D (.lst [])) te m (P i))
    (q : ∀ H' D xs ds, H1 D = none → Keeps (one a) H1 H' → Rn (plusA S D) a (n + N * m) H' → H' D = some (.lst xs) → DfAll K (hid (plusA S D) H') xs ds → ds.length = N → (∀ i e, ds[i]? = some e → P i e) → Q (.ref D) H') :
    ∀ D, H1 D = none → ∃ W : Nat → Nat → Hp → Prop, (∃ m, W 0 m (upd H1 D (.lst []))) ∧ ∀ i m H, W i m H →
      (J.stop i H ∧ Q (.ref D) H) ∨ (J.go i H ∧ ∃ Nx : Hp → Prop, (∀ H', Nx H' → ∃ m', m' < m ∧ W (i + 1) m' H') ∧ ∀ x H', J.yld i H x H' → g x (wipe σ vs) H' fun σ2 H2 => wipe σ2 vs = wipe σ vs ∧ tYes σ2 H2 fun b H3 =>
        if b = true then te σ2 H3 fun y H4 => ∃ acc, H4 D = some (.lst acc) ∧ acc.length < sizeLine ∧ Nx (upd H4 D (.lst (acc ++ [y]))) else Nx H3) := by
  intro D hD
  subst hg
  have aD : a ≠ some D := fun z => by
    obtain ⟨_, _, _, e, _⟩ := r.src D z
    rw [hD] at e
    cases e
  have sD : S D = false := r.th.new hD
  have r0 : Rn (plusA S D) a n (upd H1 D (.lst [])) := by
    refine ⟨fun x e => plusA_of (r.sa x e), fun b hb => ?_, fun x e => (r.src x e).at (same_new hD x)⟩
    by_cases e : b = D
    · rw [e, upd_same]
      exact fun z => nomatch z
    · rw [upd_ne e]
      refine r.th b ?_
      unfold plusA at hb
      rw [decide_eq_false e, Bool.or_false] at hb
      exact hb
  refine lc_it w (fun i H => ∃ (xs : List V) (ds : List PyData), H D = some (.lst xs) ∧ DfAll K (hid (plusA S D) H) xs ds ∧ ds.length = i ∧ (∀ j e, ds[j]? = some e → P j e) ∧
      Keeps (fun b => one a b || decide (b = D)) (upd H1 D (.lst [])) H ∧ Rn (plusA S D) a (n + i * m) H) ?_ ?_ ?_ ?_
  · exact ⟨[], [], upd_same, .nil, rfl, fun j e h => by simp at h, Keeps.rfl, by rw [Nat.zero_mul]; exact r0⟩
  · rintro i H hi ⟨xs, ds, e1, e2, e3, e4, kp, rr⟩
    refine hG D H (.inr (Keeps.of fun b o hb e => kp.at ?_ e)) hD
    have z := plusA_back hb
    have na : a ≠ some b := fun y => by rw [r.sa b y] at z; exact nomatch z.1
    show (one a b || decide (b = D)) = false
    rw [one_no na, decide_eq_false z.2]
    rfl
  · rintro i x H H' hi ⟨xs, ds, e1, e2, e3, e4, kp, rr⟩ ⟨rfl, hx⟩
    have kS : Keeps (plusA S D) (upd H1 D (.lst [])) H' := Keeps.of fun b o hb e => kp.at (by
      have z := plusA_back hb
      have na : a ≠ some b := fun y => by rw [r.sa b y] at z; exact nomatch z.1
      show (one a b || decide (b = D)) = false
      rw [one_no na, decide_eq_false z.2]
      rfl) e
    have bound : n + i * m + m ≤ n + N * m := by
      have := Nat.mul_le_mul_right m (show i + 1 ≤ N from hi)
      rw [Nat.succ_mul] at this
      omega
    refine ⟨hw x, ?_⟩
    dsimp only [tYes]
    rw [if_pos rfl]
    refine he D hD i x hi hx H' (n + i * m) _ kS rr (Nat.le_trans bound b) fun H2 v d k2 r2 hd pd => ?_
    have eD : H2 D = some (.lst xs) := k2.at (one_no aD) e1
    have el := DfAll.len e2
    refine ⟨xs, eD, Nat.lt_of_lt_of_le (by omega : xs.length < 1000000) line20, xs ++ [v], ds ++ [d], upd_same, ?_, ?_, ?_, ?_, ?_⟩
    · rw [hid_upd (plusA_self S D)]
      exact DfAll.app (DfAll.keep e2 (keeps_one rr.sa k2)) (.cons hd .nil)
    · rw [List.length_append, e3]
      rfl
    · intro j e hj
      by_cases h : j < ds.length
      · rw [List.getElem?_append_left h] at hj
        exact e4 j e hj
      · rw [List.getElem?_append_right (by omega)] at hj
        have hj0 : j - ds.length = 0 := by
          cases hz : j - ds.length with
          | zero => rfl
          | succ z => rw [hz] at hj; simp at hj
        rw [hj0] at hj
        cases hj
        have : j = i := by omega
        subst this
        exact pd
    · refine Keeps.of fun b o hb e => ?_
      have z := kp.at hb e
      have hb' : one a b = false ∧ decide (b = D) = false := Bool.or_eq_false_iff.mp hb
      rw [upd_ne (of_decide_eq_false hb'.2)]
      exact k2.at hb'.1 z
    · rw [Nat.succ_mul, ← Nat.add_assoc]
      refine ⟨r2.sa, fun b hb => ?_, ?_⟩
      · by_cases e : b = D
        · rw [e, upd_same]
          exact fun z => nomatch z
        · rw [upd_ne e]
          exact r2.th b hb
      · exact fun x hx => (r2.src x hx).at fun o e => by rw [upd_ne (fun y => aD (by rw [hx, y]))]; exact e
  · rintro H ⟨xs, ds, e1, e2, e3, e4, kp, rr⟩
    refine q H D xs ds hD (Keeps.of fun b o hb e => ?_) rr e1 e2 e3 e4
    have nD : b ≠ D := ne_of_none e hD
    refine kp.at ?_ (by rw [upd_ne nD]; exact e)
    show (one a b || decide (b = D)) = false
    rw [hb, decide_eq_false nD]
    rfl
/-- y = [e for x in range(k)]: the new list stands apart -/
theorem ev_setF {u : TS} {E : Ends} {vs : List Nat} {slot N n i : Nat} {H : Hp} {P : Nat → PyData → Prop} (r : Rn S a n H) (b : n + (m1 + N * m) ≤ most) (hn : EvA K S a σ H tr m1 fun l => l = [.int (N : Int)]) (hw : ∀ x, wipe ((wipe σ vs).set slot (some x)) vs = wipe σ vs) (few : N ≤ 100000)
    (he : ∀ D H1, Same (hid S H) (hid (plusA S D) H1) → ∀ i : Nat, i < N → Ev K (plusA S D) a ((wipe σ vs).set slot (some (.int i))) H1 te m (P i))
    (q : ∀ H' D xs ds, H D = none → Keeps (one a) H H' → Rn (plusA S D) a (n + (m1 + N * m)) H' → H' D = some (.lst xs) → DfAll K (hid (plusA S D) H') xs ds → ds.length = N → (∀ i e, ds[i]? = some e → P i e) → u E (σ.set i (some (.ref D))) H') :
    tSeq (tAsg (tLc (iRng1 tr) (gName slot) tYes te vs) (gName i)) u E σ H := by
  show tLc (iRng1 tr) (gName slot) tYes te vs σ H (fun v H' => u E (σ.set i (some v)) H')
  refine hn H n _ Keeps.rfl r (by omega) fun H1 xs ds k1 r1 hd e => ?_
  subst e
  obtain ⟨x, _, rfl, h1, h2⟩ := DfAll.c hd
  obtain rfl := DfAll.n h2
  cases h1
  refine ⟨N, rfl, by omega, by omega, ?_⟩
  rw [Int.toNat_natCast]
  refine lc_evF (K := K) (Q := fun v H' => u E (σ.set i (some v)) H') (S := S) (a := a) (m := m) (n := n + m1) (P := P) (X := fun i x => x = .int (0 + (i : Int))) (walk_range (lo := 0) (n := N)) rfl hw r1 (by omega) few (fun _ _ _ _ => trivial) (fun D hD i x hi hx => ?_) (fun H' D xs ds hD kk rr e1 e2 el hp => q H' D xs ds ?_ (k1.trans kk) (by rw [← Nat.add_assoc]; exact rr) e1 e2 el hp)
  · rw [hx, Int.zero_add]
    exact he D _ (Same.trans (keeps_one r.sa k1) (hid_new hD)) i hi
  · cases hz : H D with
    | none => rfl
    | some o =>
      by_cases ha : one a D = false
      · rw [k1.at ha hz] at hD
        cases hD
      · have : a = some D := by
          by_cases h : a = some D
          · exact h
          · exact absurd (one_no h) ha
        obtain ⟨_, _, _, e, _⟩ := r1.src D this
        rw [hD] at e
        cases e
/-- s[i] of a text -/
theorem ev_ixS (ha : Ev K S a σ H0 ta m1 P1) (hb : Ev K S a σ H0 tb m2 P2) (h : ∀ d e, P1 d → P2 e → ∃ z i c, d = .str z ∧ e = .int i ∧ z.length ≤ 1000000 ∧ atI z.cps.toList i = some c ∧ P (.str ⟨#[c]⟩)) : Ev K S a σ H0 (tOp rIxS ta tb) (m1 + m2) P :=
  ev_op ha hb fun H x y d e Q t hd he q1 q2 q => by
    obtain ⟨z, i, c, rfl, rfl, few, hc, pe⟩ := h d e q1 q2
    cases hd
    cases he
    exact ⟨z, i, c, rfl, rfl, Nat.le_trans few line20, hc, q H _ _ (Same.refl H) (.str _) pe⟩
theorem ev_eqIx {q1 q2 : Int → Prop} (ha : Ev K S a σ H0 ta m1 fun d => ∃ i, d = .int i ∧ q1 i) (hb : Ev K S a σ H0 tb m2 fun d => ∃ i, d = .int i ∧ q2 i) (p : ∀ i j, q1 i → q2 j → P (.bool (decide (i = j)))) : Ev K S a σ H0 (tOp rEq ta tb) (m1 + m2) P :=
  ev_op ha hb fun H x y d e Q t hd he ⟨i, e1, h1⟩ ⟨j, e2, h2⟩ q => by
    subst e1 e2
    cases hd
    cases he
    refine ⟨rfl, ?_⟩
    have e : decide (V.int i = V.int j) = decide (i = j) := by rw [decide_eq_decide]; exact ⟨fun z => V.int.inj z, fun z => by rw [z]⟩
    rw [e]
    exact q H _ _ (Same.refl H) (.bl _) (p i j h1 h2)
theorem dp_strs {H : Hp} : ∀ {bs : List Str} {vs : List V}, DfAll K H vs (bs.map PyData.str) → vs = bs.map V.str
  | [], vs, h => DfAll.n h
  | b :: bs, vs, h => by
    obtain ⟨x, ws, rfl, h1, h2⟩ := DfAll.c h
    cases h1
    rw [dp_strs h2]
    rfl
/-- names.count(name) -/
theorem ev_cntS {ys : List Str} (ha : Ev K S a σ H0 ta m1 (· = .list (ys.map PyData.str))) (hb : EvA K S a σ H0 tr m2 R) (h : ∀ ds, R ds → ∃ k : Str, ds = [.str k] ∧ P (.int (ys.count k : Nat))) : Ev K S a σ H0 (tBM K "list" (rCntS K) ta tr) (m1 + m2) P := by
  intro H n Q k r b q
  refine ha H n _ k r (by omega) fun H1 x d k1 r1 hd q1 => ?_
  subst q1
  obtain ⟨y, vs, rfl, hL, hv⟩ := Df.lst_inv hd
  obtain rfl := dp_strs hv
  refine ⟨.inl ⟨rfl, _, Same.seq hid_same hL⟩, ?_⟩
  refine hb H1 (n + m1) _ (k.trans (keeps_one r.sa k1)) r1 (by omega) fun H2 xs ds k2 r2 hd2 q2 => ?_
  obtain ⟨k, rfl, pk⟩ := h ds q2
  obtain ⟨x, _, rfl, h1, h2⟩ := DfAll.c hd2
  obtain rfl := DfAll.n h2
  cases h1
  refine ⟨y, ys, k, rfl, rfl, Same.seq (Same.trans (keeps_one r.sa k2) hid_same) hL, q H2 _ _ (k1.trans k2) (by rw [← Nat.add_assoc]; exact r2) (.int _) pk⟩
/-- tuple(l) -/
theorem ev_tupL (h : EvA K S a σ H0 tr m R) (p : ∀ ds, R ds → ∃ es, ds = [.list es] ∧ P (.tuple es)) : Ev K S a σ H0 (tCB (rTupQ K) tr) m P :=
  ev_cb h fun H xs ds Q t hd pd q => by
    obtain ⟨es, rfl, pe⟩ := p ds pd
    obtain ⟨x, _, rfl, h1, h2⟩ := DfAll.c hd
    obtain rfl := DfAll.n h2
    obtain ⟨b, vs, rfl, hL, hv⟩ := Df.lst_inv h1
    exact ⟨b, vs, rfl, .inl ⟨Same.seq hid_same hL, fun l o nl ho => q _ _ _ (same_new nl) (Df.newT hv nl (t.new nl) ho) pe⟩⟩
/-- l[i:j] -/
theorem ev_cutL (h : Ev K S a σ H0 te m1 P1) (hl : EvO K S a σ H0 tl m2 p1) (hh : EvO K S a σ H0 th m3 p2) (p : ∀ d lo hi, P1 d → p1 lo → p2 hi → ∃ ds, d = .list ds ∧ P (.list (cutD ds lo hi))) :
    Ev K S a σ H0 (tSl (rSlL K) te tl th) (m1 + m2 + m3) P := by
  intro H n Q k r b q
  refine h H n _ k r (by omega) fun H1 x d k1 r1 hd q1 => ?_
  refine hl H1 (n + m1) _ (k.trans (keeps_one r.sa k1)) r1 (by omega) fun H2 lo k2 r2 q2 => ?_
  refine hh H2 (n + m1 + m2) _ ((k.trans (keeps_one r.sa k1)).trans (keeps_one r.sa k2)) r2 (by omega) fun H3 hi k3 r3 q3 => ?_
  obtain ⟨ds, rfl, pd⟩ := p d lo hi q1 q2 q3
  have hd3 := Df.keep hd ((keeps_one r.sa k2).trans (keeps_one r.sa k3))
  obtain ⟨y, vs, rfl, hT, hv⟩ := Df.lst_inv hd3
  have el := DfAll.len hv
  have r4 : Rn S a (n + (m1 + m2 + m3)) H3 := by
    rw [show n + (m1 + m2 + m3) = n + m1 + m2 + m3 by omega]
    exact r3
  refine ⟨y, vs, rfl, Same.seq hid_same hT, fun z nz => ?_⟩
  have e : DfAll K (hid S H3) (cutV vs lo hi) (cutD ds lo hi) := by
    unfold cutV cutD
    rw [el]
    exact DfAll.take _ (DfAll.drop _ hv)
  exact q _ _ _ ((k1.trans (k2.trans k3)).trans (Keeps.new nz)) (r4.same (same_new nz)) (Df.newL e nz (r4.th.new nz)) pd
theorem nodup_cnt (l : List Str) : l.all (fun x => decide (((l.count x : Nat) : Int) = 1)) = decide l.Nodup := by
  rw [Bool.eq_iff_iff, List.all_eq_true, decide_eq_true_iff, List.nodup_iff_count]
  constructor
  · intro h x
    by_cases hx : x ∈ l
    · have := of_decide_eq_true (h x hx)
      omega
    · rw [List.count_eq_zero.mpr hx]
      exact Nat.zero_le _
  · intro h x hx
    have h1 := List.count_pos_iff.mpr hx
    have h2 := h x
    exact decide_eq_true (by omega)
theorem if_ev {t u : TS} {D : Ends} {n : Nat} {H : Hp} (r : Rn S a n H) (b : n + m ≤ most) (h : Ev K S a σ H te m (fun d => ∃ b, d = .bool b)) (q : ∀ (b : Bool) H1, Keeps (one a) H H1 → Rn S a (n + m) H1 → if b = true then t D σ H1 else u D σ H1) : tIfS (tTest te) t u D σ H := by
  refine ev_go r b h fun H1 v d k1 r1 hd ⟨c, e⟩ => ?_
  subst e
  cases hd
  exact ⟨c, rfl, q c H1 k1 r1⟩
theorem wtAll_cap {c : Nat} : ∀ {ds : List PyData}, (∀ e ∈ ds, wt e ≤ c) → wtAll ds ≤ ds.length * (c + 4)
  | [], _ => by rw [List.length_nil, Nat.zero_mul]; exact Nat.le_refl 0
  | x :: xs, h => by
    have h1 := h x (List.mem_cons_self ..)
    have h2 := wtAll_cap fun e he => h e (List.mem_cons_of_mem _ he)
    show wt x + 4 + wtAll xs ≤ (xs.length + 1) * (c + 4)
    rw [Nat.succ_mul]
    omega
theorem mem_cutD {ds : List PyData} {lo hi : Option Int} {e : PyData} (h : e ∈ cutD ds lo hi) : e ∈ ds := List.mem_of_mem_drop (List.mem_of_mem_take h)
theorem len_cutD (ds : List PyData) (lo hi : Option Int) : (cutD ds lo hi).length ≤ ds.length := by
  unfold cutD
  rw [List.length_take, List.length_drop]
  omega
theorem DfAll.set {H : Hp} {v : V} {d : PyData} (hd : Df K H v d) : ∀ {vs : List V} {ds : List PyData} (j : Nat), DfAll K H vs ds → DfAll K H (vs.set j v) (ds.set j d)
  | [], ds, j, h => by cases h; exact .nil
  | w :: vs, ds, j, h => by
    cases h with
    | cons h1 h2 =>
      cases j with
      | zero => exact .cons hd h2
      | succ j => exact .cons h1 (DfAll.set hd j h2)
end
theorem sl_listK {X : Cx} {K : PySem.W.Frag} (h : X.K = K) : SlR X (rSlL K) := h ▸ sl_list
theorem call_tupK {X : Cx} {K : PySem.W.Frag} (h : X.K = K) : CallR X (.type "tuple") (rTupQ K) := call_tupF h
end DD

namespace DD
open PySem PySem.Spec PyProof.Rows L2
/-! ### a text of letters; two names at once; lists that are filled and emptied -/
theorem join_codes : ∀ cs : List Nat, (PySem.Str.join "" (cs.map fun c => (⟨#[c]⟩ : Str))).cps.toList = cs
  | [] => rfl
  | [c] => rfl
  | c :: d :: r => by
    have ih := join_codes (d :: r)
    show ((⟨#[c]⟩ : Str) ++ "" ++ PySem.Str.join "" ((d :: r).map fun c => (⟨#[c]⟩ : Str))).cps.toList = _
    generalize PySem.Str.join "" ((d :: r).map fun c => (⟨#[c]⟩ : Str)) = z at ih
    show ((#[c] ++ (Str.ofString "").cps) ++ z.cps).toList = _
    rw [Array.toList_append, Array.toList_append, ih]
    rfl
section
variable {K : PySem.W.Frag} {S : Addr → Bool} {a : Option Addr} {σ : L2.St} {H0 : Hp} {te ta tb tn : TE} {tr : TA} {m m1 m2 m3 : Nat} {P P1 P2 : PyData → Prop} {R R1 : List PyData → Prop}
def rJoinQ (K : PySem.W.Frag) : V → List V → Hp → VK → Prop := fun x xs H Q => ∃ a p, ∃ ys : List Str, x = .str a ∧ xs = [.ref p] ∧ (SqL K H p (ys.map V.str) ∨ SqT K H p (ys.map V.str)) ∧ (ys.map (·.length)).sum + ys.length * a.length ≤ 16777216 ∧ Q (.str (Txt.join a ys)) H
theorem sum_ones : ∀ cs : List Nat, ((cs.map fun c => (⟨#[c]⟩ : Str)).map (·.length)).sum = cs.length
  | [] => rfl
  | c :: r => by
    show 1 + ((r.map fun c => (⟨#[c]⟩ : Str)).map (·.length)).sum = _
    rw [sum_ones r, List.length_cons]
    omega
/-- ''.join(letters) -/
theorem ev_join (hb : Ev K S a σ H0 te m P2) (h : ∀ d, P2 d → ∃ cs : List Nat, d = .list ((cs.map fun c => (⟨#[c]⟩ : Str)).map PyData.str) ∧ cs.length ≤ 1000 ∧ ∀ s : Str, s.cps.toList = cs → P (.str s)) : Ev K S a σ H0 (tM1 (rJoinQ K) (tC (.str "")) te) m P := by
  intro H n Q k r b q
  refine ⟨⟨_, rfl⟩, hb H n _ k r b fun H1 x d k1 r1 hd q1 => ?_⟩
  obtain ⟨cs, rfl, few, pe⟩ := h d q1
  obtain ⟨y, vs, rfl, hL, hv⟩ := Df.lst_inv hd
  obtain rfl := dp_strs hv
  refine ⟨_, y, _, rfl, rfl, .inl (Same.seq hid_same hL), ?_, ?_⟩
  · rw [sum_ones, List.length_map]
    show cs.length + cs.length * 0 ≤ 16777216
    omega
  · exact q H1 _ _ k1 r1 (.str _) (pe _ (by
      show (PySem.Builtin.Str.glued _ _).cps.toList = _
      rw [StrLaws.glued_eq_join]
      exact join_codes cs))
/-- x, y = e -/
theorem ev_set2 {u : TS} {D : Ends} {n i j : Nat} {H : Hp} (R : PyData → PyData → Prop) (m : Nat) (r : Rn S a n H) (b : n + m ≤ most) (h : Ev K S a σ H te m fun d => ∃ x y, d = .tuple [x, y] ∧ R x y)
    (q : ∀ H' v w x y, Keeps (one a) H H' → Rn S a (n + m) H' → Df K (hid S H') v x → Df K (hid S H') w y → R x y → u D ((σ.set i (some v)).set j (some w)) H') : tSeq (tAsg te (gTup K 2 (gCons (gName i) (gCons (gName j) gNil)))) u D σ H := by
  refine ev_go (K := K) (Q := fun v H' => gTup K 2 (gCons (gName i) (gCons (gName j) gNil)) v σ H' fun σ' H'' => u D σ' H'') r b h fun H1 v d k1 r1 hd ⟨x, y, e, hr⟩ => ?_
  subst e
  obtain ⟨p, vs, rfl, hT, hv⟩ := Df.tup_inv hd
  obtain ⟨v1, v2, rfl, p1, p2⟩ := DfAll.two hv
  exact ⟨p, _, rfl, seqT_mono hid_same hT, rfl, v1, [v2], rfl, v2, [], rfl, rfl, q H1 v1 v2 x y k1 r1 p1 p2 hr⟩
/-- x, y, z = e -/
theorem ev_set3 {u : TS} {D : Ends} {n i j l : Nat} {H : Hp} (R : PyData → PyData → PyData → Prop) (m : Nat) (r : Rn S a n H) (b : n + m ≤ most) (h : Ev K S a σ H te m fun d => ∃ x y z, d = .tuple [x, y, z] ∧ R x y z)
    (q : ∀ H' v w t x y z, Keeps (one a) H H' → Rn S a (n + m) H' → Df K (hid S H') v x → Df K (hid S H') w y → Df K (hid S H') t z → R x y z → u D (((σ.set i (some v)).set j (some w)).set l (some t)) H') : tSeq (tAsg te (gTup K 3 (gCons (gName i) (gCons (gName j) (gCons (gName l) gNil))))) u D σ H := by
  refine ev_go (K := K) (Q := fun v H' => gTup K 3 (gCons (gName i) (gCons (gName j) (gCons (gName l) gNil))) v σ H' fun σ' H'' => u D σ' H'') r b h fun H1 v d k1 r1 hd ⟨x, y, z, e, hr⟩ => ?_
  subst e
  obtain ⟨p, vs, rfl, hT, hv⟩ := Df.tup_inv hd
  obtain ⟨v1, v2, v3, rfl, p1, p2, p3⟩ := DfAll.three hv
  exact ⟨p, _, rfl, seqT_mono hid_same hT, rfl, v1, [v2, v3], rfl, v2, [v3], rfl, v3, [], rfl, rfl, q H1 v1 v2 v3 x y z k1 r1 p1 p2 p3 hr⟩
theorem no_a {n : Nat} {H : Hp} {D : Addr} (r : Rn S a n H) (hD : H D = none) : a ≠ some D := fun z => by
  obtain ⟨_, _, _, e, _⟩ := r.src D z
  rw [hD] at e
  cases e
theorem rn_upd {n : Nat} {H : Hp} {D : Addr} {o : HO} (r : Rn S a n H) (aD : a ≠ some D) : Rn S a n (upd H D o) := by
  refine ⟨r.sa, fun b hb => ?_, fun x hx => (r.src x hx).at fun o e => by rw [upd_ne (fun y => aD (by rw [hx, y]))]; exact e⟩
  by_cases e : b = D
  · rw [e, upd_same]
    exact fun z => nomatch z
  · rw [upd_ne e]
    exact r.th b hb
theorem rn_in {n : Nat} {H : Hp} {D : Addr} {o : HO} (r : Rn S a n H) (hD : H D = none) : Rn (plusA S D) a n (upd H D o) := by
  have r1 := rn_upd (o := o) r (no_a r hD)
  refine ⟨fun x e => plusA_of (r.sa x e), fun b hb => ?_, r1.src⟩
  by_cases e : b = D
  · rw [e, upd_same]
    exact fun z => nomatch z
  · refine r1.th b ?_
    unfold plusA at hb
    rw [decide_eq_false e, Bool.or_false] at hb
    exact hb
theorem rn_out {n n0 : Nat} {H Hz : Hp} {D : Addr} (r0 : Rn S a n0 Hz) (r : Rn (plusA S D) a n H) : Rn S a n H := ⟨r0.sa, fun b hb => r.th b (plusA_of hb), r.src⟩
theorem keeps_upd {H H' : Hp} {D : Addr} {o : HO} {U : Addr → Bool} (k : Keeps U H H') (hD : H D = none) : Keeps U H (upd H' D o) := Keeps.of fun b x hb e => by
  have z := k.at hb e
  rw [upd_ne (ne_of_none e hD)]
  exact z
theorem same_plus {H H' : Hp} {D : Addr} (k : Keeps S H H') (hD : H D = none) : Same (hid S H) (hid (plusA S D) H') := fun b o e => by
  obtain ⟨hS, e'⟩ := hid_some e
  have hb : b ≠ D := ne_of_none e' hD
  rw [hid_at (plusA_no hS hb)]
  exact k.at hS e'
theorem pop_perm {α : Type} : ∀ (l : List α) (i : Nat) (x : α), l[i]? = some x → (x :: l.eraseIdx i).Perm l
  | [], i, x, h => by simp at h
  | y :: ys, 0, x, h => by
    cases h
    exact List.Perm.refl _
  | y :: ys, i + 1, x, h => (List.Perm.swap y x _).trans ((pop_perm ys i x h).cons y)
theorem dp_ofStrs {H : Hp} : ∀ {bs : List Str}, DfAll K H (bs.map V.str) (bs.map PyData.str)
  | [] => .nil
  | b :: bs => .cons (.str b) dp_ofStrs
theorem ev_goA {Q : List V → Hp → Prop} {n : Nat} {H : Hp} (r : Rn S a n H) (b : n + m ≤ most) (h : EvA K S a σ H tr m R) (q : ∀ H' vs ds, Keeps (one a) H H' → Rn S a (n + m) H' → DfAll K (hid S H') vs ds → R ds → Q vs H') : tr σ H Q := h H n Q Keeps.rfl r b q
/-- for x in range(e): .. -/
theorem ev_forR {tb : TS} {D : Ends} {n i : Nat} {H : Hp} (Pc : Int → Prop) (m : Nat) (r : Rn S a n H) (b : n + m ≤ most) (h : Ev K S a σ H te m fun d => ∃ c : Int, d = .int c ∧ Pc c ∧ 0 ≤ c ∧ c ≤ 100000)
    (q : ∀ (c : Nat) H1, Pc c → Keeps (one a) H H1 → Rn S a (n + m) H1 → ∃ Pv : Nat → L2.St → Hp → Prop, Pv 0 σ H1 ∧ (∀ j σ' H', j < c → Pv j σ' H' → tb { D with nx := Pv (j + 1), ct := Pv (j + 1), bk := D.nx } (σ'.set i (some (.int (0 + (j : Int))))) H') ∧ ∀ σ' H', Pv c σ' H' → D.nx σ' H') :
    tFor (iRng1 (tCons te tNil)) (gName i) tb D σ H := by
  show te σ H _
  refine ev_go r b h fun H1 v d k1 r1 hd ⟨c, e, pc, c0, c1⟩ => ?_
  subst e
  cases hd
  obtain ⟨N, rfl⟩ : ∃ N : Nat, c = N := ⟨c.toNat, by omega⟩
  obtain ⟨Pv, h0, hs, he⟩ := q N H1 pc k1 r1
  refine ⟨N, rfl, by omega, by omega, ?_⟩
  rw [Int.toNat_natCast]
  exact for_range Pv h0 hs he
/-- l.append(e): l a list that stands apart -/
theorem ev_append {D : Ends} {n i : Nat} {H : Hp} {L : Addr} {xs : List V} (hs : σ[i]? = some (some (.ref L))) (eL : H L = some (.lst xs)) (aL : a ≠ some L) (few : xs.length ≤ 100000) (m : Nat) (r : Rn S a n H) (b : n + m ≤ most) (h : Ev K S a σ H te m P)
    (q : ∀ H' v d, Keeps (one a) H H' → Rn S a (n + m) (upd H' L (.lst (xs ++ [v]))) → H' L = some (.lst xs) → Df K (hid S H') v d → P d → D.nx σ (upd H' L (.lst (xs ++ [v])))) :
    tDrop (tBM K "list" rAppend (tVar i) (tCons te tNil)) D σ H := by
  refine ⟨.ref L, hs, .inl ⟨rfl, _, SqL.of eL⟩, ?_⟩
  show te σ H _
  refine ev_go r b h fun H1 v d k1 r1 hd p => ?_
  have e1 : H1 L = some (.lst xs) := k1.at (one_no aL) eL
  exact ⟨L, xs, v, rfl, rfl, e1, Nat.lt_of_lt_of_le (by omega : xs.length < 1000000) line20, q H1 v d k1 (rn_upd r1 aL) e1 hd p⟩
end
end DD

namespace DD
open PySem PySem.Spec PyProof.Rows L2
/-! ### for x, y in pairs -/
section
variable {K : PySem.W.Frag} {S : Addr → Bool} {a : Option Addr} {σ : L2.St} {H0 : Hp} {te ta tb tn : TE} {tr : TA} {m m1 m2 : Nat} {P1 P2 : PyData → Prop} {R R1 : List PyData → Prop}
theorem lc_evP {J : It} {N : Nat} {G : Hp → Prop} {X : Nat → V → Prop} (w : Walk J N G (fun i H x H' => H' = H ∧ X i x)) {g : TG} {vs : List Nat} {si sj : Nat} {H1 : Hp} {n : Nat} {P : Nat → PyData → Prop} {Q : VK}
    (hg : g = gTup K 2 (gCons (gName si) (gCons (gName sj) gNil))) (hw : ∀ x y, wipe (((wipe σ vs).set si (some x)).set sj (some y)) vs = wipe σ vs) (r : Rn S a n H1) (b : n + N * m ≤ most) (few : N ≤ 100000)
    (hG : ∀ D H', Keeps S H1 H' ∨ Keeps (plusA S D) (upd H1 D (.lst [])) H' → H1 D = none → G H')
    (he : ∀ D, H1 D = none → ∀ i x, i < N → X i x → ∃ p v1 v2, x = .ref p ∧ SqT K (hid (plusA S D) (upd H1 D (.lst []))) p [v1, v2] ∧ Ev K (plusA S D) a (((wipe σ vs).set si (some v1)).set sj (some v2)) (upd H1 D (.lst [])) te m (P i))
    (q : ∀ H' D ds, Keeps (one a) H1 H' → Rn S a (n + N * m) H' → Df K (hid S H') (.ref D) (.list ds) → ds.length = N → (∀ i e, ds[i]? = some e → P i e) → Q (.ref D) H') :
    ∀ D, H1 D = none → ∃ W : Nat → Nat → Hp → Prop, (∃ m, W 0 m (upd H1 D (.lst []))) ∧ ∀ i m H, W i m H →
      (J.stop i H ∧ Q (.ref D) H) ∨ (J.go i H ∧ ∃ Nx : Hp → Prop, (∀ H', Nx H' → ∃ m', m' < m ∧ W (i + 1) m' H') ∧ ∀ x H', J.yld i H x H' → g x (wipe σ vs) H' fun σ2 H2 => wipe σ2 vs = wipe σ vs ∧ tYes σ2 H2 fun b H3 =>
        if b = true then te σ2 H3 fun y H4 => ∃ acc, H4 D = some (.lst acc) ∧ acc.length < sizeLine ∧ Nx (upd H4 D (.lst (acc ++ [y]))) else Nx H3) := by
  intro D hD
  subst hg
  have aD : a ≠ some D := fun z => by
    obtain ⟨_, _, _, e, _⟩ := r.src D z
    rw [hD] at e
    cases e
  have sD : S D = false := r.th.new hD
  have r0 : Rn (plusA S D) a n (upd H1 D (.lst [])) := by
    refine ⟨fun x e => plusA_of (r.sa x e), fun b hb => ?_, fun x e => (r.src x e).at (same_new hD x)⟩
    by_cases e : b = D
    · rw [e, upd_same]
      exact fun z => nomatch z
    · rw [upd_ne e]
      refine r.th b ?_
      unfold plusA at hb
      rw [decide_eq_false e, Bool.or_false] at hb
      exact hb
  refine lc_it w (fun i H => ∃ (xs : List V) (ds : List PyData), H D = some (.lst xs) ∧ DfAll K (hid (plusA S D) H) xs ds ∧ ds.length = i ∧ (∀ j e, ds[j]? = some e → P j e) ∧
      Keeps (fun b => one a b || decide (b = D)) (upd H1 D (.lst [])) H ∧ Rn (plusA S D) a (n + i * m) H) ?_ ?_ ?_ ?_
  · exact ⟨[], [], upd_same, .nil, rfl, fun j e h => by simp at h, Keeps.rfl, by rw [Nat.zero_mul]; exact r0⟩
  · rintro i H hi ⟨xs, ds, e1, e2, e3, e4, kp, rr⟩
    refine hG D H (.inr (Keeps.of fun b o hb e => kp.at ?_ e)) hD
    have z := plusA_back hb
    have na : a ≠ some b := fun y => by rw [r.sa b y] at z; exact nomatch z.1
    show (one a b || decide (b = D)) = false
    rw [one_no na, decide_eq_false z.2]
    rfl
  · rintro i x H H' hi ⟨xs, ds, e1, e2, e3, e4, kp, rr⟩ ⟨rfl, hx⟩
    have kS : Keeps (plusA S D) (upd H1 D (.lst [])) H' := Keeps.of fun b o hb e => kp.at (by
      have z := plusA_back hb
      have na : a ≠ some b := fun y => by rw [r.sa b y] at z; exact nomatch z.1
      show (one a b || decide (b = D)) = false
      rw [one_no na, decide_eq_false z.2]
      rfl) e
    have bound : n + i * m + m ≤ n + N * m := by
      have := Nat.mul_le_mul_right m (show i + 1 ≤ N from hi)
      rw [Nat.succ_mul] at this
      omega
    obtain ⟨p, v1, v2, rfl, hT, he'⟩ := he D hD i x hi hx
    refine ⟨p, _, rfl, seqT_mono (Same.trans kS hid_same) hT, rfl, v1, [v2], rfl, v2, [], rfl, rfl, hw v1 v2, ?_⟩
    dsimp only [tYes]
    rw [if_pos rfl]
    refine he' H' (n + i * m) _ kS rr (Nat.le_trans bound b) fun H2 v d k2 r2 hd pd => ?_
    have eD : H2 D = some (.lst xs) := k2.at (one_no aD) e1
    have el := DfAll.len e2
    refine ⟨xs, eD, Nat.lt_of_lt_of_le (by omega : xs.length < 1000000) line20, xs ++ [v], ds ++ [d], upd_same, ?_, ?_, ?_, ?_, ?_⟩
    · rw [hid_upd (plusA_self S D)]
      exact DfAll.app (DfAll.keep e2 (keeps_one rr.sa k2)) (.cons hd .nil)
    · rw [List.length_append, e3]
      rfl
    · intro j e hj
      by_cases h : j < ds.length
      · rw [List.getElem?_append_left h] at hj
        exact e4 j e hj
      · rw [List.getElem?_append_right (by omega)] at hj
        have hj0 : j - ds.length = 0 := by
          cases hz : j - ds.length with
          | zero => rfl
          | succ z => rw [hz] at hj; simp at hj
        rw [hj0] at hj
        cases hj
        have : j = i := by omega
        subst this
        exact pd
    · refine Keeps.of fun b o hb e => ?_
      have z := kp.at hb e
      have hb' : one a b = false ∧ decide (b = D) = false := Bool.or_eq_false_iff.mp hb
      rw [upd_ne (of_decide_eq_false hb'.2)]
      exact k2.at hb'.1 z
    · rw [Nat.succ_mul, ← Nat.add_assoc]
      refine ⟨r2.sa, fun b hb => ?_, ?_⟩
      · by_cases e : b = D
        · rw [e, upd_same]
          exact fun z => nomatch z
        · rw [upd_ne e]
          exact r2.th b hb
      · exact fun x hx => (r2.src x hx).at fun o e => by rw [upd_ne (fun y => aD (by rw [hx, y]))]; exact e
  · rintro H ⟨xs, ds, e1, e2, e3, e4, kp, rr⟩
    refine q H D ds (Keeps.of fun b o hb e => ?_) ⟨r.sa, fun b hb => rr.th b (plusA_of hb), rr.src⟩ ?_ e3 e4
    · have nD : b ≠ D := ne_of_none e hD
      refine kp.at ?_ (by rw [upd_ne nD]; exact e)
      show (one a b || decide (b = D)) = false
      rw [hb, decide_eq_false nD]
      rfl
    · exact .lst (.inl (.inl (by rw [hid_at sD]; exact e1))) (DfAll.to e2 hid_plus)
theorem ev_lcTP {vs : List Nat} {si sj : Nat} {es : List PyData} {P : Nat → PyData → Prop} {Z : PyData → Prop} (hn : Ev K S a σ H0 tn m1 (· = .tuple es)) (hw : ∀ x y, wipe (((wipe σ vs).set si (some x)).set sj (some y)) vs = wipe σ vs) (few : es.length ≤ 100000) (hes : ∀ e ∈ es, ∃ p q, e = .tuple [p, q])
    (he : ∀ D H1, Same (hid S H0) (hid (plusA S D) H1) → ∀ (i : Nat) (x y : V) (p q : PyData), es[i]? = some (.tuple [p, q]) → Df K (hid (plusA S D) H1) x p → Df K (hid (plusA S D) H1) y q → Ev K (plusA S D) a (((wipe σ vs).set si (some x)).set sj (some y)) H1 te m (P i)) (hz : ∀ ds, ds.length = es.length → (∀ i e, ds[i]? = some e → P i e) → Z (.list ds)) :
    Ev K S a σ H0 (tLc (iTup K tn) (gTup K 2 (gCons (gName si) (gCons (gName sj) gNil))) tYes te vs) (m1 + es.length * m) Z := by
  intro H n Q k r b q
  refine hn H n _ k r (by omega) fun H1 x d k1 r1 hd e => ?_
  subst e
  obtain ⟨L, xs, rfl, hL, hxs⟩ := Df.tup_inv hd
  have el := DfAll.len hxs
  refine ⟨L, rfl, ⟨xs, seqT_mono hid_same hL⟩, ?_⟩
  rw [← el] at b few hz q
  refine lc_evP (K := K) (S := S) (a := a) (m := m) (n := n + m1) (P := P) (X := fun i x => xs[i]? = some x) (walk_tup (K := K) (a := L) (xs := xs)) rfl hw r1 (by omega) few (fun D H' kk hD => sqT_keep hL hD kk) (fun D hD i x hi hx => ?_) (fun H' D ds kk rr hd el hp => q H' _ _ (k1.trans kk) (by rw [← Nat.add_assoc]; exact rr) hd (hz ds el hp))
  obtain ⟨e, he1, he2⟩ := DfAll.get hxs hx
  obtain ⟨p, q, rfl⟩ := hes e (List.mem_of_getElem? he1)
  obtain ⟨b, ws, rfl, hT, hws⟩ := Df.tup_inv (Df.to he2 (hid_new (o := .lst []) hD))
  obtain ⟨v1, v2, rfl, p1, p2⟩ := DfAll.two hws
  exact ⟨b, v1, v2, rfl, hT, he D _ (Same.trans (k.trans (keeps_one r.sa k1)) (hid_new hD)) i v1 v2 p q he1 p1 p2⟩
/-- x and y, of truth values -/
theorem ev_and {x y : Bool} {P : PyData → Prop} (h1 : Ev K S a σ H0 ta m1 (· = .bool x)) (h2 : Ev K S a σ H0 tb m2 (· = .bool y)) (p : P (.bool (x && y))) : Ev K S a σ H0 (tAndV ta tb) (m1 + m2) P := by
  intro H n Q k r b q
  refine h1 H n _ k r (by omega) fun H1 v d k1 r1 hd e => ?_
  subst e
  cases hd
  cases x with
  | true =>
    refine ⟨true, rfl, iteT ?_⟩
    refine h2 H1 (n + m1) _ (k.trans (keeps_one r.sa k1)) r1 (by omega) fun H2 v d k2 r2 hd e => ?_
    subst e
    exact q H2 v _ (k1.trans k2) (by rw [← Nat.add_assoc]; exact r2) hd p
  | false => exact ⟨false, rfl, iteF (q H1 _ _ k1 (r1.up (by omega)) (.bl false) p)⟩
theorem ev_eqS {P : PyData → Prop} {x y : Str} (ha : Ev K S a σ H0 ta m1 (· = .str x)) (hb : Ev K S a σ H0 tb m2 (· = .str y)) (p : P (.bool (decide (x = y)))) : Ev K S a σ H0 (tOp rEq ta tb) (m1 + m2) P :=
  ev_op ha hb fun H v w d e Q t hd he e1 e2 q => by
    subst e1 e2
    cases hd
    cases he
    refine ⟨rfl, ?_⟩
    have e : decide (V.str x = V.str y) = decide (x = y) := by rw [decide_eq_decide]; exact ⟨fun z => V.str.inj z, fun z => by rw [z]⟩
    rw [e]
    exact q H _ _ (Same.refl H) (.bl _) p
theorem ev_leI {P : PyData → Prop} {x y : Int} (ha : Ev K S a σ H0 ta m1 (· = .int x)) (hb : Ev K S a σ H0 tb m2 (· = .int y)) (p : P (.bool (decide (x ≤ y)))) : Ev K S a σ H0 (tOp (rI0 fun i j => .bl (decide (i ≤ j))) ta tb) (m1 + m2) P :=
  ev_op ha hb fun H v w d e Q t hd he e1 e2 q => by
    subst e1 e2
    cases hd
    cases he
    exact ⟨x, y, rfl, rfl, q H _ _ (Same.refl H) (.bl _) p⟩
end
end DD

namespace DD
open PySem PySem.Spec PyProof.Rows L2
/-! ### a, b, c, *rest = a tuple -/
section
variable {prog : Program} {w : World} {A : Around} {E : Value → Shared → Prop} {s : Shared}
theorem star_items {l : Addr} {items : Array Value} {i : Nat} {Q : List Value → Shared → Prop} (hl : IsTup s.heap l items) (hh : A.handled = none) (hi : i ≤ items.size) (hz : items.size ≤ sizeLine)
    (h : ∀ h' tk, Heap.ExtBut s.heap.objs.size s.heap h' → Q (items.toList.take i ++ [.ref h'.objs.size]) { s with heap := h'.push { cls := .type "list", data := .seq (items.toList.drop i).toArray }, toks := tk }) : wpAny (model prog w) A (unpackItems (.ref l) (i + 1) (some i)) Q E s := by
  have hlt : l ≠ s.heap.objs.size := by obtain ⟨o, ho, _⟩ := hl; exact Nat.ne_of_lt (Heap.lt_size ho)
  unfold unpackItems
  refine wpAny_bind ?_
  unfold notIterableAtAll
  refine wpAny_bind (wpAny_specialOf hl.typeIs slot_tuple_iter.lookup ?_)
  refine wpAny_pure ?_
  simp only [Bool.false_eq_true, if_false]
  refine wpAny_bind (wpAny_holding (iter_tuple hl ?_))
  refine wpAny_bind (wpAny_holding (draw_tuple hlt i 0 _ _ ⟨_, Heap.get?_push_size _ rfl, rfl, rfl⟩ (hl.push _) (by omega) fun h₁ hit₁ hs₁ => ?_))
  have hl₁ : IsTup h₁ l items := (hl.push _).extBut hs₁.extBut hlt
  rw [Nat.zero_add] at hit₁
  have hit₁' := hit₁
  obtain ⟨oi, hoi, _⟩ := hit₁'
  have hl₁' := hl₁
  obtain ⟨ol, hol, _⟩ := hl₁'
  rw [List.drop_zero]
  have hfl : (items.toList.take i).length = i := by rw [List.length_take, Array.length_toList]; omega
  rw [if_neg (show ¬ ((items.toList.take i).length < i) by rw [hfl]; omega)]
  refine wpAny_bind (wpAny_holding (PySem.W.kun_collect (s := { s with heap := h₁ }) (T := "tuple_iterator") (.inr (.inr (.inr rfl))) (Walks.tuple (A := A.in1) hh s.heap.objs.size l hlt items) (fun j u st => st.1.typeIs) (k := i) (by omega) ⟨hit₁, hl₁⟩ (Heap.lt_size hoi) (Heap.lt_size hol) (fun h₂ tk hk => ?_) hz))
  have hrl : (items.toList.drop i).length = items.size - i := by rw [List.length_drop, Array.length_toList]
  have hmid : (items.toList.drop i).length - (i + 1 - 1 - i) = (items.toList.drop i).length := by omega
  show wpAny _ _ (if (items.toList.drop i).length < i + 1 - 1 - i then _ else _) _ _ _
  rw [if_neg (by omega)]
  show wpAny _ _ (newList ((items.toList.drop i).take ((items.toList.drop i).length - (i + 1 - 1 - i))) >>= fun d => pure (items.toList.take i ++ [d] ++ (items.toList.drop i).drop ((items.toList.drop i).length - (i + 1 - 1 - i)))) _ _ _
  rw [hmid, List.take_length, List.drop_length]
  have he : Heap.ExtBut s.heap.objs.size s.heap h₂ := fun b o hb e => hk b o hb (hs₁.extBut b o hb (Heap.get?_push_of_some _ e))
  refine wpAny_bind (wpAny_newList ?_ ?_)
  · refine wpAny_pure ?_
    rw [List.append_nil]
    exact h h₂ tk he
  all_goals first | (rw [hrl]; omega) | skip
end
section
variable {X : Cx}
/-- (a, .., *rest) = a tuple of i or more -/
def gStar (K : PySem.W.Frag) (i : Nat) (t : TGs) : TG := fun v σ H Q => ∃ a xs, v = .ref a ∧ SqT K H a xs ∧ i ≤ xs.length ∧ ∀ D, H D = none → t (xs.take i ++ [.ref D]) σ (upd H D (.lst (xs.drop i))) Q
theorem pgs_star {e : Expr} {es : List Expr} {p : Pos} {t : TG} {u : TGs} (h1 : PG X e t) (h2 : PGs X es u)
    (hs : (assignEach (.Starred e p :: es) X.env).map (·.2) = assign e X.env :: (assignEach es X.env).map (·.2) := by rfl) : PGs X (.Starred e p :: es) (gCons t u) := by
  refine ⟨fun pins s σ H vs us Q I r h => ?_⟩
  obtain ⟨v, vr, e1, h⟩ := h
  subst e1
  cases r with
  | cons r rr =>
    rw [hs]
    refine assignInOrder_cons (thn (h1.run pins s σ H _ _ _ I r h) fun _ s1 ⟨σ1, H1, I1, q1⟩ => ?_)
    exact h2.run pins s1 σ1 H1 _ _ Q I1 rr q1
theorem pg_star {es : List Expr} {k : Nat} {t : TGs} {i : Nat} {pos : Pos} (hc : X.calm = true) (h : PGs X es t)
    (hn : (assignEach es X.env).length = i + 1 := by rfl) (hst : (assignEach es X.env).findIdx? (·.1) = some i := by rfl) : PG X (.Tuple es k pos) (gStar X.K i t) := by
  refine ⟨fun pins s σ H v u Q I r hw => ?_⟩
  obtain ⟨a, xs, e1, hq, hl, hw⟩ := hw
  subst e1
  cases r
  obtain ⟨its, rv, ht, hz⟩ := I.tuple hq
  have hlen := rv.length
  rw [assign_Tuple]
  refine wpAny_bind (wpAny_standAt ?_)
  unfold unpack
  rw [hn, hst]
  refine wpAny_bind (wpAny_holding (star_items ht (I.ok.hd hc) (by rw [List.size_toArray]; omega) (by rw [List.size_toArray]; omega) fun h' tk hx => ?_))
  have I1 : Inv X pins σ H { s with heap := h', toks := tk } := I.kept (t' := tk) fun b o e => hx b o (Nat.ne_of_lt (Heap.lt_size e)) e
  have I2 := I1.lnew (t' := tk) (rv.drop i) (by rw [List.length_drop]; omega)
  rw [List.toList_toArray]
  exact h.run pins _ σ _ (xs.take i ++ [.ref h'.objs.size]) _ Q I2 ((rv.take i).append (.cons (show L2.RelV (V.ref h'.objs.size) (Value.ref h'.objs.size) from rfl) .nil)) (hw _ (I1.hok.fresh (Nat.le_refl _)))
end
end DD

namespace DD
open PySem PySem.Spec PyProof.Rows L2
/-! ### tests of pure defs -/
def EvB (σ : L2.St) (H0 : Hp) (tt : TT) (b : Bool) : Prop := ∀ H, Same H0 H → ∀ Q : Bool → Hp → Prop, (∀ H', Same H H' → Q b H') → tt σ H Q
section
variable {K : PySem.W.Frag} {σ : L2.St} {H0 : Hp} {te ta tb : TE} {tt t1 t2 : TT} {m m1 m2 : Nat} {b b1 b2 : Bool}
theorem ev_at {P : PyData → Prop} {H : Hp} {Q : VK} (h : Ev K noS none σ H0 te m P) (s : Same H0 H) (hm : m ≤ most) (q : ∀ H' v d, Same H H' → Df K H' v d → P d → Q v H') : te σ H Q :=
  h H 0 Q (Keeps.same s) rn_no (by rw [Nat.zero_add]; exact hm) fun H' v d k r hd p => q H' v d (keeps_no k) (no_dp hd) p
theorem evb_val (h : Ev K noS none σ H0 te m (· = .bool b)) (hm : m ≤ most := by decide) : EvB σ H0 (tB te) b := fun H s Q q => ev_at h s hm fun H' v d s' hd e => by
  subst e
  cases hd
  exact ⟨_, rfl, q H' s'⟩
theorem evb_test (h : Ev K noS none σ H0 te m (· = .bool b)) (hm : m ≤ most := by decide) : EvB σ H0 (tTest te) b := fun H s Q q => ev_at h s hm fun H' v d s' hd e => by
  subst e
  cases hd
  exact ⟨_, rfl, q H' s'⟩
theorem EvB.late {H : Hp} (h : EvB σ H0 tt b) (s : Same H0 H) : EvB σ H tt b := fun H1 s1 Q q => h H1 (s.trans s1) Q q
theorem evb_not (h : EvB σ H0 tt b) : EvB σ H0 (tNot tt) (!b) := fun H s Q q => h H s _ fun H' s' => by
  cases b with
  | true => exact q H' s'
  | false => exact q H' s'
theorem evb_or (h1 : EvB σ H0 t1 b1) (h2 : b1 = false → EvB σ H0 t2 b2) : EvB σ H0 (tOr t1 t2) (b1 || b2) := fun H s Q q => h1 H s _ fun H1 s1 => by
  cases b1 with
  | true => exact iteT (q H1 s1)
  | false => exact iteF (h2 rfl H1 (s.trans s1) _ fun H2 s2 => q H2 (s1.trans s2))
theorem if_b {t u : TS} {D : Ends} (h : EvB σ H0 tt b) (qT : b = true → ∀ H', Same H0 H' → t D σ H') (qF : b = false → ∀ H', Same H0 H' → u D σ H') : tIfS tt t u D σ H0 := h H0 (Same.refl _) _ fun H' s => by
  cases b with
  | true => exact iteT (qT rfl H' s)
  | false => exact iteF (qF rfl H' s)
section
variable {S : Addr → Bool} {a : Option Addr}
/-- x and y: the second only where the first is true -/
theorem ev_andC {x y : Bool} (h1 : Ev K S a σ H0 ta m1 (· = .bool x)) (h2 : x = true → Ev K S a σ H0 tb m2 (· = .bool y)) : Ev K S a σ H0 (tAndV ta tb) (m1 + m2) (· = .bool (x && y)) := by
  intro H n Q k r b q
  refine h1 H n _ k r (by omega) fun H1 v d k1 r1 hd e => ?_
  subst e
  cases hd
  cases x with
  | true =>
    refine ⟨true, rfl, iteT ?_⟩
    refine h2 rfl H1 (n + m1) _ (k.trans (keeps_one r.sa k1)) r1 (by omega) fun H2 v d k2 r2 hd e => ?_
    subst e
    exact q H2 v _ (k1.trans k2) (by rw [← Nat.add_assoc]; exact r2) hd rfl
  | false => exact ⟨false, rfl, iteF (q H1 _ _ k1 (r1.up (by omega)) (.bl false) rfl)⟩
theorem ev_eqD {d e : PyData} (ha : Ev K S a σ H0 ta m1 (· = d)) (hb : Ev K S a σ H0 tb m2 (· = e)) (sd : SeqAt.shaped d = true) (se : SeqAt.shaped e = true) : Ev K S a σ H0 (tOp (rEqD K) ta tb) (m1 + m2) (· = .bool (PyData.eqv d e)) :=
  ev_op ha hb fun H x y d' e' Q t hd he q1 q2 q => by
    subst q1 q2
    exact ⟨d', e', (Df.bare hd).dp, (Df.bare he).dp, sd, se, q H _ _ (Same.refl H) (.bl _) rfl⟩
theorem ev_neD {d e : PyData} (ha : Ev K S a σ H0 ta m1 (· = d)) (hb : Ev K S a σ H0 tb m2 (· = e)) (sd : SeqAt.shaped d = true) (se : SeqAt.shaped e = true) : Ev K S a σ H0 (tOp (rNeD K) ta tb) (m1 + m2) (· = .bool (!PyData.eqv d e)) :=
  ev_op ha hb fun H x y d' e' Q t hd he q1 q2 q => by
    subst q1 q2
    exact ⟨d', e', (Df.bare hd).dp, (Df.bare he).dp, sd, se, q H _ _ (Same.refl H) (.bl _) rfl⟩
end
end
end DD

namespace DD
open PySem PySem.Spec PyProof.Rows L2
/-! ### pure defs of any kind; sums, quotients, places -/
/-- a def that draws nothing and changes nothing -/
def spP (K : PySem.W.Frag) (pre : List PyData → Prop) (post : List PyData → PyData → Prop) : Sp := fun vs H Q _ => ∃ ds, DfAll K H vs ds ∧ pre ds ∧ ∀ H' v d, Same H H' → Df K H' v d → post ds d → Q v H'
theorem spP_len {K : PySem.W.Frag} {pre : List PyData → Prop} {post : List PyData → PyData → Prop} {j : Nat} (h : ∀ ds, pre ds → ds.length = j) : ∀ vs H Q E, spP K pre post vs H Q E → vs.length = j := fun vs H Q E ⟨ds, hd, hp, _⟩ => by rw [DfAll.len hd, h ds hp]
section
variable {K : PySem.W.Frag} {S : Addr → Bool} {a : Option Addr} {σ : L2.St} {H0 : Hp} {te ta tb tn : TE} {tr : TA} {m m1 m2 m3 : Nat} {P P1 P2 : PyData → Prop} {R R1 : List PyData → Prop}
/-- what stands at v outside of S stands there behind a call that keeps all -/
theorem ev_callP {pre : List PyData → Prop} {post : List PyData → PyData → Prop} {E : XK} (h : EvA K noS none σ H0 tr m R) (h1 : ∀ ds, R ds → pre ds) (h2 : ∀ ds d, R ds → post ds d → P d) : Ev K noS none σ H0 (tCall (spP K pre post) [] E tr) m P := by
  intro H n Q k r b q
  refine h H n _ k r b fun H1 vs ds k1 r1 hd pd => ?_
  rw [List.append_nil]
  exact ⟨ds, DfAll.bare hd, h1 ds pd, fun H2 v d s hv pp => q H2 v d (k1.trans (Keeps.same s)) (r1.same s) (by rw [hid_no]; exact hv) (h2 ds d pd pp)⟩
theorem dp_ints {H : Hp} : ∀ {bs : List Int} {vs : List V}, DfAll K H vs (bs.map PyData.int) → vs = bs.map V.int
  | [], vs, h => DfAll.n h
  | b :: bs, vs, h => by
    obtain ⟨x, ws, rfl, h1, h2⟩ := DfAll.c h
    cases h1
    rw [dp_ints h2]
    rfl
/-- sum(l) -/
theorem ev_sum (h : EvA K S a σ H0 tr m R) (p : ∀ ds, R ds → ∃ ns : List Int, ds = [.list (ns.map PyData.int)] ∧ P (.int ns.sum)) : Ev K S a σ H0 (tCB (rSum K) tr) m P :=
  ev_cb h fun H xs ds Q t hd pd q => by
    obtain ⟨ns, rfl, pe⟩ := p ds pd
    obtain ⟨x, _, rfl, h1, h2⟩ := DfAll.c hd
    obtain rfl := DfAll.n h2
    obtain ⟨b, vs, rfl, hL, hv⟩ := Df.lst_inv h1
    rw [dp_ints hv] at hL
    exact ⟨b, ns, rfl, Same.seq hid_same hL, q H _ _ (Same.refl H) (.int _) pe⟩
/-- divmod(i, j) -/
theorem ev_divmod (h : EvA K S a σ H0 tr m R) (p : ∀ ds, R ds → ∃ i j : Int, ds = [.int i, .int j] ∧ CDiv i j ∧ P (.tuple [.int (i / j), .int (i % j)])) : Ev K S a σ H0 (tCB rDivQ tr) m P :=
  ev_cb h fun H xs ds Q t hd pd q => by
    obtain ⟨i, j, rfl, c, pe⟩ := p ds pd
    obtain ⟨x, y, rfl, h1, h2⟩ := DfAll.two hd
    cases h1
    cases h2
    exact ⟨i, j, rfl, c, fun l o nl ho => q _ _ _ (same_new nl) (Df.newT (.cons (.int _) (.cons (.int _) .nil)) nl (t.new nl) ho) pe⟩
theorem ev_ltI {P : PyData → Prop} {x y : Int} (ha : Ev K S a σ H0 ta m1 (· = .int x)) (hb : Ev K S a σ H0 tb m2 (· = .int y)) (p : P (.bool (decide (x < y)))) : Ev K S a σ H0 (tOp (rI0 fun i j => .bl (decide (i < j))) ta tb) (m1 + m2) P :=
  ev_op ha hb fun H v w d e Q t hd he e1 e2 q => by
    subst e1 e2
    cases hd
    cases he
    exact ⟨x, y, rfl, rfl, q H _ _ (Same.refl H) (.bl _) p⟩
end
end DD

namespace DD
open PySem PySem.Spec PyProof.Rows L2
/-! ### calls of pure defs while a source is there -/
section
variable {K : PySem.W.Frag} {σ : L2.St} {H0 : Hp} {te ta tb tn : TE} {tr : TA} {m m1 m2 m3 : Nat} {P P1 P2 : PyData → Prop} {R R1 : List PyData → Prop}
theorem seqF_hid {H : Hp} {p b : Addr} {n : Nat} {vs : List V} (hs : Src H p n) (hT : SqF K H b vs) : SqF K (hid (one (some p)) H) b vs := by
  obtain ⟨g, c, t, e, _⟩ := hs
  obtain ⟨o, hd, hT | hT⟩ := hT
  · refine ⟨o, hd, .inl ?_⟩
    rw [hid_at (one_no fun z => by rw [← Option.some.inj z, e] at hT; cases hT)]
    exact hT
  · exact ⟨o, hd, .inr hT⟩
theorem date_hid {H : Hp} {p : Addr} {n : Nat} {v : V} {y i : Int} {s : Str} (hs : Src H p n) (h : Df K H v (.tuple [.int y, .str s, .int i])) : Df K (hid (one (some p)) H) v (.tuple [.int y, .str s, .int i]) := by
  obtain ⟨b, vs, rfl, hT, hv⟩ := Df.tupF_inv h
  obtain ⟨v1, v2, v3, rfl, p1, p2, p3⟩ := DfAll.three hv
  cases p1
  cases p2
  cases p3
  exact .tup (seqF_hid hs hT) (.cons (.int _) (.cons (.str _) (.cons (.int _) .nil)))
section
variable {p : Addr} {pre : List PyData → Prop} {post : List PyData → PyData → Prop} {E : XK}
theorem ev_callD (h : EvA K (one (some p)) (some p) σ H0 tr m R) (h1 : ∀ ds, R ds → pre ds) (h2 : ∀ ds d, R ds → post ds d → ∃ y s i, d = .tuple [.int y, .str s, .int i] ∧ P d) : Ev K (one (some p)) (some p) σ H0 (tCall (spP K pre post) [] E tr) m P := by
  intro H n Q k r b q
  refine h H n _ k r b fun H1 vs ds k1 r1 hd pd => ?_
  rw [List.append_nil]
  refine ⟨ds, DfAll.bare hd, h1 ds pd, fun H2 v d s hv pp => ?_⟩
  obtain ⟨y, t, i, rfl, pe⟩ := h2 ds d pd pp
  have r2 := r1.same s
  exact q H2 v _ (k1.trans (Keeps.same s)) r2 (date_hid (r2.src p rfl) hv) pe
theorem ev_callKwI {S : Addr → Bool} {a : Option Addr} {d1 d2 : PyData} (h : EvA K S a σ H0 tr m (· = [d1, d2])) (h1 : pre [d2, d1]) (h2 : ∀ d, post [d2, d1] d → ∃ i : Int, d = .int i ∧ P (.int i)) : Ev K S a σ H0 (tCallKw 2 (spP K pre post) gSwap E tr) m P := by
  intro H n Q k r b q
  refine h H n _ k r b fun H1 vs ds k1 r1 hd pd => ?_
  subst pd
  obtain ⟨x, y, rfl, hx, hy⟩ := DfAll.two hd
  refine ⟨rfl, [d2, d1], .cons (Df.bare hy) (.cons (Df.bare hx) .nil), h1, fun H2 v d s hv pp => ?_⟩
  obtain ⟨i, rfl, pi⟩ := h2 d pp
  cases hv
  exact q H2 _ _ (k1.trans (Keeps.same s)) (r1.same s) (.int i) pi
theorem ev_callKwD {d1 d2 : PyData} (h : EvA K (one (some p)) (some p) σ H0 tr m (· = [d1, d2])) (h1 : pre [d2, d1]) (h2 : ∀ d, post [d2, d1] d → ∃ y s i, d = .tuple [.int y, .str s, .int i] ∧ P d) : Ev K (one (some p)) (some p) σ H0 (tCallKw 2 (spP K pre post) gSwap E tr) m P := by
  intro H n Q k r b q
  refine h H n _ k r b fun H1 vs ds k1 r1 hd pd => ?_
  subst pd
  obtain ⟨x, y, rfl, hx, hy⟩ := DfAll.two hd
  refine ⟨rfl, [d2, d1], .cons (Df.bare hy) (.cons (Df.bare hx) .nil), h1, fun H2 v d s hv pp => ?_⟩
  obtain ⟨y, t, i, rfl, pe⟩ := h2 d pp
  have r2 := r1.same s
  exact q H2 v _ (k1.trans (Keeps.same s)) r2 (date_hid (r2.src p rfl) hv) pe
end
variable {S : Addr → Bool} {a : Option Addr}
theorem ev_neI {x y : Int} (ha : Ev K S a σ H0 ta m1 (· = .int x)) (hb : Ev K S a σ H0 tb m2 (· = .int y)) (p : P (.bool (!decide (x = y)))) : Ev K S a σ H0 (tOp rNe ta tb) (m1 + m2) P :=
  ev_op ha hb fun H v w d e Q t hd he e1 e2 q => by
    subst e1 e2
    cases hd
    cases he
    refine ⟨rfl, ?_⟩
    have e : decide (V.int x = V.int y) = decide (x = y) := by rw [decide_eq_decide]; exact ⟨fun z => V.int.inj z, fun z => by rw [z]⟩
    rw [e]
    exact q H _ _ (Same.refl H) (.bl _) p
theorem eqv_date (y i : Int) (s : Str) : PyData.eqv (.tuple [.int y, .str s, .int i]) (.tuple [.int y, .str s, .int i]) = true := by
  show ((y == y) && ((s == s) && ((i == i) && true))) = true
  rw [beq_self_eq_true, beq_self_eq_true, beq_self_eq_true]
  rfl
/-- [e for x in range(i, j)] -/
theorem ev_lcR2 {vs : List Nat} {slot : Nat} {lo : Int} {N : Nat} {Pi : Nat → PyData → Prop} {Z : PyData → Prop} (hn : EvA K S a σ H0 tr m1 fun l => l = [.int lo, .int (lo + N)]) (hlo : -1000 ≤ lo) (hlo' : lo ≤ 1000) (hw : ∀ x, wipe ((wipe σ vs).set slot (some x)) vs = wipe σ vs) (few : N ≤ 1000)
    (he : ∀ D H1, Same (hid S H0) (hid (plusA S D) H1) → ∀ i : Nat, i < N → Ev K (plusA S D) a ((wipe σ vs).set slot (some (.int (lo + i)))) H1 te m (Pi i)) (hz : ∀ ds, ds.length = N → (∀ i e, ds[i]? = some e → Pi i e) → Z (.list ds)) :
    Ev K S a σ H0 (tLc (iRng2 tr) (gName slot) tYes te vs) (m1 + N * m) Z := by
  intro H n Q k r b q
  refine hn H n _ k r (by omega) fun H1 xs ds k1 r1 hd e => ?_
  subst e
  obtain ⟨x, y, rfl, h1, h2⟩ := DfAll.two hd
  cases h1
  cases h2
  refine ⟨lo, lo + N, rfl, ⟨by omega, by omega, by omega, by omega⟩, ?_⟩
  rw [show (lo + (N : Int) - lo).toNat = N by omega]
  refine lc_ev (K := K) (S := S) (a := a) (m := m) (n := n + m1) (P := Pi) (X := fun i x => x = .int (lo + (i : Int))) (walk_range (lo := lo) (n := N)) rfl hw r1 (by omega) (by omega) (fun _ _ _ _ => trivial) (fun D hD i x hi hx => ?_) (fun H' D ds kk rr hd el hp => q H' _ _ (k1.trans kk) (by rw [← Nat.add_assoc]; exact rr) hd (hz ds el hp))
  rw [hx]
  exact he D _ (Same.trans (k.trans (keeps_one r.sa k1)) (hid_new hD)) i hi
end
end DD

namespace DD
open PySem PySem.Spec PyProof.Rows L2
/-! ### a test that fails; two data that are one -/
section
variable {K : PySem.W.Frag} {S : Addr → Bool} {a : Option Addr} {σ : L2.St} {H0 : Hp} {te ta tb tn : TE} {tr : TA} {m m1 m2 : Nat} {P P1 P2 : PyData → Prop} {R R1 : List PyData → Prop}
theorem ev_ifF {body : TS} {D : Ends} {n : Nat} {H : Hp} (r : Rn S a n H) (b : n + m ≤ most) (h : Ev K S a σ H te m (· = .bool false)) (q : ∀ H', Keeps (one a) H H' → Rn S a (n + m) H' → D.nx σ H') : tIfS (tTest te) body tNext D σ H := by
  refine h H n _ Keeps.rfl r b fun H1 v d k1 r1 hd e => ?_
  subst e
  cases hd
  exact ⟨false, rfl, iteF (q H1 k1 r1)⟩
theorem ev_neSame (ha : Ev K S a σ H0 ta m1 P1) (hb : Ev K S a σ H0 tb m2 P2) (h : ∀ d e, P1 d → P2 e → d = e ∧ SeqAt.shaped d = true ∧ PyData.eqv d d = true) : Ev K S a σ H0 (tOp (rNeD K) ta tb) (m1 + m2) (· = .bool false) :=
  ev_op ha hb fun H x y d e Q t hd he q1 q2 q => by
    obtain ⟨e1, s1, s2⟩ := h d e q1 q2
    subst e1
    exact ⟨d, d, (Df.bare hd).dp, (Df.bare he).dp, s1, s1, q H _ _ (Same.refl H) (.bl _) (by rw [s2]; rfl)⟩
end
end DD

namespace DD
open PySem PySem.Spec PyProof.Rows L2
/-! ### tuple * k, k = 1 among them -/
theorem tuple_mul1 (l : Addr) (items : Array Value) (n : Nat) (dd : Option Addr) (sl : Array (Option Value)) (u : Tok) :
    Meets (Builtin.«tuple.__mul__» ⟨[.ref l, .int 1 u], []⟩) (fun _ R s => s.heap.get? l = some { cls := .type "tuple", dict := dd, data := .seq items n, slots := sl } ∧
      R (.ok (.ret (Value.ref l))) s) :=
  .of_wp fun prog w A R s h => by
    obtain ⟨hp, g, d, tk, os⟩ := s
    obtain ⟨hl, h⟩ := h
    have f1 := AutoSeq1.idx_int
    wp_walk using wpAny_loadPart' hl
    repeat (first
      | (refine wpAny_ite_false (by decide) ?_; wp_walk using wpAny_loadPart' hl)
      | (refine wpAny_ite_true (by rw [Bool.or_eq_true]; exact Or.inr rfl) ?_; wp_walk using wpAny_loadPart' hl))
    exact ⟨_, rfl, h⟩

/-- t * k: t a tuple that may be read -/
def rRepU (K : PySem.W.Frag) : R2 := fun x y H Q => ∃ l k xs, x = .ref l ∧ y = .int k ∧ SqT K H l xs ∧ xs ≠ [] ∧ 1 ≤ k ∧ k ≤ 1000 ∧ xs.length ≤ 1000 ∧ (k = 1 → Q (.ref l) H) ∧ (2 ≤ k → ∀ p o, H p = none → o.dict = none → Q (.ref p) (upd H p (.frz o (.tup (List.replicate k.toNat xs).flatten))))
theorem op_repU {X : Cx} : OpR X (binaryOp .Mult) (rRepU X.K) := by
  intro pins s σ H x y v u Q I rx ry h
  obtain ⟨l, k, xs, rfl, rfl, hT, hne, h1, h2, hz, q1, q2⟩ := h
  by_cases hk : k = 1
  · subst hk
    cases rx
    obtain ⟨t, rfl⟩ := ry
    obtain ⟨its, r, ⟨⟨cls, dd, data, sl⟩, ho, hc, n, hd⟩, hs⟩ := I.tuple hT
    simp only at hc hd
    subst hc hd
    refine wpAny_binaryOp_repeat_ref (T := "tuple") (U := "int") (by decide) ⟨_, ho, rfl⟩ (fun s' => typeIs_int s' 1 t) noFill_tuple_mul F.fills_int_mul F.slot_int_rmul repeat_tuple F.slot_int_index.lookup
      (call_meets F.slot_int_rmul (typeIs_int s 1 t) F.entry_int_rmul (F.args_int_rmul_2 _ _) (int_rmul_tuple 1 t l its.toArray n dd sl)
        ⟨ho, rfl, ⟨_, ho, rfl⟩, call_meets F.slot_tuple_mul ⟨_, ho, rfl⟩ F.entry_tuple_mul (F.args_tuple_mul_2 _ _) (tuple_mul1 l its.toArray n dd sl t) ⟨ho, ?_⟩⟩)
    exact ⟨.ref l, H, I, rfl, q1 rfl⟩
  · cases rx
    obtain ⟨t, rfl⟩ := ry
    obtain ⟨its, r, ⟨⟨cls, dd, data, sl⟩, ho, hc, n, hd⟩, hs⟩ := I.tuple hT
    simp only at hc hd
    subst hc hd
    have hle : its.length = xs.length := r.length.symm
    have hn : its ≠ [] := fun e => hne (by
      rw [e] at hle
      exact List.eq_nil_of_length_eq_zero hle.symm)
    have hi : its.toArray.isEmpty = false := by
      cases its with
      | nil => exact absurd rfl hn
      | cons a b => rfl
    have hsz0 : its.toArray.size = xs.length := by rw [List.size_toArray, hle]
    have hm : ((its.toArray.size : Nat) : Int) * k ≤ 1000000 := by
      rw [hsz0]
      have a1 : ((xs.length : Nat) : Int) * k ≤ 1000 * k := Int.mul_le_mul_of_nonneg_right (by omega) (by omega)
      omega
    have flen : (List.replicate k.toNat its).flatten.length ≤ sizeLine := by
      rw [PyProof.Rows.lm_len_rep_flat, hle, sizeLine_eq]
      have a1 : k.toNat * xs.length ≤ 1000 * 1000 := Nat.mul_le_mul (by omega) hz
      omega
    have c0 : (decide (k < -(2 ^ 63)) || decide (k ≥ 2 ^ 63)) = false := by
      rw [decide_eq_false (by omega), decide_eq_false (by omega)] <;> rfl
    have c1 : (its.toArray.isEmpty || k == 1) = false := by
      rw [hi, Bool.false_or]
      exact beq_eq_false_iff_ne.mpr (by omega)
    have c2 : (decide (k ≤ 0) || its.toArray.isEmpty) = false := by
      rw [hi, Bool.or_false]
      exact decide_eq_false (by omega)
    have c4 : Builtin.Tuple.tupleTooMany (((its.toArray.size : Nat) : Int) * k) = false := by
      unfold Builtin.Tuple.tupleTooMany
      rw [sizeLine_eq]
      exact decide_eq_false (by omega)
    refine wpAny_binaryOp_repeat_ref (T := "tuple") (U := "int") (by decide) ⟨_, ho, rfl⟩ (fun s' => typeIs_int s' k t) noFill_tuple_mul F.fills_int_mul F.slot_int_rmul repeat_tuple F.slot_int_index.lookup
      (call_meets F.slot_int_rmul (typeIs_int s k t) F.entry_int_rmul (F.args_int_rmul_2 _ _) (int_rmul_tuple k t l its.toArray n dd sl)
        ⟨ho, rfl, ⟨_, ho, rfl⟩, call_meets F.slot_tuple_mul ⟨_, ho, rfl⟩ F.entry_tuple_mul (F.args_tuple_mul_2 _ _) (tuple_mulW l its.toArray n dd sl k t c0 c1 c2 (by omega) c4 (by rw [size_rep, List.size_toArray]; exact flen)) ⟨ho, ?_⟩⟩)
    rw [size_rep]
    exact ⟨.ref s.heap.objs.size, _, I.laid (t' := s.toks) (o := .frz _ (.tup (List.replicate k.toNat xs).flatten)) (fun b ob q => Heap.get?_push_of_some _ q) (Nat.le_refl _) ⟨Heap.get?_push_size _ rfl, by rw [PyProof.Rows.lm_len_rep_flat, sizeLine_eq]; have a1 : k.toNat * xs.length ≤ 1000 * 1000 := Nat.mul_le_mul (by omega) hz; omega, _, r.rep k.toNat, IsTup.new _ _⟩, rfl, q2 (by omega) _ _ (I.hok.fresh (Nat.le_refl _)) rfl⟩
theorem DfAll.rep {K : PySem.W.Frag} {H : Hp} {vs : List V} {ds : List PyData} (h : DfAll K H vs ds) : ∀ k : Nat, DfAll K H (List.replicate k vs).flatten (List.replicate k ds).flatten
  | 0 => .nil
  | k + 1 => by
    rw [List.replicate_succ, List.replicate_succ, List.flatten_cons, List.flatten_cons]
    exact DfAll.app h (DfAll.rep h k)
section
variable {K : PySem.W.Frag} {S : Addr → Bool} {a : Option Addr} {σ : L2.St} {H0 : Hp} {te ta tb tn : TE} {tr : TA} {m m1 m2 : Nat} {P P1 P2 : PyData → Prop} {R R1 : List PyData → Prop}
theorem ev_rep (ha : Ev K S a σ H0 ta m1 P1) (hb : Ev K S a σ H0 tb m2 P2) (h : ∀ d e, P1 d → P2 e → ∃ (ds : List PyData) (k : Nat), d = .tuple ds ∧ e = .int (k : Int) ∧ ds ≠ [] ∧ 1 ≤ k ∧ k ≤ 1000 ∧ ds.length ≤ 1000 ∧ P (.tuple (List.replicate k ds).flatten)) :
    Ev K S a σ H0 (tOp (rRepU K) ta tb) (m1 + m2) P :=
  ev_op ha hb fun H x y d e Q t hd he p1 p2 q => by
    obtain ⟨ds, k, rfl, rfl, ne, k1, k2, few, pf⟩ := h d e p1 p2
    obtain ⟨l, vs, rfl, hT, hv⟩ := Df.tup_inv hd
    cases he
    have el := DfAll.len hv
    refine ⟨l, (k : Int), vs, rfl, rfl, seqT_mono hid_same hT, fun z => ne (by rw [z] at el; exact List.length_eq_zero_iff.mp el.symm), by omega, by omega, by omega, fun z => ?_, fun z p o np ho => ?_⟩
    · obtain rfl : k = 1 := by omega
      have e1 : (List.replicate 1 ds).flatten = ds := by simp
      rw [e1] at pf
      exact q H _ _ (Same.refl H) hd pf
    · exact q _ _ _ (same_new np) (by rw [Int.toNat_natCast]; exact Df.newT (DfAll.rep hv k) np (t.new np) ho) pf
/-- min of a list of ints -/
theorem ev_min (h : EvA K S a σ H0 tr m R) (p : ∀ ds, R ds → ∃ ns : List Int, ds = [.list (ns.map PyData.int)] ∧ 0 < ns.length ∧ ∀ x, x ∈ ns → (∀ y, y ∈ ns → x ≤ y) → P (.int x)) : Ev K S a σ H0 (tCB (rMin K) tr) m P :=
  ev_cb h fun H xs ds Q t hd pd q => by
    obtain ⟨ns, rfl, ne, pe⟩ := p ds pd
    obtain ⟨x, _, rfl, h1, h2⟩ := DfAll.c hd
    obtain rfl := DfAll.n h2
    obtain ⟨b, vs, rfl, hL, hv⟩ := Df.lst_inv h1
    rw [dp_ints hv] at hL
    exact ⟨b, ns, rfl, Same.seq hid_same hL, ne, fun x hx hy => q H _ _ (Same.refl H) (.int _) (pe x hx hy)⟩
end
/-! ### exceptions of the program: a field, an __init__ over ValueError's -/
structure ExcTop (K : PySem.W.Frag) (mg : Str → Option Value) (x q f : Str) (st : Stmt) (C fI : Addr) (fd : FuncData) : Prop where
  g : mg x = some (.ref C)
  o : OexC K C
  iC : PySem.W.findIn K (.ref C) "__init__" = some (some (.ref fI))
  tI : PySem.W.typeIn K (.ref fI) = some (.type "function")
  xf : XfC K C
  ec : ExcC K C
  no : PySem.W.findIn K (.ref C) f = some none
  cl : PySem.W.isClsIn K C = true
  te : PySem.W.exmOne K (.ref C) (.ref C) = some true
  F : Fun K "__init__" q st fI fd
  b : Binds K fd ["self", f] []
/-- what __init__ leaves: the exception with a dict of its own, the field in it -/
def spExc (C : Addr) (f : Str) : Sp := fun vs H Q _ => ∃ a v, vs = [.ref a, v] ∧ H a = some (exo a C none) ∧ ∀ dx, H dx = none → dx ≠ a → Q .non (upd (upd H dx (exd dx [(f, v)])) a (exo a C (some dx)))
theorem spExc_len {C : Addr} {f : Str} : ∀ vs H Q E, spExc C f vs H Q E → vs.length = 2 := fun vs H Q E ⟨a, v, e, _⟩ => by rw [e]; rfl
theorem exc_heap {H : Hp} {a dx : Addr} {x y z o : HO} (ha : H a = none) (hd : dx ≠ a) : upd (del (upd (upd (upd H a x) dx y) a z) a) dx o = upd H dx o := by
  funext b
  by_cases hb : b = dx
  · rw [hb, upd_same, upd_same]
  · rw [upd_ne hb, upd_ne hb]
    by_cases hba : b = a
    · rw [hba, del_same, ha]
    · rw [del_ne hba, upd_ne hba, upd_ne hb, upd_ne hba]
theorem mkO_go {C : Addr} {f : Str} {i : Nat} {v : V} {σ : L2.St} {H : Hp} {Q : XK} (e : σ[i]? = some (some v)) (h : ∀ d, H d = none → Q (.ref C) (some d) (upd H d (.xd [(f, v)]))) : tMkO C (spExc C f) [] (tCons (tVar i) tNil) σ H Q := by
  refine ⟨v, e, (by show 1 ≤ 1000; decide), fun a ha => ⟨a, v, rfl, upd_same, fun dx hdx ne => ?_⟩⟩
  have hd : H dx = none := by rw [upd_ne ne] at hdx; exact hdx
  refine ⟨rfl, dx, [(f, v)], upd_same, ?_, hd, ?_⟩
  · rw [upd_ne ne]
    exact upd_same
  · rw [exc_heap ha ne]
    exact h dx hd
theorem passF {P : Program} {w : World} {X : Cx} (hp : X.prog = P) (hw : X.w = w) : Passes (L2.CX P w) X (fun _ _ _ => False) := fun _ _ _ _ _ _ _ h => by
  obtain ⟨_, _, _, _, _, _, _, _, _, _, _, _, z⟩ := h
  exact z.elim
/-- isinstance(e, c), e the exception that the suite holds, with a dict -/
def rIsEd (K : PySem.W.Frag) (D a : Addr) (d : Option Addr) : List V → Hp → VK → Prop := fun xs H Q => ∃ (c : V) (cv : Value) (b : Bool) (dd : Addr) (fs : List (Str × V)), xs = [.ref a, c] ∧ (∀ u, RelV c u → u = cv) ∧ d = some dd ∧ H dd = some (.xd fs) ∧ PySem.W.kitOne K (.ref D) cv = some b ∧ Q (.bl b) H
theorem call_isEd {X : Cx} {a D : Addr} {d : Option Addr} {oe : Obj} {pn : List (Addr × Obj)} {cls : Value} (C : ExcC X.K D) (hcl : (PySem.W.clsIn X.K D).isSome = true) (hz : Zc cls d oe) (hf : ∃ vs, oe.data = .fields vs) : CallR (X.suite a ((a, oe) :: pn)) (.builtin "isinstance") (fun xs H Q => cls = .ref D ∧ rIsEd X.K D a d xs H Q) := by
  intro pins s σ H xs us Q I r h
  obtain ⟨rfl, c, cv, b, dd, fs, rfl, hcv, rfl, hdd, e, q⟩ := h
  cases r with
  | cons rx rr =>
    cases rr with
    | cons rt rr =>
      cases rr
      cases rx
      have ec := hcv _ rt
      subst ec
      obtain ⟨hget, _⟩ := I.pin (a, oe) (List.mem_append.mpr (.inl List.mem_cons_self))
      obtain ⟨vs, hv⟩ := hf
      have hx : ObjOk X.prog X.w H s.heap dd (.xd fs) := I.hok dd _ hdd
      obtain ⟨mA, hns, hr⟩ := hx
      obtain ⟨od, ho, hl⟩ := lookIn_ns hns
      have J : PySem.W.InstAt s.heap a oe D (some od) := ⟨hget, hz.1, by unfold PySem.W.notCls; rw [hv] <;> rfl, by rw [hz.2]; exact ho⟩
      exact PySem.W.kia_one (PySem.W.kitx_exc hcl C.hg C.hk C.hs C.ha C.hn C.ht C.hm) I.kIn J e (fun z => nomatch z) fun tk => ⟨.bl b, H, I.kept (t' := tk) fun _ _ z => z, rfl, q⟩
theorem kit_own {K : PySem.W.Frag} {C D : Addr} {b : Bool} (hD : PySem.W.isClsIn K D = true) (tD : PySem.W.typeIn K (.ref D) = some (.type "type")) (hs : PySem.W.subIn K (.ref C) (.ref D) = some b) (ne : (Value.ref C == Value.ref D) = false) : PySem.W.kitOne K (.ref C) (.ref D) = some b := by
  have hD' : (PySem.W.clsIn K D).isSome = true := hD
  show (if (Value.ref C == Value.ref D) = true then some true else if ((PySem.W.clsIn K D).isSome && PySem.W.typeIn K (.ref D) == some (.type "type")) = true then PySem.W.subIn K (.ref C) (.ref D) else none) = some b
  rw [ne, if_neg Bool.false_ne_true, hD', tD, if_pos (show (true && some (Value.type "type") == some (Value.type "type")) = true by decide +kernel)]
  exact hs
theorem kit_base {K : PySem.W.Frag} {C : Addr} {T : String} {b : Bool} (hT : PySem.W.kitMeta T = true) (hs : PySem.W.subIn K (.ref C) (.type T) = some b) : PySem.W.kitOne K (.ref C) (.type T) = some b := by
  show (if (Value.ref C == Value.type T) = true then some true else if PySem.W.kitMeta T = true then PySem.W.subIn K (.ref C) (.type T) else none) = some b
  rw [if_neg (by intro z; cases beq_iff_eq.mp z), if_pos hT]
  exact hs
end DD

namespace DD
open PySem PySem.Spec PyProof.Rows L2
/-! ### comprehensions with a test, without draws: the list is told exactly -/
def EvT (K : PySem.W.Frag) (S : Addr → Bool) (a : Option Addr) (σ : L2.St) (H0 : Hp) (tt : TT) (c : Bool) : Prop :=
  ∀ (H : Hp) (n : Nat) (Q : Bool → Hp → Prop), Keeps S H0 H → Rn S a n H → n ≤ most → (∀ H', Keeps (one a) H H' → Rn S a n H' → Q c H') → tt σ H Q
section
variable {K : PySem.W.Frag} {S : Addr → Bool} {a : Option Addr} {σ : L2.St} {H0 : Hp} {te ta tb tn : TE} {tr : TA} {tt : TT} {m m1 m2 : Nat} {P P1 P2 : PyData → Prop} {R R1 : List PyData → Prop} {b : Bool}
theorem evt_val (h : Ev K S a σ H0 te 0 (· = .bool b)) : EvT K S a σ H0 (tB te) b := fun H n Q k r bd q => h H n _ k r bd fun H1 v d k1 r1 hd e => by
  subst e
  cases hd
  exact ⟨_, rfl, q H1 k1 r1⟩
theorem evt_test (h : Ev K S a σ H0 te 0 (· = .bool b)) : EvT K S a σ H0 (tTest te) b := fun H n Q k r bd q => h H n _ k r bd fun H1 v d k1 r1 hd e => by
  subst e
  cases hd
  exact ⟨_, rfl, q H1 k1 r1⟩
theorem evt_not (h : EvT K S a σ H0 tt b) : EvT K S a σ H0 (tNot tt) (!b) := fun H n Q k r bd q => h H n _ k r bd fun H1 k1 r1 => by
  cases b with
  | true => exact q H1 k1 r1
  | false => exact q H1 k1 r1
theorem range_filter_succ (c : Nat → Bool) (i : Nat) : (List.range (i + 1)).filter c = (List.range i).filter c ++ (if c i = true then [i] else []) := by
  rw [List.range_succ, List.filter_append]
  congr 1
  cases h : c i <;> simp [List.filter, h]
theorem lc_evC {J : It} {N : Nat} {G : Hp → Prop} {X : Nat → V → Prop} (w : Walk J N G (fun i H x H' => H' = H ∧ X i x)) {g : TG} {vs : List Nat} {slot : Nat} {H1 : Hp} {n : Nat} {c : Nat → Bool} {f : Nat → PyData} {Q : VK}
    (hg : g = gName slot) (hw : ∀ x, wipe ((wipe σ vs).set slot (some x)) vs = wipe σ vs) (r : Rn S a n H1) (bd : n ≤ most) (few : N ≤ 100000)
    (hG : ∀ D H', Keeps S H1 H' ∨ Keeps (plusA S D) (upd H1 D (.lst [])) H' → H1 D = none → G H')
    (ht : ∀ D, H1 D = none → ∀ i x, i < N → X i x → EvT K (plusA S D) a ((wipe σ vs).set slot (some x)) (upd H1 D (.lst [])) tt (c i))
    (he : ∀ D, H1 D = none → ∀ i x, i < N → X i x → c i = true → Ev K (plusA S D) a ((wipe σ vs).set slot (some x)) (upd H1 D (.lst [])) te 0 (· = f i))
    (q : ∀ H' D, Keeps (one a) H1 H' → Rn S a n H' → Df K (hid S H') (.ref D) (.list (((List.range N).filter c).map f)) → Q (.ref D) H') :
    ∀ D, H1 D = none → ∃ W : Nat → Nat → Hp → Prop, (∃ m, W 0 m (upd H1 D (.lst []))) ∧ ∀ i m H, W i m H →
      (J.stop i H ∧ Q (.ref D) H) ∨ (J.go i H ∧ ∃ Nx : Hp → Prop, (∀ H', Nx H' → ∃ m', m' < m ∧ W (i + 1) m' H') ∧ ∀ x H', J.yld i H x H' → g x (wipe σ vs) H' fun σ2 H2 => wipe σ2 vs = wipe σ vs ∧ tt σ2 H2 fun b H3 =>
        if b = true then te σ2 H3 fun y H4 => ∃ acc, H4 D = some (.lst acc) ∧ acc.length < sizeLine ∧ Nx (upd H4 D (.lst (acc ++ [y]))) else Nx H3) := by
  intro D hD
  subst hg
  have aD : a ≠ some D := no_a r hD
  have sD : S D = false := r.th.new hD
  have r0 : Rn (plusA S D) a n (upd H1 D (.lst [])) := rn_in r hD
  have back : ∀ {H : Hp}, Keeps (fun b => one a b || decide (b = D)) (upd H1 D (.lst [])) H → Keeps (plusA S D) (upd H1 D (.lst [])) H := fun {H} kp => Keeps.of fun b o hb e => kp.at (by
    have z := plusA_back hb
    have na : a ≠ some b := fun y => by rw [r.sa b y] at z; exact nomatch z.1
    show (one a b || decide (b = D)) = false
    rw [one_no na, decide_eq_false z.2]
    rfl) e
  refine lc_it w (fun i H => ∃ (xs : List V), H D = some (.lst xs) ∧ DfAll K (hid (plusA S D) H) xs (((List.range i).filter c).map f) ∧
      Keeps (fun b => one a b || decide (b = D)) (upd H1 D (.lst [])) H ∧ Rn (plusA S D) a n H) ?_ ?_ ?_ ?_
  · exact ⟨[], upd_same, .nil, Keeps.rfl, r0⟩
  · rintro i H hi ⟨xs, e1, e2, kp, rr⟩
    exact hG D H (.inr (back kp)) hD
  · rintro i x H H' hi ⟨xs, e1, e2, kp, rr⟩ ⟨rfl, hx⟩
    refine ⟨hw x, ?_⟩
    refine ht D hD i x hi hx H' n _ (back kp) rr bd fun H2 k2 r2 => ?_
    have eD2 : H2 D = some (.lst xs) := k2.at (one_no aD) e1
    have kp2 : Keeps (fun b => one a b || decide (b = D)) (upd H1 D (.lst [])) H2 := Keeps.of fun b o hb e => k2.at (Bool.or_eq_false_iff.mp hb).1 (kp.at hb e)
    have e22 := DfAll.keep e2 (keeps_one rr.sa k2)
    cases hc : c i with
    | false =>
      show (if false = true then _ else _)
      rw [if_neg Bool.false_ne_true]
      refine ⟨xs, eD2, ?_, kp2, r2⟩
      rw [range_filter_succ, hc, if_neg Bool.false_ne_true, List.append_nil]
      exact e22
    | true =>
      show (if true = true then _ else _)
      rw [if_pos rfl]
      refine he D hD i x hi hx hc H2 n _ (back kp2) r2 (by omega) fun H3 v d k3 r3 hd ed => ?_
      subst ed
      have eD3 : H3 D = some (.lst xs) := k3.at (one_no aD) eD2
      have el := DfAll.len e2
      rw [List.length_map] at el
      have el2 : ((List.range i).filter c).length ≤ i := Nat.le_trans (List.length_filter_le _ _) (by rw [List.length_range]; exact Nat.le_refl _)
      refine ⟨xs, eD3, Nat.lt_of_lt_of_le (by omega : xs.length < 1000000) line20, xs ++ [v], upd_same, ?_, ?_, ?_⟩
      · rw [hid_upd (plusA_self S D), range_filter_succ, hc, if_pos rfl, List.map_append]
        exact DfAll.app (DfAll.keep e22 (keeps_one r2.sa k3)) (.cons hd .nil)
      · refine Keeps.of fun b o hb e => ?_
        have hb' : one a b = false ∧ decide (b = D) = false := Bool.or_eq_false_iff.mp hb
        rw [upd_ne (of_decide_eq_false hb'.2)]
        exact k3.at hb'.1 (kp2.at hb e)
      · exact rn_upd r3 aD
  · rintro H ⟨xs, e1, e2, kp, rr⟩
    refine q H D (Keeps.of fun b o hb e => ?_) (rn_out r rr) ?_
    · have nD : b ≠ D := ne_of_none e hD
      refine kp.at ?_ (by rw [upd_ne nD]; exact e)
      show (one a b || decide (b = D)) = false
      rw [hb, decide_eq_false nD]
      rfl
    · exact .lst (.inl (.inl (by rw [hid_at sD]; exact e1))) (DfAll.to e2 hid_plus)
/-- [e for x in range(i, j) if t] -/
theorem ev_lcRC {vs : List Nat} {slot : Nat} {lo : Int} {N : Nat} {c : Nat → Bool} {f : Nat → PyData} (hn : EvA K S a σ H0 tr 0 fun l => l = [.int lo, .int (lo + N)]) (hlo : -1000 ≤ lo) (hlo' : lo ≤ 1000) (hw : ∀ x, wipe ((wipe σ vs).set slot (some x)) vs = wipe σ vs) (few : N ≤ 1000)
    (ht : ∀ D H1, Same (hid S H0) (hid (plusA S D) H1) → ∀ i : Nat, i < N → EvT K (plusA S D) a ((wipe σ vs).set slot (some (.int (lo + i)))) H1 tt (c i))
    (he : ∀ D H1, Same (hid S H0) (hid (plusA S D) H1) → ∀ i : Nat, i < N → c i = true → Ev K (plusA S D) a ((wipe σ vs).set slot (some (.int (lo + i)))) H1 te 0 (· = f i)) :
    Ev K S a σ H0 (tLc (iRng2 tr) (gName slot) tt te vs) 0 (· = .list (((List.range N).filter c).map f)) := by
  intro H n Q k r b q
  refine hn H n _ k r (by omega) fun H1 xs ds k1 r1 hd e => ?_
  subst e
  obtain ⟨x, y, rfl, h1, h2⟩ := DfAll.two hd
  cases h1
  cases h2
  refine ⟨lo, lo + N, rfl, ⟨by omega, by omega, by omega, by omega⟩, ?_⟩
  rw [show (lo + (N : Int) - lo).toNat = N by omega]
  refine lc_evC (K := K) (S := S) (a := a) (n := n) (c := c) (f := f) (X := fun i x => x = .int (lo + (i : Int))) (walk_range (lo := lo) (n := N)) rfl hw r1 (by omega) (by omega) (fun _ _ _ _ => trivial) (fun D hD i x hi hx => ?_) (fun D hD i x hi hx => ?_) (fun H' D kk rr hd => q H' _ _ (k1.trans kk) rr hd rfl)
  · rw [hx]
    exact ht D _ (Same.trans (k.trans (keeps_one r.sa k1)) (hid_new hD)) i hi
  · rw [hx]
    exact he D _ (Same.trans (k.trans (keeps_one r.sa k1)) (hid_new hD)) i hi
/-- [e for x in xs if t], xs a list of data -/
theorem ev_lcLC {vs : List Nat} {slot : Nat} {es : List PyData} {c : Nat → Bool} {f : Nat → PyData} (hn : Ev K S a σ H0 tn 0 (· = .list es)) (hw : ∀ x, wipe ((wipe σ vs).set slot (some x)) vs = wipe σ vs) (few : es.length ≤ 100000)
    (ht : ∀ D H1, Same (hid S H0) (hid (plusA S D) H1) → ∀ (i : Nat) (x : V) (e : PyData), es[i]? = some e → Df K (hid (plusA S D) H1) x e → EvT K (plusA S D) a ((wipe σ vs).set slot (some x)) H1 tt (c i))
    (he : ∀ D H1, Same (hid S H0) (hid (plusA S D) H1) → ∀ (i : Nat) (x : V) (e : PyData), es[i]? = some e → Df K (hid (plusA S D) H1) x e → c i = true → Ev K (plusA S D) a ((wipe σ vs).set slot (some x)) H1 te 0 (· = f i)) :
    Ev K S a σ H0 (tLc (iList K tn) (gName slot) tt te vs) 0 (· = .list (((List.range es.length).filter c).map f)) := by
  intro H n Q k r b q
  refine hn H n _ k r (by omega) fun H1 x d k1 r1 hd e => ?_
  subst e
  obtain ⟨L, xs, rfl, hL, hxs⟩ := Df.lst_inv hd
  have el := DfAll.len hxs
  refine ⟨L, rfl, ⟨xs, Same.seq hid_same hL⟩, ?_⟩
  rw [← el] at few q
  refine lc_evC (K := K) (S := S) (a := a) (n := n) (c := c) (f := f) (X := fun i x => xs[i]? = some x) (walk_list (K := K) (a := L) (xs := xs)) rfl hw r1 (by omega) few (fun D H' kk hD => sq_keep hL hD kk) (fun D hD i x hi hx => ?_) (fun D hD i x hi hx => ?_) (fun H' D kk rr hd => q H' _ _ (k1.trans kk) rr hd rfl)
  · obtain ⟨e, he1, he2⟩ := DfAll.get hxs hx
    exact ht D _ (Same.trans (k.trans (keeps_one r.sa k1)) (hid_new hD)) i x e he1 (Df.to he2 (hid_new hD))
  · obtain ⟨e, he1, he2⟩ := DfAll.get hxs hx
    exact he D _ (Same.trans (k.trans (keeps_one r.sa k1)) (hid_new hD)) i x e he1 (Df.to he2 (hid_new hD))
end
theorem op_repUK {X : Cx} {K : PySem.W.Frag} (h : X.K = K) : OpR X (binaryOp .Mult) (rRepU K) := h ▸ op_repU
theorem op_eqDK {X : Cx} {K : PySem.W.Frag} (h : X.K = K) (hu : X.A.units + 64 < cLine) : OpR X (compareOp .Eq) (rEqD K) := h ▸ op_eqD hu
theorem op_neDK {X : Cx} {K : PySem.W.Frag} (h : X.K = K) (hu : X.A.units + 64 < cLine) : OpR X (compareOp .NotEq) (rNeD K) := h ▸ op_neD hu
theorem op_catQK {X : Cx} {K : PySem.W.Frag} (h : X.K = K) : OpR X (binaryOp .Add) (rCatQ K) := h ▸ op_catQ
section
variable {K : PySem.W.Frag} {S : Addr → Bool} {a : Option Addr} {σ : L2.St} {H0 : Hp} {te ta tb tn : TE} {tr : TA} {tt : TT} {m m1 m2 : Nat} {P P1 P2 : PyData → Prop} {R R1 : List PyData → Prop} {b : Bool}
theorem evt_yes : EvT K S a σ H0 tYes true := fun H n Q k r bd q => q H Keeps.rfl r
/-- [e for x in range(k)], told exactly -/
theorem ev_lcR1 {vs : List Nat} {slot : Nat} {N : Nat} {f : Nat → PyData} (hn : EvA K S a σ H0 tr 0 fun l => l = [.int (N : Int)]) (hw : ∀ x, wipe ((wipe σ vs).set slot (some x)) vs = wipe σ vs) (few : N ≤ 100000)
    (he : ∀ D H1, Same (hid S H0) (hid (plusA S D) H1) → ∀ i : Nat, i < N → Ev K (plusA S D) a ((wipe σ vs).set slot (some (.int (i : Int)))) H1 te 0 (· = f i)) :
    Ev K S a σ H0 (tLc (iRng1 tr) (gName slot) tYes te vs) 0 (· = .list ((List.range N).map f)) := by
  intro H n Q k r b q
  refine hn H n _ k r (by omega) fun H1 xs ds k1 r1 hd e => ?_
  subst e
  obtain ⟨x, _, rfl, h1, h2⟩ := DfAll.c hd
  obtain rfl := DfAll.n h2
  cases h1
  refine ⟨N, rfl, by omega, by omega, ?_⟩
  rw [Int.toNat_natCast]
  refine lc_evC (K := K) (S := S) (a := a) (n := n) (c := fun _ => true) (f := f) (X := fun i x => x = .int (0 + (i : Int))) (walk_range (lo := 0) (n := N)) rfl hw r1 (by omega) few (fun _ _ _ _ => trivial) (fun D hD i x hi hx => evt_yes) (fun D hD i x hi hx _ => ?_) (fun H' D kk rr hd => q H' _ _ (k1.trans kk) rr hd ?_)
  · rw [hx, Int.zero_add]
    exact he D _ (Same.trans (k.trans (keeps_one r.sa k1)) (hid_new hD)) i hi
  · rw [List.filter_eq_self.mpr fun _ _ => rfl]
/-- for x in range(i, j): .. -/
theorem ev_forR2 {tb : TS} {D : Ends} {n i : Nat} {H : Hp} (lo : Int) (N : Nat) (r : Rn S a n H) (b : n + m ≤ most) (h : EvA K S a σ H tr m fun l => l = [.int lo, .int (lo + N)]) (hlo : -1000 ≤ lo) (hlo' : lo ≤ 1000) (few : N ≤ 1000)
    (q : ∀ H1, Keeps (one a) H H1 → Rn S a (n + m) H1 → ∃ Pv : Nat → L2.St → Hp → Prop, Pv 0 σ H1 ∧ (∀ j σ' H', j < N → Pv j σ' H' → tb { D with nx := Pv (j + 1), ct := Pv (j + 1), bk := D.nx } (σ'.set i (some (.int (lo + (j : Int))))) H') ∧ ∀ σ' H', Pv N σ' H' → D.nx σ' H') :
    tFor (iRng2 tr) (gName i) tb D σ H := by
  refine ev_goA r b h fun H1 vs ds k1 r1 hd e => ?_
  subst e
  obtain ⟨x, y, rfl, h1, h2⟩ := DfAll.two hd
  cases h1
  cases h2
  obtain ⟨Pv, h0, hs, he⟩ := q H1 k1 r1
  refine ⟨lo, lo + N, rfl, ⟨by omega, by omega, by omega, by omega⟩, ?_⟩
  rw [show (lo + (N : Int) - lo).toNat = N by omega]
  exact for_range Pv h0 hs he
end
theorem lookup_one (f : Str) (v : V) : List.lookup f [(f, v)] = some v := by simp [List.lookup]
theorem ix_tupK {X : Cx} {K : PySem.W.Frag} (h : X.K = K) : IxR X (rIxT K) := h ▸ ix_tup
theorem ix_listK {X : Cx} {K : PySem.W.Frag} (h : X.K = K) : IxR X (rIxL K) := h ▸ ix_list
theorem call_lenKK {X : Cx} {K : PySem.W.Frag} (h : X.K = K) : CallR X (.builtin "len") (rLenQ K) := h ▸ call_len_seq
/-! ### data without lists stand apart from the source -/
mutual
def noL : PyData → Bool
  | .list _ | .dict _ => false
  | .tuple xs => noLs xs
  | _ => true
def noLs : List PyData → Bool
  | [] => true
  | x :: xs => noL x && noLs xs
end
theorem noLs_iff : ∀ {ds : List PyData}, noLs ds = true ↔ ∀ d ∈ ds, noL d = true
  | [] => ⟨fun _ d h => absurd h List.not_mem_nil, fun _ => rfl⟩
  | x :: xs => by
    rw [noLs, Bool.and_eq_true, noLs_iff (ds := xs)]
    constructor
    · rintro ⟨h1, h2⟩ d hd
      rcases List.mem_cons.mp hd with rfl | hd
      · exact h1
      · exact h2 d hd
    · intro h
      exact ⟨h x (List.mem_cons_self ..), fun d hd => h d (List.mem_cons_of_mem _ hd)⟩
mutual
theorem Df.hid1 {K : PySem.W.Frag} {H : Hp} {p : Addr} {n : Nat} (hs : Src H p n) : ∀ (d : PyData) (v : V), noL d = true → Df K H v d → Df K (hid (one (some p)) H) v d
  | .none, _, _, .non => .non
  | .bool _, _, _, .bl b => .bl b
  | .int _, _, _, .int i => .int i
  | .str _, _, _, .str x => .str x
  | .list _, _, h, _ => nomatch h
  | .tuple ds, _, h, .tup hT t => .tup (seqF_hid hs hT) (DfAll.hid1 hs ds _ h t)
theorem DfAll.hid1 {K : PySem.W.Frag} {H : Hp} {p : Addr} {n : Nat} (hs : Src H p n) : ∀ (ds : List PyData) (vs : List V), noLs ds = true → DfAll K H vs ds → DfAll K (hid (one (some p)) H) vs ds
  | [], _, _, .nil => .nil
  | d :: ds, _, h, .cons h1 h2 => by
    obtain ⟨a, b⟩ := Bool.and_eq_true_iff.mp (show (noL d && noLs ds) = true from h)
    exact .cons (Df.hid1 hs d _ a h1) (DfAll.hid1 hs ds _ b h2)
end
section
variable {K : PySem.W.Frag} {σ : L2.St} {H0 : Hp} {te ta tb tn : TE} {tr : TA} {tt t1 t2 : TT} {m m1 m2 m3 : Nat} {P P1 P2 : PyData → Prop} {R R1 : List PyData → Prop}
theorem ev_callT {p : Addr} {pre : List PyData → Prop} {post : List PyData → PyData → Prop} {E : XK} (h : EvA K (one (some p)) (some p) σ H0 tr m R) (h1 : ∀ ds, R ds → pre ds) (h2 : ∀ ds d, R ds → post ds d → noL d = true ∧ P d) : Ev K (one (some p)) (some p) σ H0 (tCall (spP K pre post) [] E tr) m P := by
  intro H n Q k r b q
  refine h H n _ k r b fun H1 vs ds k1 r1 hd pd => ?_
  rw [List.append_nil]
  refine ⟨ds, DfAll.bare hd, h1 ds pd, fun H2 v d s hv pp => ?_⟩
  obtain ⟨nl, pe⟩ := h2 ds d pd pp
  have r2 := r1.same s
  exact q H2 v _ (k1.trans (Keeps.same s)) r2 (Df.hid1 (r2.src p rfl) d v nl hv) pe
variable {S : Addr → Bool} {a : Option Addr} {b1 b2 : Bool}
theorem evt_or (h1 : EvT K S a σ H0 t1 b1) (h2 : b1 = false → EvT K S a σ H0 t2 b2) : EvT K S a σ H0 (tOr t1 t2) (b1 || b2) := fun H n Q k r bd q => h1 H n _ k r bd fun H1 k1 r1 => by
  cases b1 with
  | true => exact iteT (q H1 k1 r1)
  | false => exact iteF (h2 rfl H1 n _ (k.trans (keeps_one r.sa k1)) r1 bd fun H2 k2 r2 => q H2 (k1.trans k2) r2)
theorem evt_and (h1 : EvT K S a σ H0 t1 b1) (h2 : b1 = true → EvT K S a σ H0 t2 b2) : EvT K S a σ H0 (tAnd t1 t2) (b1 && b2) := fun H n Q k r bd q => h1 H n _ k r bd fun H1 k1 r1 => by
  cases b1 with
  | true => exact iteT (h2 rfl H1 n _ (k.trans (keeps_one r.sa k1)) r1 bd fun H2 k2 r2 => q H2 (k1.trans k2) r2)
  | false => exact iteF (q H1 k1 r1)
/-- if t: .., t told -/
theorem if_evt {t u : TS} {D : Ends} {n : Nat} {H : Hp} {b : Bool} (r : Rn S a n H) (bd : n ≤ most) (h : EvT K S a σ H tt b) (qT : b = true → ∀ H1, Keeps (one a) H H1 → Rn S a n H1 → t D σ H1) (qF : b = false → ∀ H1, Keeps (one a) H H1 → Rn S a n H1 → u D σ H1) : tIfS tt t u D σ H :=
  h H n _ Keeps.rfl r bd fun H1 k1 r1 => by
    cases b with
    | true => exact iteT (qT rfl H1 k1 r1)
    | false => exact iteF (qF rfl H1 k1 r1)
end
end DD

namespace DD
open PySem PySem.Spec PyProof.Rows L2
section
variable {K : PySem.W.Frag} {S : Addr → Bool} {a : Option Addr} {σ : L2.St} {H0 : Hp} {te ta tb tn : TE} {tr : TA} {m m1 m2 : Nat} {P P1 P2 : PyData → Prop} {R R1 : List PyData → Prop}
theorem dp_mapInt {K : PySem.W.Frag} {H : Hp} {f : Nat → Int} : ∀ l : List Nat, DfAll K H (l.map fun i => V.int (f i)) (l.map fun i => PyData.int (f i))
  | [] => .nil
  | i :: l => .cons (.int _) (dp_mapInt l)
/-- list(range(i, j)) -/
theorem ev_listRg {lo hi : Int} (ha : Ev K S a σ H0 ta 0 (· = .int lo)) (hb : Ev K S a σ H0 tb 0 (· = .int hi)) (ok : RgOk lo hi) (p : P (.list ((List.range (hi - lo).toNat).map fun i => PyData.int (lo + (i : Nat))))) : Ev K S a σ H0 (tLstRg (tRg2 ta tb)) 0 P := by
  intro H n Q k r b q
  refine ha H n _ k r (by omega) fun H1 x d k1 r1 hd e1 => ?_
  subst e1
  cases hd
  refine hb H1 n _ (k.trans (keeps_one r.sa k1)) r1 (by omega) fun H2 y e k2 r2 he e2 => ?_
  subst e2
  cases he
  exact ⟨lo, hi, rfl, rfl, ok, fun l nl => q _ _ _ (k1.trans (k2.trans (Keeps.new nl))) (r2.same (same_new nl)) (Df.newL (dp_mapInt _) nl (r2.th.new nl)) p⟩
end
end DD

namespace LW
open PySem PySem.Spec PyProof.Rows L2 DD
def tops (i : Nat) : Stmt := PySem.Challenge.pw_decreedays_k03_has_date.main.body.getD i (.Pass ⟨0, 0, 0, 0⟩)
abbrev s_is_int : Stmt := tops 2
theorem sc_is_int : FnScope ["thing"] ["thing"] (defScope s_is_int) := ⟨rfl, rfl, rfl, by decide +kernel, rfl, by decide +kernel, by decide +kernel⟩
abbrev s_is_name : Stmt := tops 3
theorem sc_is_name : FnScope ["thing"] ["thing"] (defScope s_is_name) := ⟨rfl, rfl, rfl, by decide +kernel, rfl, by decide +kernel, by decide +kernel⟩
abbrev s_is_rule : Stmt := tops 11
theorem sc_is_rule : FnScope ["thing", "year"] ["thing"] (defScope s_is_rule) := ⟨rfl, rfl, rfl, by decide +kernel, rfl, by decide +kernel, by decide +kernel⟩
abbrev s_is_year : Stmt := tops 12
theorem sc_is_year : FnScope ["thing", "month", "name", "days"] ["thing"] (defScope s_is_year) := ⟨rfl, rfl, rfl, by decide +kernel, rfl, by decide +kernel, by decide +kernel⟩
abbrev s_is_month : Stmt := tops 13
theorem sc_is_month : FnScope ["thing"] ["thing"] (defScope s_is_month) := ⟨rfl, rfl, rfl, by decide +kernel, rfl, by decide +kernel, by decide +kernel⟩
abbrev s_is_day_of_month : Stmt := tops 14
theorem sc_is_day_of_month : FnScope ["thing"] ["thing"] (defScope s_is_day_of_month) := ⟨rfl, rfl, rfl, by decide +kernel, rfl, by decide +kernel, by decide +kernel⟩
abbrev s_is_date : Stmt := tops 15
theorem sc_is_date : FnScope ["thing"] ["thing"] (defScope s_is_date) := ⟨rfl, rfl, rfl, by decide +kernel, rfl, by decide +kernel, by decide +kernel⟩
abbrev s_has_date : Stmt := tops 16
theorem sc_has_date : FnScope ["rule", "date"] ["rule", "date"] (defScope s_has_date) := ⟨rfl, rfl, rfl, by decide +kernel, rfl, by decide +kernel, by decide +kernel⟩
abbrev s_includes : Stmt := tops 17
theorem sc_includes : FnScope ["rule", "date", "year", "month", "day", "months", "name", "days"] ["rule", "date"] (defScope s_includes) := ⟨rfl, rfl, rfl, by decide +kernel, rfl, by decide +kernel, by decide +kernel⟩
abbrev s__law_source : Stmt := tops 19
theorem sc__law_source : FnScope ["_law_script", "_law_at", "_law_cell", "_law_great"] ["_law_script", "_law_at"] (defScope s__law_source) := ⟨rfl, rfl, rfl, by decide +kernel, rfl, by decide +kernel, by decide +kernel⟩
abbrev s__law_draw : Stmt := tops 20
theorem sc__law_draw : FnScope ["_law_source_here", "_law_many", "_law_digit", "_law_primes", "_law_turn", "_law_base", "_law_found"] ["_law_source_here", "_law_many"] (defScope s__law_draw) := ⟨rfl, rfl, rfl, by decide +kernel, rfl, by decide +kernel, by decide +kernel⟩
abbrev s__law_pool : Stmt := tops 21
theorem sc__law_pool : FnScope ["_law_source_here", "_law_letters", "_law_size", "_law_first", "_law_stem", "_law_k", "_law_turn"] ["_law_source_here"] (defScope s__law_pool) := ⟨rfl, rfl, rfl, by decide +kernel, rfl, by decide +kernel, by decide +kernel⟩
abbrev s__law_rule : Stmt := tops 22
theorem sc__law_rule : FnScope ["_law_source_here", "_law_pool_here", "_law_most_years", "_law_most_days", "_law_years", "_law_turn", "_law_left", "_law_year", "_law_k", "_law_name"] ["_law_source_here", "_law_pool_here", "_law_most_years", "_law_most_days"] (defScope s__law_rule) := ⟨rfl, rfl, rfl, by decide +kernel, rfl, by decide +kernel, by decide +kernel⟩
abbrev s__law_any : Stmt := tops 23
theorem sc__law_any : FnScope ["_law_source_here", "_law_some"] ["_law_source_here"] (defScope s__law_any) := ⟨rfl, rfl, rfl, by decide +kernel, rfl, by decide +kernel, by decide +kernel⟩
abbrev s__law_bent : Stmt := tops 24
theorem sc__law_bent : FnScope ["_law_source_here", "_law_value", "_law_at", "_law_other", "_law_way", "_law_some"] ["_law_source_here", "_law_value"] (defScope s__law_bent) := ⟨rfl, rfl, rfl, by decide +kernel, rfl, by decide +kernel, by decide +kernel⟩
abbrev s__law_whole : Stmt := tops 25
theorem sc__law_whole : FnScope ["_law_value"] ["_law_value"] (defScope s__law_whole) := ⟨rfl, rfl, rfl, by decide +kernel, rfl, by decide +kernel, by decide +kernel⟩
abbrev s__law_is_name : Stmt := tops 26
theorem sc__law_is_name : FnScope ["_law_value", "_law_sign"] ["_law_value"] (defScope s__law_is_name) := ⟨rfl, rfl, rfl, by decide +kernel, rfl, by decide +kernel, by decide +kernel⟩
abbrev s__law_is_month : Stmt := tops 27
theorem sc__law_is_month : FnScope ["_law_value"] ["_law_value"] (defScope s__law_is_month) := ⟨rfl, rfl, rfl, by decide +kernel, rfl, by decide +kernel, by decide +kernel⟩
abbrev s__law_is_year : Stmt := tops 28
theorem sc__law_is_year : FnScope ["_law_value", "_law_names", "_law_one", "_law_name"] ["_law_value"] (defScope s__law_is_year) := ⟨rfl, rfl, rfl, by decide +kernel, rfl, by decide +kernel, by decide +kernel⟩
abbrev s__law_is_rule : Stmt := tops 29
theorem sc__law_is_rule : FnScope ["_law_value", "_law_one"] ["_law_value"] (defScope s__law_is_rule) := ⟨rfl, rfl, rfl, by decide +kernel, rfl, by decide +kernel, by decide +kernel⟩
abbrev s__law_is_date : Stmt := tops 30
theorem sc__law_is_date : FnScope ["_law_value"] ["_law_value"] (defScope s__law_is_date) := ⟨rfl, rfl, rfl, by decide +kernel, rfl, by decide +kernel, by decide +kernel⟩
abbrev s__law_due : Stmt := tops 31
theorem sc__law_due : FnScope ["_law_plan", "_law_when", "_law_month"] ["_law_plan", "_law_when"] (defScope s__law_due) := ⟨rfl, rfl, rfl, by decide +kernel, rfl, by decide +kernel, by decide +kernel⟩
abbrev s__law_refused : Stmt := tops 32
theorem sc__law_refused : FnScope ["_law_plan", "_law_when", "e"] ["_law_plan", "_law_when"] (defScope s__law_refused) := ⟨rfl, rfl, rfl, by decide +kernel, rfl, by decide +kernel, by decide +kernel⟩
abbrev s_law : Stmt := tops 33
theorem sc_law : FnScope ["_law_script", "_law_at", "_law_source_here", "_law_pool_here", "_law_plan", "_law_far", "_law_year", "_law_name", "_law_day", "_law_value", "_law_spoilt"] ["_law_script"] (defScope s_law) := ⟨rfl, rfl, rfl, by decide +kernel, rfl, by decide +kernel, by decide +kernel⟩
abbrev s_NoRule : Stmt := inClass (tops 5) 0
theorem sc_NoRule : FnScope ["self", "rule"] ["self", "rule"] (defScope s_NoRule) := ⟨rfl, rfl, rfl, by decide +kernel, rfl, by decide +kernel, by decide +kernel⟩
structure Top (K : PySem.W.Frag) (mg : Str → Option Value) where
  a_is_int : Addr
  d_is_int : FuncData
  F_is_int : Fun K "is_int" "is_int" s_is_int a_is_int d_is_int
  m_is_int : mg "is_int" = some (.ref a_is_int)
  b_is_int : Binds K d_is_int ["thing"] []
  a_is_name : Addr
  d_is_name : FuncData
  F_is_name : Fun K "is_name" "is_name" s_is_name a_is_name d_is_name
  m_is_name : mg "is_name" = some (.ref a_is_name)
  b_is_name : Binds K d_is_name ["thing"] []
  a_is_rule : Addr
  d_is_rule : FuncData
  F_is_rule : Fun K "is_rule" "is_rule" s_is_rule a_is_rule d_is_rule
  m_is_rule : mg "is_rule" = some (.ref a_is_rule)
  b_is_rule : Binds K d_is_rule ["thing"] []
  a_is_year : Addr
  d_is_year : FuncData
  F_is_year : Fun K "is_year" "is_year" s_is_year a_is_year d_is_year
  m_is_year : mg "is_year" = some (.ref a_is_year)
  b_is_year : Binds K d_is_year ["thing"] []
  a_is_month : Addr
  d_is_month : FuncData
  F_is_month : Fun K "is_month" "is_month" s_is_month a_is_month d_is_month
  m_is_month : mg "is_month" = some (.ref a_is_month)
  b_is_month : Binds K d_is_month ["thing"] []
  a_is_day_of_month : Addr
  d_is_day_of_month : FuncData
  F_is_day_of_month : Fun K "is_day_of_month" "is_day_of_month" s_is_day_of_month a_is_day_of_month d_is_day_of_month
  m_is_day_of_month : mg "is_day_of_month" = some (.ref a_is_day_of_month)
  b_is_day_of_month : Binds K d_is_day_of_month ["thing"] []
  a_is_date : Addr
  d_is_date : FuncData
  F_is_date : Fun K "is_date" "is_date" s_is_date a_is_date d_is_date
  m_is_date : mg "is_date" = some (.ref a_is_date)
  b_is_date : Binds K d_is_date ["thing"] []
  a_has_date : Addr
  d_has_date : FuncData
  F_has_date : Fun K "has_date" "has_date" s_has_date a_has_date d_has_date
  m_has_date : mg "has_date" = some (.ref a_has_date)
  b_has_date : Binds K d_has_date ["rule", "date"] []
  k_has_date : KwTo d_has_date ["date", "rule"] ["rule", "date"] gSwap
  a_includes : Addr
  d_includes : FuncData
  F_includes : Fun K "includes" "includes" s_includes a_includes d_includes
  m_includes : mg "includes" = some (.ref a_includes)
  b_includes : Binds K d_includes ["rule", "date"] []
  a__law_source : Addr
  d__law_source : FuncData
  F__law_source : Fun K "_law_source" "_law_source" s__law_source a__law_source d__law_source
  m__law_source : mg "_law_source" = some (.ref a__law_source)
  b__law_source : Binds K d__law_source ["_law_script", "_law_at"] []
  a__law_draw : Addr
  d__law_draw : FuncData
  F__law_draw : Fun K "_law_draw" "_law_draw" s__law_draw a__law_draw d__law_draw
  m__law_draw : mg "_law_draw" = some (.ref a__law_draw)
  b__law_draw : Binds K d__law_draw ["_law_source_here", "_law_many"] []
  a__law_pool : Addr
  d__law_pool : FuncData
  F__law_pool : Fun K "_law_pool" "_law_pool" s__law_pool a__law_pool d__law_pool
  m__law_pool : mg "_law_pool" = some (.ref a__law_pool)
  b__law_pool : Binds K d__law_pool ["_law_source_here"] []
  a__law_rule : Addr
  d__law_rule : FuncData
  F__law_rule : Fun K "_law_rule" "_law_rule" s__law_rule a__law_rule d__law_rule
  m__law_rule : mg "_law_rule" = some (.ref a__law_rule)
  b__law_rule : Binds K d__law_rule ["_law_source_here", "_law_pool_here", "_law_most_years", "_law_most_days"] []
  a__law_any : Addr
  d__law_any : FuncData
  F__law_any : Fun K "_law_any" "_law_any" s__law_any a__law_any d__law_any
  m__law_any : mg "_law_any" = some (.ref a__law_any)
  b__law_any : Binds K d__law_any ["_law_source_here"] []
  a__law_bent : Addr
  d__law_bent : FuncData
  F__law_bent : Fun K "_law_bent" "_law_bent" s__law_bent a__law_bent d__law_bent
  m__law_bent : mg "_law_bent" = some (.ref a__law_bent)
  b__law_bent : Binds K d__law_bent ["_law_source_here", "_law_value"] []
  a__law_whole : Addr
  d__law_whole : FuncData
  F__law_whole : Fun K "_law_whole" "_law_whole" s__law_whole a__law_whole d__law_whole
  m__law_whole : mg "_law_whole" = some (.ref a__law_whole)
  b__law_whole : Binds K d__law_whole ["_law_value"] []
  a__law_is_name : Addr
  d__law_is_name : FuncData
  F__law_is_name : Fun K "_law_is_name" "_law_is_name" s__law_is_name a__law_is_name d__law_is_name
  m__law_is_name : mg "_law_is_name" = some (.ref a__law_is_name)
  b__law_is_name : Binds K d__law_is_name ["_law_value"] []
  a__law_is_month : Addr
  d__law_is_month : FuncData
  F__law_is_month : Fun K "_law_is_month" "_law_is_month" s__law_is_month a__law_is_month d__law_is_month
  m__law_is_month : mg "_law_is_month" = some (.ref a__law_is_month)
  b__law_is_month : Binds K d__law_is_month ["_law_value"] []
  a__law_is_year : Addr
  d__law_is_year : FuncData
  F__law_is_year : Fun K "_law_is_year" "_law_is_year" s__law_is_year a__law_is_year d__law_is_year
  m__law_is_year : mg "_law_is_year" = some (.ref a__law_is_year)
  b__law_is_year : Binds K d__law_is_year ["_law_value"] []
  a__law_is_rule : Addr
  d__law_is_rule : FuncData
  F__law_is_rule : Fun K "_law_is_rule" "_law_is_rule" s__law_is_rule a__law_is_rule d__law_is_rule
  m__law_is_rule : mg "_law_is_rule" = some (.ref a__law_is_rule)
  b__law_is_rule : Binds K d__law_is_rule ["_law_value"] []
  a__law_is_date : Addr
  d__law_is_date : FuncData
  F__law_is_date : Fun K "_law_is_date" "_law_is_date" s__law_is_date a__law_is_date d__law_is_date
  m__law_is_date : mg "_law_is_date" = some (.ref a__law_is_date)
  b__law_is_date : Binds K d__law_is_date ["_law_value"] []
  a__law_due : Addr
  d__law_due : FuncData
  F__law_due : Fun K "_law_due" "_law_due" s__law_due a__law_due d__law_due
  m__law_due : mg "_law_due" = some (.ref a__law_due)
  b__law_due : Binds K d__law_due ["_law_plan", "_law_when"] []
  a__law_refused : Addr
  d__law_refused : FuncData
  F__law_refused : Fun K "_law_refused" "_law_refused" s__law_refused a__law_refused d__law_refused
  m__law_refused : mg "_law_refused" = some (.ref a__law_refused)
  b__law_refused : Binds K d__law_refused ["_law_plan", "_law_when"] []
  a_law : Addr
  d_law : FuncData
  F_law : Fun K "law" "law" s_law a_law d_law
  m_law : mg "law" = some (.ref a_law)
  b_law : Binds K d_law ["_law_script"] []
  n_isinstance : mg "isinstance" = none
  n_int : mg "int" = none
  n_bool : mg "bool" = none
  n_str : mg "str" = none
  n_len : mg "len" = none
  n_tuple : mg "tuple" = none
  n_all : mg "all" = none
  n_any : mg "any" = none
  n_abs : mg "abs" = none
  n_range : mg "range" = none
  n_list : mg "list" = none
  n_repr : mg "repr" = none
  n_ValueError : mg "ValueError" = none
  n_max : mg "max" = none
  n_min : mg "min" = none
  v_ValueError : PySem.W.findCls K (.type "ValueError") (.type "type") "__init__" = some (.val (.builtin "ValueError.__init__"))
  C_NoRule : Addr
  I_NoRule : Addr
  di_NoRule : FuncData
  X_NoRule : ExcTop K mg "NoRule" "NoRule.__init__" "rule" s_NoRule C_NoRule I_NoRule di_NoRule
  C_NoDate : Addr
  g_NoDate : mg "NoDate" = some (.ref C_NoDate)
  q_NoRule_ValueError : PySem.W.kitOne K (.ref C_NoRule) (.type "ValueError") = some true
  q_NoRule_NoDate : PySem.W.kitOne K (.ref C_NoRule) (.ref C_NoDate) = some false
  v_LONGEST_NAME : ∃ t, mg "LONGEST_NAME" = some (.int 8 t)
  v_MOST_DAYS : ∃ t, mg "MOST_DAYS" = some (.int 60 t)
  v_MOST_MONTHS : ∃ t, mg "MOST_MONTHS" = some (.int 13 t)
  v_MOST_YEARS : ∃ t, mg "MOST_YEARS" = some (.int 20 t)
theorem ok_init_NoRule {P : Program} {w : World} {K : PySem.W.Frag} {mg : Str → Option Value} {base : Heap} (T : Top K mg) : FnOk P w K mg base CX0 1 T.I_NoRule T.di_NoRule ["self", "rule"] (spExc T.C_NoRule "rule") := by
  refine T.X_NoRule.F.ok sc_NoRule spExc_len (fun cdv A outer s H vs Q E hr h => ?_)
  obtain ⟨a, v, rfl, ha, q⟩ := h
  refine ⟨_, pss_cons (ps_expr (pe_veinit (by rfl) T.n_ValueError T.v_ValueError (pa_cons (pv 0) (pa_cons pe_str pa_nil)))) (pss_one (ps_ost (pv 0) (pv 1))), ?_⟩
  refine ⟨.ref a, rfl, a, T.C_NoRule, _, rfl, (by show 1 ≤ 1000; decide), T.X_NoRule.o, ha, ?_⟩
  exact ⟨v, rfl, .ref a, rfl, a, T.C_NoRule, rfl, T.X_NoRule.o, T.X_NoRule.no, .inl ⟨ha, fun dx h1 h2 => q dx h1 h2⟩⟩

section
variable {P : Program} {w : World} {K : PySem.W.Frag} {mg : Str → Option Value} {base : Heap}
theorem isInt_eq (d : PyData) : isInt d = (isKint d && !isKbool d) := by cases d <;> rfl
theorem ok_is_int (T : Top K mg) : FnOk P w K mg base CX0 1 T.a_is_int T.d_is_int ["thing"] (spB K isInt) := by
  refine T.F_is_int.ok sc_is_int spB_len (fun cdv A outer s H vs Q E hr h => ?_)
  obtain ⟨v, d, rfl, hd, g, q⟩ := h
  refine ⟨_, pss_one (ps_ret (pe_and
    (pe_callB call_isiD (by rfl) T.n_isinstance (by decide +kernel) (pa_cons (pv 0) (pa_cons (pe_bltn (v := .ty "int") (by rfl) T.n_int (by decide +kernel) rfl) pa_nil)))
    (pe_one (pe_not (pe_callB call_isiD (by rfl) T.n_isinstance (by decide +kernel) (pa_cons (pv 0) (pa_cons (pe_bltn (v := .ty "bool") (by rfl) T.n_bool (by decide +kernel) rfl) pa_nil))))))), ?_⟩
  refine ⟨v, rfl, v, d, "int", _, rfl, hd, kit_int d g.fin, _, rfl, ite2 (fun h1 => ?_) (fun h1 => ?_)⟩
  · refine ⟨v, rfl, v, d, "bool", _, rfl, hd, kit_bool d g.fin, _, rfl, ?_⟩
    have e := isInt_eq d
    rw [h1, Bool.true_and] at e
    rw [← e]
    exact q H (Same.refl H)
  · have e := isInt_eq d
    rw [Bool.eq_false_iff.mpr h1, Bool.false_and] at e
    rw [← e]
    exact q H (Same.refl H)
/-! #### names -/
def lowAZ (x : Str) : Bool := x.cps.all fun c => decide (97 ≤ c ∧ c ≤ 122)
def nameStr (x : Str) : Bool := decide (1 ≤ x.length ∧ x.length ≤ 8) && lowAZ x
def isName : PyData → Bool
  | .str x => nameStr x
  | _ => false
theorem ascii_tab : ∀ c, c < 128 → (Unicode.isAlpha c = decide ((65 ≤ c ∧ c ≤ 90) ∨ (97 ≤ c ∧ c ≤ 122))) ∧ (Unicode.isLower c = decide (97 ≤ c ∧ c ≤ 122)) ∧ (Unicode.isUpper c || Unicode.isTitle c) = decide (65 ≤ c ∧ c ≤ 90) := by decide +kernel
theorem all_list (x : Str) (p : Nat → Bool) : x.cps.all p = x.cps.toList.all p := by rw [Array.all_toList]
theorem any_list (x : Str) (p : Nat → Bool) : x.cps.any p = x.cps.toList.any p := by rw [Array.any_toList]
/-- the three methods together: letters a to z alone, at least one -/
theorem three (x : Str) : (Txt.isascii x && (Txt.isalpha x && Txt.islower x)) = (decide (1 ≤ x.length) && lowAZ x) := by
  rw [Bool.eq_iff_iff]
  unfold Txt.isascii Txt.isalpha Txt.islower lowAZ
  rw [all_list, all_list, all_list, any_list, any_list]
  simp only [Bool.and_eq_true, List.all_eq_true, List.any_eq_true, Bool.not_eq_true', List.any_eq_false, decide_eq_true_eq, gt_iff_lt]
  have len : x.length = x.cps.toList.length := by rw [Array.length_toList]; rfl
  constructor
  · rintro ⟨asc, ⟨pos, alp⟩, low, noup⟩
    refine ⟨pos, fun c hc => ?_⟩
    obtain ⟨t1, t2, t3⟩ := ascii_tab c (asc c hc)
    have u := noup c hc
    have a := alp c hc
    rw [t1] at a
    have a' := of_decide_eq_true a
    rw [t3] at u
    have u' : ¬ (65 ≤ c ∧ c ≤ 90) := fun z => u (decide_eq_true z)
    omega
  · rintro ⟨pos, az⟩
    have asc : ∀ c ∈ x.cps.toList, c < 128 := fun c hc => by
      have := az c hc
      omega
    obtain ⟨c0, r, e0⟩ : ∃ c0 r, x.cps.toList = c0 :: r := by
      cases e : x.cps.toList with
      | nil =>
        rw [len, e] at pos
        exact absurd pos (by decide)
      | cons c r => exact ⟨c, r, rfl⟩
    have m0 : c0 ∈ x.cps.toList := by rw [e0]; exact List.mem_cons_self ..
    refine ⟨asc, ⟨pos, fun c hc => ?_⟩, ⟨c0, m0, ?_⟩, fun c hc => ?_⟩
    · rw [(ascii_tab c (asc c hc)).1]
      exact decide_eq_true (.inr (az c hc))
    · rw [(ascii_tab c0 (asc c0 m0)).2.1]
      exact decide_eq_true (az c0 m0)
    · rw [(ascii_tab c (asc c hc)).2.2]
      have := az c hc
      intro z
      have := of_decide_eq_true z
      omega
theorem ok_is_name (T : Top K mg) : FnOk P w K mg base CX0 1 T.a_is_name T.d_is_name ["thing"] (spB K isName) := by
  obtain ⟨t8, m8⟩ := T.v_LONGEST_NAME
  refine T.F_is_name.ok sc_is_name spB_len (fun cdv A outer s H vs Q E hr h => ?_)
  obtain ⟨v, d, rfl, hd, g, q⟩ := h
  refine ⟨_, pss_cons (ps_if (PW.pt (pw_or
      (pt_not (pt_val (pe_callB call_isiD (by rfl) T.n_isinstance (by decide +kernel) (pa_cons (pv 0) (pa_cons (pe_bltn (v := .ty "str") (by rfl) T.n_str (by decide +kernel) rfl) pa_nil)))))
      (pw_or1 (pt_cmpR op_gt (pe_callB call_len (by rfl) T.n_len PySem.boot_len (pa_cons (pv 0) pa_nil)) (pe_glob (v := .int 8) rfl m8 ⟨_, rfl⟩) (nomark _)))))
      (pss_one (ps_ret pe_bl)) pss_nil)
    (pss_one (ps_ret (pe_and (pe_m0 PySem.F.slot_str_isascii PySem.F.type_str_isascii mt_isascii (pv 0))
      (pe_and (pe_m0 PySem.F.slot_str_isalpha PySem.F.type_str_isalpha mt_isalpha (pv 0))
        (pe_one (pe_m0 PySem.F.slot_str_islower PySem.F.type_str_islower mt_islower (pv 0))))))), ?_⟩
  refine ⟨v, rfl, v, d, "str", _, rfl, hd, kit_str d g.fin, _, rfl, ?_⟩
  cases d with
  | str x =>
    cases hd
    have hx : 10 * x.length + 4 ≤ 900000 := g.wt
    have hl : x.length ≤ sizeLine := Nat.le_trans (by omega) line20
    refine iteF ⟨.str x, rfl, .str x, x.length, rfl, ⟨hl, rfl⟩, (x.length : Int), 8, rfl, rfl, _, rfl, ite2 (fun h1 => ?_) (fun h1 => ?_)⟩
    · have h2 : (8 : Int) < x.length := of_decide_eq_true h1
      have e : isName (.str x) = false := by
        show (decide (1 ≤ x.length ∧ x.length ≤ 8) && lowAZ x) = false
        rw [decide_eq_false (by omega), Bool.false_and]
      rw [e] at q
      exact q H (Same.refl H)
    · have h2 : x.length ≤ 8 := by
        have : ¬ (8 : Int) < x.length := fun z => h1 (decide_eq_true z)
        omega
      have e : isName (.str x) = (Txt.isascii x && (Txt.isalpha x && Txt.islower x)) := by
        rw [three]
        show (decide (1 ≤ x.length ∧ x.length ≤ 8) && lowAZ x) = _
        by_cases h3 : 1 ≤ x.length
        · rw [decide_eq_true h3, decide_eq_true ⟨h3, h2⟩]
        · rw [decide_eq_false h3, decide_eq_false (fun z => h3 z.1)]
      rw [e] at q
      refine ⟨.str x, rfl, ⟨x, rfl⟩, x, rfl, rfl, trivial, _, rfl, ite2 (fun a1 => ?_) (fun a1 => ?_)⟩
      · rw [a1, Bool.true_and] at q
        refine ⟨.str x, rfl, ⟨x, rfl⟩, x, rfl, rfl, trivial, _, rfl, ite2 (fun a2 => ?_) (fun a2 => ?_)⟩
        · rw [a2, Bool.true_and] at q
          exact ⟨.str x, rfl, ⟨x, rfl⟩, x, rfl, rfl, trivial, q H (Same.refl H)⟩
        · rw [Bool.eq_false_iff.mpr a2, Bool.false_and] at q
          exact q H (Same.refl H)
      · rw [Bool.eq_false_iff.mpr a1, Bool.false_and] at q
        exact q H (Same.refl H)
  | none => exact iteT (q H (Same.refl H))
  | bool b => exact iteT (q H (Same.refl H))
  | int i => exact iteT (q H (Same.refl H))
  | list xs => exact iteT (q H (Same.refl H))
  | tuple xs => exact iteT (q H (Same.refl H))
  | dict kvs => exact nomatch g.fin
/-! #### dates -/
def isDayM : PyData → Bool
  | .int i => decide (1 ≤ i ∧ i ≤ 60)
  | _ => false
theorem ne_int {a b : Int} : (!decide (V.int a = V.int b)) = true ↔ a ≠ b := by
  rw [Bool.not_eq_true', decide_eq_false_iff_not]
  exact not_congr ⟨V.int.inj, congrArg _⟩
theorem and_goal {R : Bool → Prop} {a b : Bool} (h1 : a = true → R b) (h2 : a = false → R false) : R (a && b) := by
  cases a with
  | true => exact h1 rfl
  | false => exact h2 rfl
theorem ok_is_day_of_month (T : Top K mg) : FnOk P w K mg base CX0 2 T.a_is_day_of_month T.d_is_day_of_month ["thing"] (spB K isDayM) := by
  obtain ⟨t6, m6⟩ := T.v_MOST_DAYS
  have GI : FnOk P w K mg base CX0 1 T.a_is_int T.d_is_int ["thing"] (spB K isInt) := ok_is_int T
  refine T.F_is_day_of_month.ok sc_is_day_of_month spB_len (fun cdv A outer s H vs Q E hr h => ?_)
  obtain ⟨v, d, rfl, hd, g, q⟩ := h
  refine ⟨_, pss_one (ps_ret (pe_and (pe_call GI hr (by rfl) T.m_is_int T.F_is_int.kp T.b_is_int .nil pass0 (pa_cons (pv 0) pa_nil))
    (pe_one (pe_chain op_le op_le pe_int (pv 0) (pe_glob (v := .int 60) rfl m6 ⟨_, rfl⟩))))), ?_⟩
  refine ⟨v, rfl, v, d, rfl, hd, g, fun H1 s1 => ⟨_, rfl, ite2 (fun h1 => ?_) (fun h1 => ?_)⟩⟩
  · cases d with
    | int i =>
      cases hd
      refine ⟨.int i, rfl, 1, i, rfl, rfl, _, rfl, ite2 (fun h2 => ?_) (fun h2 => ?_)⟩
      · refine ⟨i, 60, rfl, rfl, ?_⟩
        have e : isDayM (.int i) = decide (i ≤ 60) := by
          have h3 : 1 ≤ i := of_decide_eq_true h2
          show decide (1 ≤ i ∧ i ≤ 60) = _
          rw [decide_eq_decide]
          omega
        rw [e] at q
        exact q H1 s1
      · have h3 : ¬ 1 ≤ i := fun z => h2 (decide_eq_true z)
        have e : isDayM (.int i) = false := decide_eq_false (by omega)
        rw [e] at q
        exact q H1 s1
    | none => exact nomatch h1
    | bool b => exact nomatch h1
    | str x => exact nomatch h1
    | list xs => exact nomatch h1
    | tuple xs => exact nomatch h1
    | dict kvs => exact nomatch h1
  · have e : isDayM d = false := by
      cases d <;> first | rfl | exact absurd rfl h1
    rw [e] at q
    exact q H1 s1
end

section
variable {P : Program} {w : World} {K : PySem.W.Frag} {mg : Str → Option Value} {base : Heap}
/-! #### the source of the draws -/
def spSource (K : PySem.W.Frag) : Sp := fun vs H Q _ => ∃ (a : Addr) (ns : List Int) (i : Nat), vs = [.ref a, .int i] ∧ SqL K H a (ns.map V.int) ∧ i ≤ 100 ∧ ∀ p H', H p = none → Same H H' → Src H' p 0 → Q (.ref p) H'
theorem ok_source (T : Top K mg) : FnOk P w K mg base CX0 1 T.a__law_source T.d__law_source ["_law_script", "_law_at"] (spSource K) := by
  refine T.F__law_source.ok sc__law_source (fun vs H Q E h => by obtain ⟨a, ns, i, rfl, _⟩ := h; rfl) (fun cdv A outer s H vs Q E hr h => ?_)
  obtain ⟨a, ns, i, rfl, hS, hi, q⟩ := h
  refine ⟨_, pss_cons (ps_set (i := 2) sc__law_source.nd rfl (.inl rfl) (pe_ifExp (pt_cmpR op_lt (pv 1) (pe_callB call_len_seq (by rfl) T.n_len PySem.boot_len (pa_cons (pv 0) pa_nil)) (nomark _)) (pe_ix ix_list (pv 0) (pv 1) (fun _ _ => rfl)) pe_int))
    (pss_cons (ps_set (i := 3) sc__law_source.nd rfl (.inl rfl) (pe_ifExp (pt_cmpR op_ge (pe_callB call_abs (by rfl) T.n_abs (by decide +kernel) (pa_cons (pv 2) pa_nil)) (pe_op op_pow pe_int pe_int) (nomark _)) (pe_callB call_abs (by rfl) T.n_abs (by decide +kernel) (pa_cons (pv 2) pa_nil)) pe_int))
    (pss_one (ps_ret (pe_lst (pa_cons (pv 3) (pa_cons (pe_op op_mod (pe_op op_add (pe_op op_add (pe_op op_add (pe_op op_mod (pv 2) pe_int) (pe_op op_mul (pe_op op_mul pe_int (pv 1)) (pv 1))) (pe_op op_mul pe_int (pv 1))) pe_int) pe_int) (pa_cons pe_int pa_nil))))))), ?_⟩
  refine by_int (te := tIf _ _ _) (p := fun _ => True) (fun G hG => ?_) (fun c _ => ?_)
  · refine ⟨.int i, rfl, .ref a, rfl, a, _, rfl, .inl hS, (i : Int), _, rfl, rfl, _, rfl, ite2 (fun h1 => ?_) (fun h1 => hG 0 trivial)⟩
    have h2 : (i : Int) < ((ns.map V.int).length : Int) := of_decide_eq_true h1
    have h3 : i < ns.length := by
      rw [List.length_map] at h2
      omega
    have e : (ns.map V.int)[i]? = some (.int ns[i]) := by
      rw [List.getElem?_map, List.getElem?_eq_getElem h3]
      rfl
    exact ⟨.ref a, rfl, .int i, rfl, a, _, _, _, rfl, rfl, hS, atI_nat e, hG _ trivial⟩
  dsimp only [gName]
  refine by_int (te := tIf _ _ _) (p := fun g => 0 ≤ g) (fun G hG => ?_) (fun g g0 => ?_)
  · refine ⟨.int c, rfl, c, rfl, 10, 18, rfl, rfl, ⟨by decide, by decide, by decide⟩, _, _, rfl, rfl, _, rfl, ite2 (fun _ => ?_) (fun _ => hG 0 (Int.le_refl _))⟩
    exact ⟨.int c, rfl, c, rfl, hG _ (by split <;> omega)⟩
  have b1 : CMul 9973 (i : Int) := .inl ⟨by decide, by decide⟩
  have b2 : CMul (9973 * (i : Int)) (i : Int) := .inr ⟨by omega, by omega⟩
  have b3 : CMul 31 (i : Int) := .inl ⟨by decide, by decide⟩
  refine ⟨.int g, rfl, .int c, rfl, c, 2305843009213693951, rfl, rfl, (show (0 : Int) < 2305843009213693951 by decide), .int i, rfl, 9973, i, rfl, rfl, b1, .int i, rfl, _, i, rfl, rfl, b2, _, _, rfl, rfl, .int i, rfl, 31, i, rfl, rfl, b3, _, _, rfl, rfl, _, 7, rfl, rfl, _, 2305843009213693951, rfl, rfl, (show (0 : Int) < 2305843009213693951 by decide), (by show 3 ≤ sizeLine; decide), fun p np => ?_⟩
  refine q p _ np (same_new np) ⟨g, _, 0, upd_same, g0, Int.emod_nonneg _ (by decide), ?_, Int.le_refl _, Int.le_refl _⟩
  exact Int.lt_trans (Int.emod_lt_of_pos _ (by decide)) (by decide)
end

section
variable {P : Program} {w : World} {K : PySem.W.Frag} {mg : Str → Option Value} {base : Heap}
/-! #### a draw: some number below many -/
def spDraw : Sp := fun vs H Q _ => ∃ (a : Addr) (n : Nat) (many : Int), vs = [.ref a, .int many] ∧ Src H a n ∧ n + 1 ≤ most ∧ 1 ≤ many ∧ many < 2 ^ 300 ∧
  ∀ H' k, 0 ≤ k → k < many → Keeps (one (some a)) H H' → Src H' a (n + 1) → Q (.int k) H'
def primes : List V := [.int 2147483647, .int 2147483629, .int 2147483587, .int 2147483579, .int 2147483563, .int 2147483549, .int 2147483543]
theorem prime_at {k : Int} (h0 : 0 ≤ k) (h7 : k < 7) : ∃ p : Int, atI primes k = some (.int p) ∧ 0 < p ∧ p < 2 ^ 31 := by
  have : k = 0 ∨ k = 1 ∨ k = 2 ∨ k = 3 ∨ k = 4 ∨ k = 5 ∨ k = 6 := by omega
  rcases this with rfl | rfl | rfl | rfl | rfl | rfl | rfl <;> exact ⟨_, rfl, by decide, by decide⟩
theorem base_small {b t : Int} (b0 : 0 ≤ b) (b1 : b < 2 ^ 61) (t0 : 0 ≤ t) (t1 : t ≤ 2000000) : ((b + 50021 * t) * (2 * t + 3) + 6151 * t * t).natAbs < 2 ^ 100 := by
  have x := wide_lt (i := b + 50021 * t) (j := 2 * t + 3) (a := 62) (b := 32) (by omega) (by omega)
  have y := wide_lt (i := 6151 * t) (j := t) (a := 40) (b := 22) (by omega) (by omega)
  generalize (b + 50021 * t) * (2 * t + 3) = u at x ⊢
  generalize 6151 * t * t = v at y ⊢
  omega
theorem ok_draw (T : Top K mg) : FnOk P w K mg base CX0 1 T.a__law_draw T.d__law_draw ["_law_source_here", "_law_many"] spDraw := by
  refine T.F__law_draw.ok sc__law_draw (fun vs H Q E h => by obtain ⟨a, n, many, rfl, _⟩ := h; rfl) (fun cdv A outer s H vs Q E hr h => ?_)
  obtain ⟨a, n, many, rfl, ⟨g, b, t, e, g0, b0, b1, t0, tn⟩, few, m1, m2, q⟩ := h
  have nd := (sc__law_draw).nd
  refine ⟨_, pss_cons (ps_if (pt_cmpR op_gt (pe_ix ix_list (pv 0) pe_int (fun _ _ => rfl)) pe_int (nomark _))
      (pss_cons (ps_set (i := 2) sc__law_draw.nd rfl (.inl rfl) (pe_op op_mod (pe_ix ix_list (pv 0) pe_int (fun _ _ => rfl)) (pv 1)))
      (pss_cons (ps_asg (pe_op op_fdivW (pe_ix ix_list (pv 0) pe_int (fun _ _ => rfl)) (pv 1)) (pg_sub (pv 0) pe_int set_list))
      (pss_one (ps_ret (pv 2))))) pss_nil)
    (pss_cons (ps_set (i := 3) sc__law_draw.nd rfl (.inl rfl) (pe_tup (pa_cons pe_int (pa_cons pe_int (pa_cons pe_int (pa_cons pe_int (pa_cons pe_int (pa_cons pe_int (pa_cons pe_int pa_nil)))))))))
    (Evl.pss_cut (ps_asg (pe_op op_add (pe_ix ix_list (pv 0) pe_int (fun _ _ => rfl)) pe_int) (pg_sub (pv 0) pe_int set_list))
    (pss_cons (ps_set (i := 4) sc__law_draw.nd rfl (.inl rfl) (pe_ix ix_list (pv 0) pe_int (fun _ _ => rfl)))
    (pss_cons (ps_set (i := 5) sc__law_draw.nd rfl (.inl rfl) (pe_op op_add (pe_op op_mul (pe_op op_add (pe_ix ix_list (pv 0) pe_int (fun _ _ => rfl)) (pe_op op_mul pe_int (pv 4))) (pe_op op_add (pe_op op_mul pe_int (pv 4)) pe_int)) (pe_op op_mul (pe_op op_mul pe_int (pv 4)) (pv 4))))
    (pss_cons (ps_set (i := 6) sc__law_draw.nd rfl (.inl rfl) (pe_op op_mod (pe_op op_powB (pv 5) pe_int) (pe_ix ix_tup (pv 3) (pe_op op_mod (pv 4) pe_int) (fun _ _ => rfl))))
    (pss_one (ps_ret (pe_op op_mod (pe_op op_fdiv (pe_op op_mod (pe_op op_mul (pv 6) (pe_op op_add (pe_op op_add (pe_op op_fdiv (pv 6) pe_int) (pe_op op_mul pe_int (pv 4))) pe_int)) (pe_ix ix_tup (pv 3) (pe_op op_mod (pe_op op_add (pv 4) pe_int) pe_int) (fun _ _ => rfl))) pe_int) (pv 1))))))))), ?_⟩
  have mp : (0 : Int) < many := by omega
  have few' : n + 1 ≤ 1000000 := few
  refine ⟨.ref a, rfl, a, _, 0, _, rfl, rfl, SqL.of e, rfl, g, 0, rfl, rfl, _, rfl, ite2 (fun h1 => ?_) (fun h1 => ?_)⟩
  · refine ⟨.ref a, rfl, a, _, 0, _, rfl, rfl, SqL.of e, rfl, .int many, rfl, g, many, rfl, rfl, mp, ?_⟩
    refine ⟨.ref a, rfl, a, _, 0, _, rfl, rfl, SqL.of e, rfl, .int many, rfl, g, many, rfl, rfl, wide_div mp (b := 300) (by omega) (by decide) (by decide), ?_⟩
    refine ⟨.ref a, rfl, a, _, 0, 0, rfl, rfl, e, rfl, .int (g % many), rfl, ?_⟩
    refine q _ _ (Int.emod_nonneg _ (by omega)) (Int.emod_lt_of_pos _ mp) (Keeps.set (one_self a)) ⟨g / many, b, t, upd_same, Int.ediv_nonneg g0 (by omega), b0, b1, t0, by omega⟩
  · refine ⟨(by show 7 ≤ sizeLine; decide), fun p np => ?_⟩
    have npa : a ≠ p := ne_of_none e np
    have e1 : (upd H p (.tup primes)) a = some (.lst [.int g, .int b, .int t]) := by
      rw [upd_ne npa]
      exact e
    refine ⟨fun σ' H2 => ∃ u : Int, σ' = [some (.ref a), some (.int many), none, some (.ref p), none, none, none] ∧ H2 a = some (.lst [.int g, .int b, .int u]) ∧ SqT K H2 p primes ∧ Keeps (one (some a)) H H2 ∧ 0 ≤ u ∧ u ≤ n + 1, ?_, ?_⟩
    · refine ⟨.ref a, rfl, a, _, 2, _, rfl, rfl, SqL.of e1, rfl, t, 1, rfl, rfl, .ref a, rfl, a, _, 2, 2, rfl, rfl, e1, rfl, ?_⟩
      exact ⟨t + 1, rfl, upd_same, SqT.of (by rw [upd_ne npa.symm]; exact upd_same), (Keeps.new np).trans (Keeps.set (one_self a)), by omega, by omega⟩
    rintro σ' H2 ⟨u, rfl, e2, e3, kp, u0, un⟩
    have u1 : u ≤ 2000000 := by omega
    obtain ⟨p1, hp1, pp1, pl1⟩ := prime_at (k := u % 7) (Int.emod_nonneg _ (by decide)) (Int.emod_lt_of_pos _ (by decide))
    obtain ⟨p2, hp2, pp2, pl2⟩ := prime_at (k := (u + 2) % 7) (Int.emod_nonneg _ (by decide)) (Int.emod_lt_of_pos _ (by decide))
    have small := base_small b0 b1 u0 u1
    have c1 : CMul 50021 u := .inl ⟨by decide, by decide⟩
    have c2 : CMul 2 u := .inl ⟨by decide, by decide⟩
    have c3 : CMul (b + 50021 * u) (2 * u + 3) := .inr ⟨by omega, by omega⟩
    have c4 : CMul 6151 u := .inl ⟨by decide, by decide⟩
    have c5 : CMul (6151 * u) u := .inr ⟨by omega, by omega⟩
    have c6 : CMul 3 u := .inl ⟨by decide, by decide⟩
    refine ⟨.ref a, rfl, a, _, 2, _, rfl, rfl, SqL.of e2, rfl, ?_⟩
    refine ⟨.ref a, rfl, a, _, 1, _, rfl, rfl, SqL.of e2, rfl, .int u, rfl, 50021, u, rfl, rfl, c1, b, _, rfl, rfl, .int u, rfl, 2, u, rfl, rfl, c2, _, 3, rfl, rfl, _, _, rfl, rfl, c3, .int u, rfl, 6151, u, rfl, rfl, c4, .int u, rfl, _, u, rfl, rfl, c5, _, _, rfl, rfl, ?_⟩
    dsimp only
    generalize (b + 50021 * u) * (2 * u + 3) + 6151 * u * u = z at small ⊢
    have cp : CPowB z 3 := by
      refine ⟨by decide, ?_⟩
      have := PySem.Flt.log2_lt_of (n := z.natAbs) (k := 100) (by decide) small
      omega
    refine ⟨.int z, rfl, z, 3, rfl, rfl, cp, .ref p, rfl, .int u, rfl, u, 7, rfl, rfl, (show (0 : Int) < 7 by decide), p, _, _, _, rfl, rfl, e3, hp1, _, p1, rfl, rfl, pp1, ?_⟩
    have f0 : 0 ≤ z ^ (3 : Int).toNat % p1 := Int.emod_nonneg _ (by omega)
    have f1 : z ^ (3 : Int).toNat % p1 < p1 := Int.emod_lt_of_pos _ pp1
    dsimp only
    generalize z ^ (3 : Int).toNat % p1 = f at f0 f1 ⊢
    have c7 : CMul f (f / 4091 + 3 * u + 1) := .inl ⟨by omega, by omega⟩
    refine ⟨.int f, rfl, .int f, rfl, f, 4091, rfl, rfl, ⟨by decide, by decide⟩, .int u, rfl, 3, u, rfl, rfl, c6, _, _, rfl, rfl, _, 1, rfl, rfl, _, _, rfl, rfl, c7, .ref p, rfl, .int u, rfl, u, 2, rfl, rfl, _, 7, rfl, rfl, (show (0 : Int) < 7 by decide), p, _, _, _, rfl, rfl, e3, hp2, _, p2, rfl, rfl, pp2, _, 16, rfl, rfl, ⟨by decide, by decide⟩, .int many, rfl, _, many, rfl, rfl, mp, ?_⟩
    exact q H2 _ (Int.emod_nonneg _ (by omega)) (Int.emod_lt_of_pos _ mp) kp ⟨g, b, u, e2, g0, b0, b1, u0, by omega⟩
/-- draw(source, te): below what te gives -/
theorem ev_draw {S : Addr → Bool} {a : Addr} {σ : L2.St} {H0 : Hp} {i : Nat} {te : TE} {m : Nat} {p : Int → Prop} {C : PyData → Prop} (hs : σ[i]? = some (some (.ref a))) (ht : Ev K S a σ H0 te m fun d => ∃ k, d = .int k ∧ p k)
    (hp : ∀ k, p k → 1 ≤ k ∧ k < 2 ^ 300 ∧ ∀ j, 0 ≤ j → j < k → C (.int j)) : Ev K S a σ H0 (tCall spDraw [] E0 (tCons (tVar i) (tCons te tNil))) (m + 1) C := by
  intro H n Q k r b q
  refine ⟨.ref a, hs, ht H n _ k r (by omega) fun H1 v d k1 r1 hd p1 => ?_⟩
  obtain ⟨many, rfl, hm⟩ := p1
  cases hd
  obtain ⟨q1, q2, q3⟩ := hp many hm
  exact ⟨a, n + m, many, rfl, r1.src a rfl, by omega, q1, q2, fun H2 j j0 j1 k2 s2 => q H2 _ _ (k1.trans k2) (r1.stepS k2 (by rw [← Nat.add_assoc]; exact s2)) (.int j) (q3 j j0 j1)⟩
end

section
variable {P : Program} {w : World} {K : PySem.W.Frag} {mg : Str → Option Value} {base : Heap}
/-! #### any value of a menu -/
def anys1 : List PyData := [.none, .bool true, .bool false, .int 0, .int 1, .int (-1), .int 60, .int 61, .int 13, .int (10 ^ 40), .str "", .str "a", .str "A", .str "ab", .str "abcdefgh", .str "abcdefghi", .str "a1", .str "a b"]
def anys2 : List PyData := [.tuple [], .list [], .tuple [.str "a"], .tuple [.str "a", .int 1], .list [.str "a", .int 1], .tuple [.str "a", .int 0], .tuple [.str "a", .int 61], .tuple [.str "a", .bool true], .tuple [.tuple [.tuple [.str "a", .int 1]]], .list [.tuple [.tuple [.str "a", .int 1]]]]
def anys : List PyData := anys1 ++ anys2
theorem anys_ok : (anys.all fun d => fine d && (decide (wt d ≤ 2000) && decide (d.depth ≤ 4))) = true := by decide +kernel
theorem any_good {d : PyData} (h : d ∈ anys) : Good 2000 4 d := by
  have h1 := List.all_eq_true.mp anys_ok d h
  rw [Bool.and_eq_true, Bool.and_eq_true] at h1
  exact ⟨h1.1, of_decide_eq_true h1.2.1, of_decide_eq_true h1.2.2⟩
def spAny (K : PySem.W.Frag) : Sp := spRng K 1 (fun ds => ds = []) (fun _ d => d ∈ anys)
theorem ok_any (T : Top K mg) : FnOk P w K mg base CX0 2 T.a__law_any T.d__law_any ["_law_source_here"] (spAny K) := by
  have GD : FnOk P w K mg base CX0 1 T.a__law_draw T.d__law_draw ["_law_source_here", "_law_many"] spDraw := ok_draw T
  refine T.F__law_any.ok sc__law_any (spRng_len fun ds e => by rw [e]; rfl) (fun cdv A outer s H vs Q E hr h => ?_)
  obtain ⟨a, S, ws, ds, n, rfl, r, few, hw, rfl, q⟩ := h
  obtain rfl := DfAll.n hw
  refine ⟨_, pss_cons (ps_set (i := 1) sc__law_any.nd rfl (.inl rfl) (pe_lst (pa_cons pe_non (pa_cons pe_bl (pa_cons pe_bl (pa_cons pe_int (pa_cons pe_int (pa_cons (pe_un un_neg pe_int) (pa_cons pe_int (pa_cons pe_int (pa_cons pe_int (pa_cons (pe_op op_pow pe_int pe_int) (pa_cons pe_str (pa_cons pe_str (pa_cons pe_str (pa_cons pe_str (pa_cons pe_str (pa_cons pe_str (pa_cons pe_str (pa_cons pe_str pa_nil))))))))))))))))))))
    (pss_cons (ps_set (i := 1) sc__law_any.nd rfl (.inl rfl) (pe_op op_catQ (pv 1) (pe_lst (pa_cons (pe_tupF pa_nil) (pa_cons (pe_lst pa_nil) (pa_cons (pe_tupF (pa_cons pe_str pa_nil)) (pa_cons (pe_tupF (pa_cons pe_str (pa_cons pe_int pa_nil))) (pa_cons (pe_lst (pa_cons pe_str (pa_cons pe_int pa_nil))) (pa_cons (pe_tupF (pa_cons pe_str (pa_cons pe_int pa_nil))) (pa_cons (pe_tupF (pa_cons pe_str (pa_cons pe_int pa_nil))) (pa_cons (pe_tupF (pa_cons pe_str (pa_cons pe_bl pa_nil))) (pa_cons (pe_tupF (pa_cons (pe_tupF (pa_cons (pe_tupF (pa_cons pe_str (pa_cons pe_int pa_nil))) pa_nil)) pa_nil)) (pa_cons (pe_lst (pa_cons (pe_tupF (pa_cons (pe_tupF (pa_cons pe_str (pa_cons pe_int pa_nil))) pa_nil)) pa_nil)) pa_nil)))))))))))))
    (pss_one (ps_ret (pe_ix ix_list (pv 1) (pe_call GD hr (by rfl) T.m__law_draw T.F__law_draw.kp T.b__law_draw .nil pass0 (pa_cons (pv 0) (pa_cons (pe_callB call_len_seq (by rfl) T.n_len PySem.boot_len (pa_cons (pv 1) pa_nil)) pa_nil))) (fun _ _ => rfl))))), ?_⟩
  refine ev_set (K := K) (· = .list anys1) 0 r (most0 few) ?_ fun H1 v1 d1 k1 r1 hd1 e1 => ?_
  · exact (ev_l (eva_c (ev_non rfl) (eva_c (ev_bl rfl) (eva_c (ev_bl rfl) (eva_c (ev_int rfl) (eva_c (ev_int rfl) (eva_c ev_negC (eva_c (ev_int rfl) (eva_c (ev_int rfl) (eva_c (ev_int rfl) (eva_c (ev_powC ⟨by decide, by decide, by decide⟩) (eva_c (ev_str rfl) (eva_c (ev_str rfl) (eva_c (ev_str rfl) (eva_c (ev_str rfl) (eva_c (ev_str rfl) (eva_c (ev_str rfl) (eva_c (ev_str rfl) (eva_c (ev_str rfl) eva_n)))))))))))))))))) (by decide))
  subst e1
  refine ev_set (K := K) (· = .list anys) 0 r1 (most0 few) ?_ fun H2 v2 d2 k2 r2 hd2 e2 => ?_
  · exact (ev_catL (m1 := 0) (m2 := 0) (P1 := (· = .list anys1)) (P2 := (· = .list anys2)) (ev_var (i := 1) rfl hd1 rfl) (ev_l (eva_c (ev_t eva_n (by decide)) (eva_c (ev_l eva_n (by decide)) (eva_c (ev_t (eva_c (ev_str rfl) eva_n) (by decide)) (eva_c (ev_t (eva_c (ev_str rfl) (eva_c (ev_int rfl) eva_n)) (by decide)) (eva_c (ev_l (eva_c (ev_str rfl) (eva_c (ev_int rfl) eva_n)) (by decide)) (eva_c (ev_t (eva_c (ev_str rfl) (eva_c (ev_int rfl) eva_n)) (by decide)) (eva_c (ev_t (eva_c (ev_str rfl) (eva_c (ev_int rfl) eva_n)) (by decide)) (eva_c (ev_t (eva_c (ev_str rfl) (eva_c (ev_bl rfl) eva_n)) (by decide)) (eva_c (ev_t (eva_c (ev_t (eva_c (ev_t (eva_c (ev_str rfl) (eva_c (ev_int rfl) eva_n)) (by decide)) eva_n) (by decide)) eva_n) (by decide)) (eva_c (ev_l (eva_c (ev_t (eva_c (ev_t (eva_c (ev_str rfl) (eva_c (ev_int rfl) eva_n)) (by decide)) eva_n) (by decide)) eva_n) (by decide)) eva_n)))))))))) (by decide))
    (fun d e h1 h2 => ⟨_, _, h1, h2, by decide, rfl⟩))
  subst e2
  refine ev_ret (K := K) (· ∈ anys) 1 r2 few ?_ fun H3 v d k3 r3 hd m => q H3 v d (k1.trans (k2.trans k3)) r3 hd m
  · exact (ev_ixL (m1 := 0) (m2 := 1) (P1 := (· = .list anys)) (P2 := fun e => ∃ k : Int, e = .int k ∧ 0 ≤ k ∧ k < 28) (ev_var (i := 1) rfl hd2 rfl)
    (ev_draw (m := 0) (p := (· = 28)) rfl (ev_len (eva_c (ev_var (i := 1) rfl hd2 rfl) eva_n) (fun ds e => ⟨anys, .inl e, _, rfl, rfl⟩)) (fun k e => by subst e; exact ⟨by decide, by decide, fun j j0 j1 => ⟨j, rfl, j0, j1⟩⟩))
    (fun d e h1 ⟨k, h2, k0, k1⟩ => by
      have hk : k.toNat < anys.length := by
        show k.toNat < 28
        omega
      refine ⟨anys, k, anys[k.toNat], h1, h2, ?_, List.getElem_mem hk⟩
      have := atI_nat (List.getElem?_eq_getElem hk)
      rwa [Int.toNat_of_nonneg k0] at this))
end

section
variable {P : Program} {w : World} {K : PySem.W.Frag} {mg : Str → Option Value} {base : Heap}
/-! #### a value with a part of it bent -/
def bentM (j : Nat) : Nat := 4 * (j + 1)
def BentPre (B j : Nat) (ds : List PyData) : Prop := ∃ d, ds = [d] ∧ fineB B d = true ∧ wt d ≤ 100000 ∧ d.depth ≤ j
def BentPost (B : Nat) (ds : List PyData) (d' : PyData) : Prop := ∀ d, ds = [d] → BentTo B d d'
def spBent (K : PySem.W.Frag) (B j : Nat) : Sp := spRng K (bentM j) (BentPre B j) (BentPost B)
def spBent' (K : PySem.W.Frag) (B : Nat) : Nat → Sp
  | 0 => fun _ _ _ _ => False
  | j + 1 => spBent K B j
theorem bentPre_len {B j : Nat} : ∀ ds, BentPre B j ds → ds.length = 1 := fun ds ⟨d, e, _⟩ => by rw [e]; rfl
/-- isinstance(value, T) asked of slot i, as a test: the heap stays -/
theorem isi_test {T : String} {i : Nat} {σ : L2.St} {H : Hp} {v : V} {d : PyData} {b : Bool} {Q : Bool → Hp → Prop} (hs : σ[i]? = some (some v)) (hd : Df K H v d) (hk : kitB (tyName d) T = some b) (q : Q b H) :
    tB (tCB (fun xs H Q => ∃ v d T b, xs = [v, .ty T] ∧ Df K H v d ∧ kitB (tyName d) T = some b ∧ Q (.bl b) H) (tCons (tVar i) (tCons (tC (.ty T)) tNil))) σ H Q :=
  ⟨v, hs, v, d, T, b, rfl, hd, hk, b, rfl, q⟩
theorem isK_tup {d : PyData} (h : isKtuple d = true) : ∃ ds, d = .tuple ds := by
  cases d with
  | tuple ds => exact ⟨ds, rfl⟩
  | _ => exact nomatch h
theorem isK_str {d : PyData} (h : isKstr d = true) : ∃ x, d = .str x := by
  cases d with
  | str x => exact ⟨x, rfl⟩
  | _ => exact nomatch h
theorem isK_int {d : PyData} (h : isKint d = true) (h' : isKbool d = false) : ∃ i, d = .int i := by
  cases d with
  | int i => exact ⟨i, rfl⟩
  | bool b => exact nomatch h'
  | _ => exact nomatch h
mutual
theorem lay_of {B : Nat} : ∀ d : PyData, fineB B d = true → d.canLay0 = true
  | .none, _ => rfl
  | .bool _, _ => rfl
  | .int _, _ => rfl
  | .str x, h => by
    show x.cps.all (· < 0x110000) = true
    have h2 : ∀ c ∈ x.cps.toList, c < 128 := tidy_iff.mp h
    rw [← Array.all_toList, List.all_eq_true]
    exact fun c hc => decide_eq_true (Nat.lt_trans (h2 c hc) (by decide))
  | .list xs, h => layAll_of xs h
  | .tuple xs, h => layAll_of xs h
  | .dict _, h => nomatch h
theorem layAll_of {B : Nat} : ∀ ds : List PyData, fineAllB B ds = true → PyData.canLayAll0 ds = true
  | [], _ => rfl
  | x :: xs, h => by
    obtain ⟨h1, h2⟩ := Bool.and_eq_true_iff.mp (show (fineB B x && fineAllB B xs) = true from h)
    show (x.canLay0 && PyData.canLayAll0 xs) = true
    rw [lay_of x h1, layAll_of xs h2]
    rfl
end
theorem shaped_of {B : Nat} {d : PyData} (h : fineB B d = true) (h2 : d.depth ≤ 60) : SeqAt.shaped d = true := by
  show (d.canLay0 && decide (d.depth ≤ 64)) = true
  rw [lay_of d h, decide_eq_true (by omega)]
  rfl
theorem eqv_nil (ds : List PyData) : PyData.eqv (.tuple ds) (.tuple []) = ds.isEmpty := by
  cases ds with
  | nil => rfl
  | cons d r => rfl
theorem wtAll_drop_le (k : Nat) (ds : List PyData) : wtAll (ds.drop k) ≤ wtAll ds := by
  have := wtAll_take k ds
  omega
theorem wtAll_take_le (k : Nat) (ds : List PyData) : wtAll (ds.take k) ≤ wtAll ds := by
  have := wtAll_take k ds
  omega
theorem drop_at {ds : List PyData} {k : Nat} {e : PyData} (h : ds[k]? = some e) : wtAll (ds.take k) + (wt e + 4) + wtAll (ds.drop (k + 1)) = wtAll ds := by
  have h1 := wtAll_take k ds
  obtain ⟨hk, he⟩ := List.getElem?_eq_some_iff.mp h
  have h2 : ds.drop k = e :: ds.drop (k + 1) := by rw [List.drop_eq_getElem_cons hk, he]
  rw [h2] at h1
  have h3 : wtAll (e :: ds.drop (k + 1)) = wt e + 4 + wtAll (ds.drop (k + 1)) := rfl
  omega
theorem bent_any {B : Nat} {d o : PyData} (hB : 10 ^ 41 ≤ B) (ho : o ∈ anys) : BentTo B d o := by
  have g := any_good ho
  have f : (anys.all fun d => fineB (10 ^ 41) d) = true := by decide +kernel
  have f1 := List.all_eq_true.mp f o ho
  exact ⟨fineB_mono (by omega) o f1, by have := g.wt; omega, by have := g.dp; omega⟩
theorem anyB {B : Nat} {o : PyData} (hB : 10 ^ 41 ≤ B) (ho : o ∈ anys) : fineB (B + 60) o = true ∧ wt o ≤ 2000 ∧ o.depth ≤ 4 :=
  ⟨(bent_any (d := .none) hB ho).fin, (any_good ho).wt, (any_good ho).dp⟩
theorem bent_int {B : Nat} {i k : Int} (hi : i.natAbs < B) (hk : k.natAbs ≤ 60) : BentTo B (.int i) (.int (i + k)) :=
  ⟨decide_eq_true (by omega), by show 300 ≤ 2 * 300 + 3000; omega, Nat.zero_le _⟩
theorem bent_strI {B : Nat} {i : Int} (hi : i.natAbs < 10 ^ 80) : BentTo B (.int i) (.str (toString i)) := by
  refine ⟨tidy_int i, ?_, Nat.zero_le _⟩
  have := int_text_length_le10 (k := 80) (by decide) hi
  show 10 * (Str.ofString (toString i)).length + 4 ≤ 2 * 300 + 3000
  rw [ofS_len]
  omega
theorem bent_str {B : Nat} {x y : Str} (hy : tidy y = true) (hl : y.length ≤ x.length + 1) : BentTo B (.str x) (.str y) :=
  ⟨hy, by show 10 * y.length + 4 ≤ 2 * (10 * x.length + 4) + 3000; omega, Nat.zero_le _⟩
end

section
variable {P : Program} {w : World} {K : PySem.W.Frag} {mg : Str → Option Value} {base : Heap}
theorem way_lt {w k : Int} (h : decide (w < k) = true) : w < k := of_decide_eq_true h
theorem ok_bent_step (T : Top K mg) (B j : Nat) (hB : 10 ^ 41 ≤ B) (hB2 : B ≤ 10 ^ 79) (hj : j ≤ 40) (GB : FnOk P w K mg base CX0 (2 + j) T.a__law_bent T.d__law_bent ["_law_source_here", "_law_value"] (spBent' K B j)) :
    FnOk P w K mg base CX0 (2 + j + 1) T.a__law_bent T.d__law_bent ["_law_source_here", "_law_value"] (spBent K B j) := by
  have GD : FnOk P w K mg base CX0 1 T.a__law_draw T.d__law_draw ["_law_source_here", "_law_many"] spDraw := ok_draw T
  have GA : FnOk P w K mg base CX0 2 T.a__law_any T.d__law_any ["_law_source_here"] (spAny K) := ok_any T
  refine T.F__law_bent.ok sc__law_bent (spRng_len bentPre_len) (fun cdv A outer s H vs Q E hr h => ?_)
  obtain ⟨a, S, ws, ds0, n, rfl, r, few, hws, ⟨d, rfl, hf, hwt, hdp⟩, q⟩ := h
  obtain ⟨v, rest, rfl, hd, hrest⟩ := DfAll.c hws
  obtain rfl := DfAll.n hrest
  have hr1 : Room 1 _ := hr.mono (by omega)
  have hr2 : Room 2 _ := hr.mono (by omega)
  have f80 : fine d = true := fineB_mono (Nat.le_trans hB2 (by decide)) d hf
  have M : n + bentM j ≤ 1000000 := few
  have Mj : 4 ≤ bentM j := by unfold bentM; omega
  have fin : ∀ (m : Nat) (H' : Hp) (v' : V) (d' : PyData), m ≤ n + bentM j → Keeps (one (some a)) H H' → Rn S a m H' → Df K (hid S H') v' d' → BentTo B d d' → Q v' H' :=
    fun m H' v' d' hm k' r' hd' b' => q H' v' d' k' (r'.up hm) hd' fun d0 e => by cases e; exact b'
  refine ⟨_, Evl.pss_cut (ps_if (PW.pt (pw_and (pt_val (pe_callB call_isiD (by rfl) T.n_isinstance (by decide +kernel) (pa_cons (pv 1) (pa_cons (pe_bltn (v := .ty "tuple") (by rfl) T.n_tuple (by decide +kernel) rfl) pa_nil)))) (pw_and (pt_cmpR (op_neD hr.units) (pv 1) (pe_tupF pa_nil) (nomark _)) (pw_and1 (pt_cmpR op_gt (pe_call GD hr1 (by rfl) T.m__law_draw T.F__law_draw.kp T.b__law_draw .nil pass0 (pa_cons (pv 0) (pa_cons pe_int pa_nil))) pe_int (nomark _))))))
      (pss_cons (ps_set (i := 2) sc__law_bent.nd rfl (.inl rfl) (pe_call GD hr1 (by rfl) T.m__law_draw T.F__law_draw.kp T.b__law_draw .nil pass0 (pa_cons (pv 0) (pa_cons (pe_callB call_len_seq (by rfl) T.n_len PySem.boot_len (pa_cons (pv 1) pa_nil)) pa_nil)))) (pss_one (ps_ret (pe_op (op_catF (by rfl)) (pe_op (op_catF (by rfl)) (pe_slice (sl_tupF (by rfl)) (pv 1) po_none (po_some (pv 2))) (pe_tupF (pa_cons (pe_call GB hr (by rfl) T.m__law_bent T.F__law_bent.kp T.b__law_bent .nil pass0 (pa_cons (pv 0) (pa_cons (pe_ix ix_tup (pv 1) (pv 2) (fun _ _ => rfl)) pa_nil))) pa_nil))) (pe_slice (sl_tupF (by rfl)) (pv 1) (po_some (pe_op op_add (pv 2) pe_int)) po_none))))) pss_nil)
    (pss_cons (ps_par (i := 3) (j := 4) (by rfl) sc__law_bent.nd rfl rfl (by decide) rfl rfl (pa_cons (pe_call GA hr2 (by rfl) T.m__law_any T.F__law_any.kp T.b__law_any .nil pass0 (pa_cons (pv 0) pa_nil)) (pa_cons (pe_call GD hr1 (by rfl) T.m__law_draw T.F__law_draw.kp T.b__law_draw .nil pass0 (pa_cons (pv 0) (pa_cons pe_int pa_nil))) pa_nil)) (by rfl))
    (Evl.pss_cut (ps_if (PW.pt (pw_and (pt_val (pe_callB call_isiD (by rfl) T.n_isinstance (by decide +kernel) (pa_cons (pv 1) (pa_cons (pe_bltn (v := .ty "tuple") (by rfl) T.n_tuple (by decide +kernel) rfl) pa_nil)))) (pw_and1 (pt_cmpR op_lt (pv 4) pe_int (nomark _)))))
      (pss_cons (ps_set (i := 2) sc__law_bent.nd rfl (.inl rfl) (pe_call GD hr1 (by rfl) T.m__law_draw T.F__law_draw.kp T.b__law_draw .nil pass0 (pa_cons (pv 0) (pa_cons (pe_op op_add (pe_callB call_len_seq (by rfl) T.n_len PySem.boot_len (pa_cons (pv 1) pa_nil)) pe_int) pa_nil)))) (pss_cons (ps_set (i := 5) sc__law_bent.nd rfl (.inl rfl) (pe_lst (pa_cons (pe_callTy call_list_of (by rfl) T.n_list (by decide +kernel) (pa_cons (pv 1) pa_nil)) (pa_cons (pe_op (op_catF (by rfl)) (pe_slice (sl_tupF (by rfl)) (pv 1) po_none (po_some (pv 2))) (pe_slice (sl_tupF (by rfl)) (pv 1) (po_some (pe_op op_add (pv 2) pe_int)) po_none)) (pa_cons (pe_op (op_catF (by rfl)) (pe_op (op_catF (by rfl)) (pe_slice (sl_tupF (by rfl)) (pv 1) po_none (po_some (pv 2))) (pe_tupF (pa_cons (pv 3) pa_nil))) (pe_slice (sl_tupF (by rfl)) (pv 1) (po_some (pv 2)) po_none)) (pa_cons (pe_revT (pv 1)) pa_nil)))))) (pss_one (ps_ret (pe_ix ix_list (pe_op op_catQ (pv 5) (pe_lst (pa_cons (pe_op (op_catF (by rfl)) (pe_slice (sl_tupF (by rfl)) (pv 1) po_none (po_some (pe_op op_add (pv 2) pe_int))) (pe_slice (sl_tupF (by rfl)) (pv 1) (po_some (pv 2)) po_none)) pa_nil))) (pv 4) (fun _ _ => rfl)))))) pss_nil)
    (Evl.pss_cut (ps_if (PW.pt (pw_and (pt_val (pe_callB call_isiD (by rfl) T.n_isinstance (by decide +kernel) (pa_cons (pv 1) (pa_cons (pe_bltn (v := .ty "int") (by rfl) T.n_int (by decide +kernel) rfl) pa_nil)))) (pw_and (pt_not (pt_val (pe_callB call_isiD (by rfl) T.n_isinstance (by decide +kernel) (pa_cons (pv 1) (pa_cons (pe_bltn (v := .ty "bool") (by rfl) T.n_bool (by decide +kernel) rfl) pa_nil))))) (pw_and1 (pt_cmpR op_lt (pv 4) pe_int (nomark _))))))
      (pss_one (ps_ret (pe_ix ix_list (pe_lst (pa_cons (pe_op op_add (pv 1) pe_int) (pa_cons (pe_op op_sub (pv 1) pe_int) (pa_cons (pe_cmpR op_eq (pv 1) pe_int (nomark _)) (pa_cons (pe_op op_add (pv 1) pe_int) (pa_cons (pe_callTy call_str_int (by rfl) T.n_str (by decide +kernel) (pa_cons (pv 1) pa_nil)) pa_nil)))))) (pv 4) (fun _ _ => rfl)))) pss_nil)
    (Evl.pss_cut (ps_if (PW.pt (pw_and (pt_val (pe_callB call_isiD (by rfl) T.n_isinstance (by decide +kernel) (pa_cons (pv 1) (pa_cons (pe_bltn (v := .ty "str") (by rfl) T.n_str (by decide +kernel) rfl) pa_nil)))) (pw_and1 (pt_cmpR op_lt (pv 4) pe_int (nomark _)))))
      (pss_one (ps_ret (pe_ix ix_list (pe_lst (pa_cons (pe_op op_add_str (pv 1) pe_str) (pa_cons (pe_m0 PySem.F.slot_str_upper PySem.F.type_str_upper mt_upper (pv 1)) (pa_cons (pe_slice sl_str (pv 1) (po_some pe_int) po_none) (pa_cons (pe_op op_add_str (pv 1) pe_str) pa_nil))))) (pv 4) (fun _ _ => rfl)))) pss_nil)
    (pss_one (ps_ret (pv 3))))))), ?_⟩
  refine ⟨fun σ' H' => σ' = [some (.ref a), some v, none, none, none, none] ∧ Keeps (one (some a)) H H' ∧ Rn S a (n + 1) H', ?_, ?_⟩
  · refine ⟨v, rfl, v, d, "tuple", _, rfl, Df.bare hd, kit_tuple d f80, _, rfl, ite2 (fun t1 => ?_) (fun t1 => iteF ⟨rfl, Keeps.rfl, r.up (by omega)⟩)⟩
    obtain ⟨ds, rfl⟩ := isK_tup t1
    refine ⟨v, rfl, Nat.zero_le _, fun p ob np hob => ⟨.tuple ds, .tuple [], (Df.to (Df.bare hd) (same_new np)).dp, .tup (.inl (.inr ⟨ob, upd_same⟩)) .nil, shaped_of hf (by omega), rfl, _, rfl, ite2 (fun t2 => ?_) (fun t2 => iteF ⟨rfl, Keeps.new np, (r.same (same_new np)).up (by omega)⟩)⟩⟩
    have r1 : Rn S a n (upd H p (.frz ob (.tup []))) := r.same (same_new np)
    have k1 : Keeps (one (some a)) H (upd H p (.frz ob (.tup []))) := Keeps.new np
    refine ⟨.ref a, rfl, a, n, 4, rfl, r1.src a rfl, by show n + 1 ≤ 1000000; omega, by decide, by decide, fun H2 z z0 z4 k2' s2 => ⟨z, 0, rfl, rfl, _, rfl, ite2 (fun t3 => ?_) (fun t3 => ⟨rfl, k1.trans k2', r1.stepS k2' s2⟩)⟩⟩
    have r2 : Rn S a (n + 1) H2 := r1.stepS k2' s2
    have k2 : Keeps (one (some a)) H H2 := k1.trans k2'
    have hd2 : Df K (hid S H2) v (.tuple ds) := Df.keep hd (keeps_one r.sa k2)
    have ne : ds ≠ [] := fun e => by
      rw [e] at t2
      exact absurd t2 (by decide)
    have dpos : 0 < ds.length := List.length_pos_iff.mpr ne
    have small : 4 * ds.length ≤ 100000 := by
      have h1 := wtAll_len ds
      have h2 : wt (.tuple ds) = wtAll ds + 4 := rfl
      omega
    refine ev_set (K := K) (fun e => ∃ k : Int, e = .int k ∧ 0 ≤ k ∧ k < ds.length) 1 r2 (show n + 1 + 1 ≤ 1000000 by omega) ?_ fun H3 wat dat k3' r3 hat ⟨k, ek, k0, kl⟩ => ?_
    · exact ev_draw (m := 0) (p := (· = (ds.length : Int))) rfl (ev_len (eva_c (ev_var (i := 1) rfl hd2 rfl) eva_n) (fun l e => ⟨ds, .inr e, _, rfl, rfl⟩))
        (fun k e => by subst e; exact ⟨by omega, by omega, fun j j0 j1 => ⟨j, rfl, j0, j1⟩⟩)
    subst ek
    obtain ⟨kk, rfl⟩ : ∃ kk : Nat, k = kk := ⟨k.toNat, by omega⟩
    have hd3 : Df K (hid S H3) v (.tuple ds) := Df.keep hd2 (keeps_one r.sa k3')
    have hkk : kk < ds.length := by omega
    have hel : ds[kk]? = some ds[kk] := List.getElem?_eq_getElem hkk
    obtain ⟨j', rfl⟩ : ∃ j', j = j' + 1 := by
      cases j with
      | zero => exact absurd hdp (by show ¬ (PyData.depthAll ds + 1 ≤ 0); omega)
      | succ j' => exact ⟨j', rfl⟩
    have e1 : bentM (j' + 1) = bentM j' + 4 := rfl
    have mem : ds[kk] ∈ ds := List.getElem_mem hkk
    have elw := wtAll_mem mem
    have eld := depth_mem mem
    have elf := fineAllB_iff.mp (show fineAllB B ds = true from hf) _ mem
    have h3 : wt (.tuple ds) = wtAll ds + 4 := rfl
    have h6 : (PyData.tuple ds).depth = PyData.depthAll ds + 1 := rfl
    refine ev_ret (K := K) (BentTo B (.tuple ds)) (bentM j') r3 (show n + 1 + 1 + bentM j' ≤ 1000000 by omega) ?_ fun H4 v4 d4 k4 r4 hd4 b4 => fin _ H4 v4 d4 (by omega) (k2.trans (k3'.trans k4)) r4 hd4 b4
    refine Ev.up (m1 := 0 + 0 + 0 + (0 + (0 + 0 + 0) + bentM j' + 0) + (0 + (0 + 0) + 0)) ?_ (by omega)
    refine ev_catT (P1 := fun d1 => ∃ e', d1 = .tuple (ds.take kk ++ [e']) ∧ BentTo B ds[kk] e') (P2 := (· = .tuple (ds.drop (kk + 1)))) ?_ ?_ ?_
    · refine ev_catT (P1 := (· = .tuple (ds.take kk))) (P2 := fun d1 => ∃ e', d1 = .tuple [e'] ∧ BentTo B ds[kk] e') ?_ ?_ ?_
      · exact ev_cut (P1 := (· = .tuple ds)) (ev_var (i := 1) rfl hd3 rfl) evo_none (evo_some (p := (· = (kk : Int))) (ev_var (i := 2) rfl hat ⟨_, rfl, rfl⟩)) (fun d lo hi q1 q2 ⟨i, q3, q4⟩ => by
          subst q1 q2 q3 q4
          exact ⟨ds, rfl, by rw [cutD_to]⟩)
      · refine ev_tup (R := fun l => ∃ e', l = [e'] ∧ BentTo B ds[kk] e') ?_ (fun l ⟨e', h, _⟩ => by rw [h]; exact (by decide : 1 ≤ 100000)) (fun l ⟨e', h, b⟩ => ⟨e', by rw [h], b⟩)
        refine eva_cons (P := BentTo B ds[kk]) (R1 := (· = [])) ?_ eva_n (fun d l b e => ⟨d, by rw [e], b⟩)
        refine ev_rng (R := (· = [ds[kk]])) rfl (eva_cons (P := (· = ds[kk])) (R1 := (· = [])) ?_ eva_n (fun d l b e => by rw [b, e])) (fun l e => ⟨ds[kk], e, elf, by omega, by omega⟩) (fun l d e p => p _ e)
        exact ev_ixT (P1 := (· = .tuple ds)) (P2 := (· = .int (kk : Int))) (ev_var (i := 1) rfl hd3 rfl) (ev_var (i := 2) rfl hat rfl) (fun d e q1 q2 => ⟨ds, kk, ds[kk], q1, q2, atI_nat hel, rfl⟩)
      · rintro d e q1 ⟨e', q2, b⟩
        refine ⟨_, _, q1, q2, ?_, e', rfl, b⟩
        rw [List.length_take, List.length_singleton]
        omega
    · exact ev_cut (P1 := (· = .tuple ds)) (ev_var (i := 1) rfl hd3 rfl) (evo_some (p := (· = ((kk + 1 : Nat) : Int))) (ev_ints (p1 := (· = (kk : Int))) (p2 := (· = 1)) (ev_var (i := 2) rfl hat ⟨_, rfl, rfl⟩) (ev_intE rfl) (fun i j q1 q2 => ⟨_, rfl, by subst q1 q2; rfl⟩))) evo_none (fun d lo hi q1 ⟨i, q3, q4⟩ q2 => by
          subst q1 q2 q3 q4
          exact ⟨ds, rfl, by rw [cutD_from]⟩)
    · rintro d e ⟨e', q1, b⟩ q2
      refine ⟨_, _, q1, q2, ?_, (bent_seq hf (fun x hx => ?_) ?_).1⟩
      · rw [List.length_append, List.length_take, List.length_singleton, List.length_drop]
        omega
      · rcases List.mem_append.mp hx with hx | hx
        · rcases List.mem_append.mp hx with hx | hx
          · exact .inl (List.mem_of_mem_take hx)
          · rw [List.mem_singleton.mp hx]
            exact .inr ⟨b.fin, by have := b.dp; omega⟩
        · exact .inl (List.mem_of_mem_drop hx)
      · rw [wtAll_append, wtAll_append, wtAll_one]
        have := drop_at hel
        have := b.sz
        omega
  rintro σ' H1 ⟨rfl, k1, r1⟩
  have hd1 : Df K (hid S H1) v d := Df.keep hd (keeps_one r.sa k1)
  refine ev_par (K := K) (· ∈ anys) (fun e => ∃ i : Int, e = .int i ∧ 0 ≤ i ∧ i < 8) 2 r1 (show n + 1 + 2 ≤ 1000000 by omega) ?_ fun H2 vo vw o dw k2' r2 ho hw po ⟨way, ew, w0, w8⟩ => ?_
  · refine eva_cons (m1 := 1) (m2 := 1) (P := (· ∈ anys)) (R1 := fun l => ∃ e, l = [e] ∧ ∃ i : Int, e = .int i ∧ 0 ≤ i ∧ i < 8) ?_ ?_ (fun d l q1 ⟨e, q2, q3⟩ => ⟨d, e, by rw [q2], q1, q3⟩)
    · exact ev_rng (m1 := 0) (m := 1) (R := (· = [])) rfl eva_n (fun _ e => e) (fun _ _ _ p => p)
    · refine eva_cons (m1 := 1) (m2 := 0) (P := fun e => ∃ i : Int, e = .int i ∧ 0 ≤ i ∧ i < 8) (R1 := (· = [])) ?_ eva_n (fun d l q1 q2 => ⟨d, by rw [q2], q1⟩)
      exact ev_draw (m := 0) (p := (· = 8)) rfl (ev_intE rfl) (fun k e => by subst e; exact ⟨by decide, by decide, fun j j0 j1 => ⟨j, rfl, j0, j1⟩⟩)
  subst ew
  cases hw
  have k2 : Keeps (one (some a)) H H2 := k1.trans k2'
  have hd2 : Df K (hid S H2) v d := Df.keep hd1 (keeps_one r.sa k2')
  -- a tuple
  refine ⟨fun σ' H' => σ' = [some (.ref a), some v, none, some vo, some (.int way), none] ∧ H2 = H', ?_, ?_⟩
  · refine ⟨v, rfl, v, d, "tuple", _, rfl, Df.bare hd2, kit_tuple d f80, _, rfl, ite2 (fun t1 => ?_) (fun t1 => iteF ⟨rfl, rfl⟩)⟩
    refine ⟨.int way, rfl, way, 5, rfl, rfl, _, rfl, ite2 (fun t2 => ?_) (fun t2 => ⟨rfl, rfl⟩)⟩
    have w5 : way < 5 := of_decide_eq_true t2
    obtain ⟨ds, rfl⟩ := isK_tup t1
    have h3 : wt (.tuple ds) = wtAll ds + 4 := rfl
    have small : 4 * ds.length ≤ 100000 := by
      have h1 := wtAll_len ds
      omega
    have hff : fineAllB B ds = true := hf
    refine ev_set (K := K) (fun e => ∃ k : Int, e = .int k ∧ 0 ≤ k ∧ k < ds.length + 1) 1 r2 (show n + 1 + 2 + 1 ≤ 1000000 by omega) ?_ fun H3 wat dat k3' r3 hat ⟨k, ek, k0, kl⟩ => ?_
    · exact ev_draw (m := 0) (p := (· = (ds.length : Int) + 1)) rfl (ev_ints (m1 := 0) (m2 := 0) (p1 := (· = (ds.length : Int))) (p2 := (· = 1)) (ev_len (eva_c (ev_var (i := 1) rfl hd2 rfl) eva_n) (fun l e => ⟨ds, .inr e, _, rfl, rfl⟩)) (ev_intE rfl) (fun i j q1 q2 => ⟨_, rfl, by rw [q1, q2]⟩))
        (fun k e => by subst e; exact ⟨by omega, by omega, fun j j0 j1 => ⟨j, rfl, j0, j1⟩⟩)
    subst ek
    obtain ⟨kk, rfl⟩ : ∃ kk : Nat, k = kk := ⟨k.toNat, by omega⟩
    have hd3 : Df K (hid S H3) v (.tuple ds) := Df.keep hd2 (keeps_one r.sa k3')
    have ho3 : Df K (hid S H3) vo o := Df.keep ho (keeps_one r.sa k3')
    obtain ⟨of1, ow, od⟩ := anyB hB po
    have lt : ∀ j, (ds.take j).length ≤ ds.length := fun j => by rw [List.length_take]; omega
    have ld : ∀ j, (ds.drop j).length ≤ ds.length := fun j => by rw [List.length_drop]; omega
    have cutTo : ∀ {σ : L2.St} {G : Hp} {i : Nat} {z : Nat} {w : V} {te : TE}, σ[1]? = some (some v) → Df K (hid S G) v (.tuple ds) → Ev K S (some a) σ G te 0 (fun d => ∃ i, d = .int i ∧ i = (z : Int)) → Ev K S (some a) σ G (tSl (rSlF K) (tVar 1) tNoPart (tPart te)) 0 (· = .tuple (ds.take z)) :=
      fun {σ G i z w te} e hG ht => ev_cut (m1 := 0) (m2 := 0) (m3 := 0) (P1 := (· = .tuple ds)) (ev_var e hG rfl) evo_none (evo_some (p := (· = (z : Int))) ht) (fun d lo hi q1 q2 ⟨i, q3, q4⟩ => by
        subst q1 q2 q3 q4
        exact ⟨ds, rfl, by rw [cutD_to]⟩)
    have cutFrom : ∀ {σ : L2.St} {G : Hp} {i : Nat} {z : Nat} {w : V} {te : TE}, σ[1]? = some (some v) → Df K (hid S G) v (.tuple ds) → Ev K S (some a) σ G te 0 (fun d => ∃ i, d = .int i ∧ i = (z : Int)) → Ev K S (some a) σ G (tSl (rSlF K) (tVar 1) (tPart te) tNoPart) 0 (· = .tuple (ds.drop z)) :=
      fun {σ G i z w te} e hG ht => ev_cut (m1 := 0) (m2 := 0) (m3 := 0) (P1 := (· = .tuple ds)) (ev_var e hG rfl) (evo_some (p := (· = (z : Int))) ht) evo_none (fun d lo hi q1 ⟨i, q3, q4⟩ q2 => by
        subst q1 q2 q3 q4
        exact ⟨ds, rfl, by rw [cutD_from]⟩)
    have plus : ∀ {σ : L2.St} {G : Hp}, σ[2]? = some (some wat) → Df K (hid S G) wat (.int (kk : Int)) → Ev K S (some a) σ G (tOp (rI0 fun i j => .int (i + j)) (tVar 2) (tC (.int 1))) 0 (fun d => ∃ i, d = .int i ∧ i = ((kk + 1 : Nat) : Int)) :=
      fun {σ G} e hG => ev_ints (m1 := 0) (m2 := 0) (p1 := (· = (kk : Int))) (p2 := (· = 1)) (ev_var e hG ⟨_, rfl, rfl⟩) (ev_intE rfl) (fun i j q1 q2 => ⟨_, rfl, by subst q1 q2; rfl⟩)
    refine ev_set (K := K) (fun e => ∃ l, e = .list l ∧ l.length = 4 ∧ ∀ x ∈ l, BentTo B (.tuple ds) x) 0 r3 (show n + 1 + 2 + 1 + 0 ≤ 1000000 by omega) ?_ fun H4 vs4 ds4 k4' r4 h4 p4 => ?_
    · refine ev_lst (R := fun l => l.length = 4 ∧ ∀ x ∈ l, BentTo B (.tuple ds) x) ?_ (fun l q1 => by rw [q1.1]; decide) (fun l q1 => ⟨l, rfl, q1⟩)
      refine eva_all (m1 := 0) (m2 := 0) ?_ (eva_all (m1 := 0) (m2 := 0) ?_ (eva_all (m1 := 0) (m2 := 0) ?_ (eva_all (m1 := 0) (m2 := 0) ?_ eva_all0)))
      · exact ev_list (R := (· = [.tuple ds])) (eva_c (ev_var (i := 1) rfl hd3 rfl) eva_n) (fun l e => ⟨ds, e, (bent_seq hff (fun x hx => .inl hx) (by omega)).2⟩)
      · refine ev_catT (m1 := 0) (m2 := 0) (P1 := (· = .tuple (ds.take kk))) (P2 := (· = .tuple (ds.drop (kk + 1)))) (cutTo (i := 0) (w := v) rfl hd3 (ev_var (i := 2) rfl hat ⟨_, rfl, rfl⟩)) (cutFrom (i := 0) (w := v) rfl hd3 (plus rfl hat)) (fun d e q1 q2 => ⟨_, _, q1, q2, ?_, (bent_seq hff (fun x hx => .inl ?_) ?_).1⟩)
        · have := lt kk
          have := ld (kk + 1)
          omega
        · exact (List.mem_append.mp hx).elim List.mem_of_mem_take List.mem_of_mem_drop
        · rw [wtAll_append]
          have := wtAll_take_le kk ds
          have := wtAll_drop_le (kk + 1) ds
          omega
      · refine ev_catT (m1 := 0) (m2 := 0) (P1 := (· = .tuple (ds.take kk ++ [o]))) (P2 := (· = .tuple (ds.drop kk))) ?_ (cutFrom (i := 0) (w := v) rfl hd3 (ev_var (i := 2) rfl hat ⟨_, rfl, rfl⟩)) (fun d e q1 q2 => ⟨_, _, q1, q2, ?_, (bent_seq hff (fun x hx => ?_) ?_).1⟩)
        · refine ev_catT (m1 := 0) (m2 := 0) (P1 := (· = .tuple (ds.take kk))) (P2 := (· = .tuple [o])) (cutTo (i := 0) (w := v) rfl hd3 (ev_var (i := 2) rfl hat ⟨_, rfl, rfl⟩)) (ev_t (eva_c (ev_var (i := 3) rfl ho3 rfl) eva_n) (by exact (by decide : 1 ≤ 100000))) (fun d e q1 q2 => ⟨_, _, q1, q2, ?_, rfl⟩)
          have := lt kk
          rw [List.length_singleton]
          omega
        · rw [List.length_append, List.length_singleton]
          have := lt kk
          have := ld kk
          omega
        · rcases List.mem_append.mp hx with hx | hx
          · rcases List.mem_append.mp hx with hx | hx
            · exact .inl (List.mem_of_mem_take hx)
            · rw [List.mem_singleton.mp hx]
              exact .inr ⟨of1, by omega⟩
          · exact .inl (List.mem_of_mem_drop hx)
        · rw [wtAll_append, wtAll_append, wtAll_one]
          have := wtAll_take kk ds
          omega
      · exact ev_rev (P1 := (· = .tuple ds)) (ev_var (i := 1) rfl hd3 rfl) (fun d e => ⟨ds, e, (bent_seq hff (fun x hx => .inl (List.mem_reverse.mp hx)) (by rw [wtAll_rev]; omega)).1⟩)
    have hd4 : Df K (hid S H4) v (.tuple ds) := Df.keep hd3 (keeps_one r.sa k4')
    have hat4 : Df K (hid S H4) wat (.int (kk : Int)) := Df.keep hat (keeps_one r.sa k4')
    refine ev_ret (K := K) (BentTo B (.tuple ds)) 0 r4 (show n + 1 + 2 + 1 + 0 + 0 ≤ 1000000 by omega) ?_ fun H5 v5 d5 k5 r5 hd5 b5 => fin _ H5 v5 d5 (by omega) (k2.trans (k3'.trans (k4'.trans k5))) r5 hd5 b5
    refine ev_pick (k := 5) (m1 := 0) (m2 := 0) ?_ (ev_var (i := 4) rfl (.int way) ⟨way, rfl, w0, w5⟩)
    refine ev_catL (m1 := 0) (m2 := 0) (P1 := fun e => ∃ l, e = .list l ∧ l.length = 4 ∧ ∀ x ∈ l, BentTo B (.tuple ds) x) (P2 := fun e => ∃ x, e = .list [x] ∧ BentTo B (.tuple ds) x) (ev_var (i := 5) rfl h4 p4) ?_ ?_
    · refine ev_lst (R := fun l => ∃ x, l = [x] ∧ BentTo B (.tuple ds) x) ?_ (fun l ⟨x, e, _⟩ => by rw [e]; exact (by decide : 1 ≤ 100000)) (fun l ⟨x, e, b⟩ => ⟨x, by rw [e], b⟩)
      refine eva_cons (m1 := 0) (m2 := 0) (P := BentTo B (.tuple ds)) (R1 := (· = [])) ?_ eva_n (fun d l q1 q2 => ⟨d, by rw [q2], q1⟩)
      refine ev_catT (m1 := 0) (m2 := 0) (P1 := (· = .tuple (ds.take (kk + 1)))) (P2 := (· = .tuple (ds.drop kk))) (cutTo (i := 0) (w := v) rfl hd4 (plus rfl hat4)) (cutFrom (i := 0) (w := v) rfl hd4 (ev_var (i := 2) rfl hat4 ⟨_, rfl, rfl⟩)) (fun d e q1 q2 => ⟨_, _, q1, q2, ?_, (bent_seq hff (fun x hx => .inl ?_) ?_).1⟩)
      · have := lt (kk + 1)
        have := ld kk
        omega
      · exact (List.mem_append.mp hx).elim List.mem_of_mem_take List.mem_of_mem_drop
      · rw [wtAll_append]
        have := wtAll_take_le (kk + 1) ds
        have := wtAll_drop_le kk ds
        omega
    · rintro d e ⟨l, q1, q2, q3⟩ ⟨x, q4, q5⟩
      refine ⟨l, [x], q1, q4, by rw [q2]; exact (by decide : 4 + 1 ≤ 100000), _, rfl, by rw [List.length_append, q2]; rfl, fun y hy => ?_⟩
      rcases List.mem_append.mp hy with hy | hy
      · exact q3 y hy
      · rw [List.mem_singleton.mp hy]
        exact q5
  rintro σ' _ ⟨rfl, rfl⟩
  -- an int
  refine ⟨fun σ' H' => σ' = [some (.ref a), some v, none, some vo, some (.int way), none] ∧ H2 = H', ?_, ?_⟩
  · refine ⟨v, rfl, v, d, "int", _, rfl, Df.bare hd2, kit_int d f80, _, rfl, ite2 (fun t1 => ?_) (fun t1 => iteF ⟨rfl, rfl⟩)⟩
    refine ⟨v, rfl, v, d, "bool", _, rfl, Df.bare hd2, kit_bool d f80, _, rfl, ite2 (fun t2 => ?_) (fun t2 => iteF ⟨rfl, rfl⟩)⟩
    refine ⟨.int way, rfl, way, 5, rfl, rfl, _, rfl, ite2 (fun t3 => ?_) (fun t3 => ⟨rfl, rfl⟩)⟩
    have w5 : way < 5 := of_decide_eq_true t3
    obtain ⟨i, rfl⟩ := isK_int t1 (by simpa using t2)
    cases hd2
    have hi : i.natAbs < B := of_decide_eq_true hf
    have hi80 : i.natAbs < 10 ^ 80 := Nat.lt_of_lt_of_le hi (Nat.le_trans hB2 (by decide))
    refine ev_ret (K := K) (BentTo B (.int i)) 0 r2 (show n + 1 + 2 + 0 ≤ 1000000 by omega) ?_ fun H5 v5 d5 k5 r5 hd5 b5 => fin _ H5 v5 d5 (by omega) (k2.trans k5) r5 hd5 b5
    refine ev_pick (k := 5) (m1 := 0) (m2 := 0) ?_ (ev_var (i := 4) rfl (.int way) ⟨way, rfl, w0, w5⟩)
    refine ev_lst (R := fun l => l.length = 5 ∧ ∀ x ∈ l, BentTo B (.int i) x) ?_ (fun l q1 => by rw [q1.1]; decide) (fun l q1 => ⟨l, rfl, q1⟩)
    have va : ∀ {p : Int → Prop}, p i → Ev K S (some a) [some (.ref a), some (.int i), none, some vo, some (.int way), none] H2 (tVar 1) 0 (fun d => ∃ j, d = .int j ∧ p j) := fun hp => ev_var (i := 1) rfl (.int i) ⟨i, rfl, hp⟩
    refine eva_all (m1 := 0) (m2 := 0) ?_ (eva_all (m1 := 0) (m2 := 0) ?_ (eva_all (m1 := 0) (m2 := 0) ?_ (eva_all (m1 := 0) (m2 := 0) ?_ (eva_all (m1 := 0) (m2 := 0) ?_ eva_all0))))
    · exact ev_ints (m1 := 0) (m2 := 0) (p1 := (· = i)) (p2 := (· = 1)) (va rfl) (ev_intE rfl) (fun x y q1 q2 => by subst q1 q2; exact bent_int hi (by decide))
    · exact ev_ints (m1 := 0) (m2 := 0) (p1 := (· = i)) (p2 := (· = 1)) (va rfl) (ev_intE rfl) (fun x y q1 q2 => by subst q1 q2; exact bent_int (k := -1) hi (by decide))
    · exact ev_eqI (m1 := 0) (m2 := 0) (ev_var (i := 1) rfl (.int i) ⟨i, rfl⟩) (ev_int ⟨1, rfl⟩) (fun b => ⟨rfl, by show 8 ≤ 2 * 300 + 3000; omega, Nat.zero_le _⟩)
    · exact ev_ints (m1 := 0) (m2 := 0) (p1 := (· = i)) (p2 := (· = 59)) (va rfl) (ev_intE rfl) (fun x y q1 q2 => by subst q1 q2; exact bent_int hi (by decide))
    · exact ev_strI (R := (· = [.int i])) (eva_c (ev_var (i := 1) rfl (.int i) rfl) eva_n) (fun l e => ⟨i, e, hi80, bent_strI hi80⟩)
  rintro σ' _ ⟨rfl, rfl⟩
  -- a text
  refine ⟨fun σ' H' => σ' = [some (.ref a), some v, none, some vo, some (.int way), none] ∧ H2 = H', ?_, ?_⟩
  · refine ⟨v, rfl, v, d, "str", _, rfl, Df.bare hd2, kit_str d f80, _, rfl, ite2 (fun t1 => ?_) (fun t1 => iteF ⟨rfl, rfl⟩)⟩
    refine ⟨.int way, rfl, way, 4, rfl, rfl, _, rfl, ite2 (fun t3 => ?_) (fun t3 => ⟨rfl, rfl⟩)⟩
    have w5 : way < 4 := of_decide_eq_true t3
    obtain ⟨x, rfl⟩ := isK_str t1
    cases hd2
    have hx : tidy x = true := hf
    have hl : 10 * x.length + 4 ≤ 100000 := hwt
    refine ev_ret (K := K) (BentTo B (.str x)) 0 r2 (show n + 1 + 2 + 0 ≤ 1000000 by omega) ?_ fun H5 v5 d5 k5 r5 hd5 b5 => fin _ H5 v5 d5 (by omega) (k2.trans k5) r5 hd5 b5
    refine ev_pick (k := 4) (m1 := 0) (m2 := 0) ?_ (ev_var (i := 4) rfl (.int way) ⟨way, rfl, w0, w5⟩)
    refine ev_lst (R := fun l => l.length = 4 ∧ ∀ y ∈ l, BentTo B (.str x) y) ?_ (fun l q1 => by rw [q1.1]; decide) (fun l q1 => ⟨l, rfl, q1⟩)
    have more : ∀ {z : Str}, z.length = 1 → tidy z = true → BentTo B (.str x) (.str (x ++ z)) := fun {z} e t => bent_str (tidy_app hx t) (by rw [Str.length_append, e]; exact Nat.le_refl _)
    refine eva_all (m1 := 0) (m2 := 0) ?_ (eva_all (m1 := 0) (m2 := 0) ?_ (eva_all (m1 := 0) (m2 := 0) ?_ (eva_all (m1 := 0) (m2 := 0) ?_ eva_all0)))
    · exact ev_catS (m1 := 0) (m2 := 0) (P1 := (· = .str x)) (P2 := (· = .str "x")) (ev_var (i := 1) rfl (.str x) rfl) (ev_str rfl) (fun d e q1 q2 => ⟨x, _, q1, q2, by show x.length + 1 ≤ 1000000; omega, more (by decide +kernel) (by decide +kernel)⟩)
    · exact ev_upper (P1 := (· = .str x)) (ev_var (i := 1) rfl (.str x) rfl) (fun d e => ⟨x, e, by omega, bent_str (tidy_upper hx).1 (by rw [(tidy_upper hx).2]; omega)⟩)
    · exact ev_cutS (m1 := 0) (m2 := 0) (m3 := 0) (P1 := (· = .str x)) (ev_var (i := 1) rfl (.str x) rfl) (evo_some (p := fun _ => True) (ev_int ⟨1, rfl, trivial⟩)) evo_none (fun d lo hi q1 _ _ => ⟨x, q1, by omega, bent_str (tidy_cut _ _ hx) (Nat.le_trans (cutS_length _ _ _) (Nat.le_succ _))⟩)
    · exact ev_catS (m1 := 0) (m2 := 0) (P1 := (· = .str x)) (P2 := (· = .str " ")) (ev_var (i := 1) rfl (.str x) rfl) (ev_str rfl) (fun d e q1 q2 => ⟨x, _, q1, q2, by show x.length + 1 ≤ 1000000; omega, more (by decide +kernel) (by decide +kernel)⟩)
  rintro σ' _ ⟨rfl, rfl⟩
  exact ⟨vo, rfl, fin _ H2 vo o (by omega) k2 r2 ho (bent_any hB po)⟩
theorem ok_bent (T : Top K mg) (B : Nat) (hB : 10 ^ 41 ≤ B) (hB2 : B ≤ 10 ^ 79) : ∀ j, j ≤ 40 → FnOk P w K mg base CX0 (2 + j + 1) T.a__law_bent T.d__law_bent ["_law_source_here", "_law_value"] (spBent K B j)
  | 0, hj => ok_bent_step T B 0 hB hB2 hj ⟨fun _ _ _ _ h => False.elim h, fun _ _ _ _ _ _ _ _ _ _ _ _ _ h => False.elim h⟩
  | j + 1, hj => ok_bent_step T B (j + 1) hB hB2 hj (ok_bent T B hB hB2 j (Nat.le_of_succ_le hj))
end

section
variable {P : Program} {w : World} {K : PySem.W.Frag} {mg : Str → Option Value} {base : Heap}
def isDate : PyData → Bool
  | .tuple [a, b, c] => isInt a && (isName b && isDayM c)
  | _ => false
theorem isDate_len {ds : List PyData} (h : ds.length ≠ 3) : isDate (.tuple ds) = false := by
  match ds, h with
  | [], _ => rfl
  | [_], _ => rfl
  | [_, _], _ => rfl
  | [_, _, _], h => exact absurd rfl h
  | _ :: _ :: _ :: _ :: _, _ => rfl
theorem ok_is_date (T : Top K mg) : FnOk P w K mg base CX0 3 T.a_is_date T.d_is_date ["thing"] (spB K isDate) := by
  have GI : FnOk P w K mg base CX0 1 T.a_is_int T.d_is_int ["thing"] (spB K isInt) := ok_is_int T
  have GN : FnOk P w K mg base CX0 1 T.a_is_name T.d_is_name ["thing"] (spB K isName) := ok_is_name T
  have GD : FnOk P w K mg base CX0 2 T.a_is_day_of_month T.d_is_day_of_month ["thing"] (spB K isDayM) := ok_is_day_of_month T
  refine T.F_is_date.ok sc_is_date spB_len (fun cdv A outer s H vs Q E hr h => ?_)
  obtain ⟨v, d, rfl, hd, g, q⟩ := h
  have hr1 : Room 1 _ := hr.mono (by decide)
  refine ⟨_, pss_cons (ps_if (PW.pt (pw_or
      (pt_not (pt_val (pe_callB call_isiD (by rfl) T.n_isinstance (by decide +kernel) (pa_cons (pv 0) (pa_cons (pe_bltn (v := .ty "tuple") (by rfl) T.n_tuple (by decide +kernel) rfl) pa_nil)))))
      (pw_or1 (pt_cmpR op_ne (pe_callB call_len (by rfl) T.n_len PySem.boot_len (pa_cons (pv 0) pa_nil)) pe_int (nomark _)))))
      (pss_one (ps_ret pe_bl)) pss_nil)
    (pss_one (ps_ret (pe_and (pe_call GI hr1 (by rfl) T.m_is_int T.F_is_int.kp T.b_is_int .nil pass0 (pa_cons (pe_ix ix_tup (pv 0) pe_int (fun _ _ => rfl)) pa_nil))
      (pe_and (pe_call GN hr1 (by rfl) T.m_is_name T.F_is_name.kp T.b_is_name .nil pass0 (pa_cons (pe_ix ix_tup (pv 0) pe_int (fun _ _ => rfl)) pa_nil))
        (pe_one (pe_call GD hr (by rfl) T.m_is_day_of_month T.F_is_day_of_month.kp T.b_is_day_of_month .nil pass0 (pa_cons (pe_ix ix_tup (pv 0) pe_int (fun _ _ => rfl)) pa_nil))))))), ?_⟩
  refine ⟨v, rfl, v, d, "tuple", _, rfl, hd, kit_tuple d g.fin, _, rfl, ?_⟩
  cases d with
  | tuple ds =>
    obtain ⟨a, vs, rfl, hT, hds⟩ := Df.tup_inv hd
    have el : vs.length = ds.length := DfAll.len hds
    refine iteF ⟨.ref a, rfl, .ref a, vs.length, rfl, .inr ⟨vs, hT, rfl⟩, rfl, _, rfl, ite2 (fun h1 => ?_) (fun h1 => ?_)⟩
    · have h2 := ne_int.mp h1
      have e := isDate_len (ds := ds) (by omega)
      rw [e] at q
      exact q H (Same.refl H)
    · have h2 : ds.length = 3 := by
        have : ¬ (vs.length : Int) ≠ 3 := fun z => h1 (ne_int.mpr z)
        omega
      obtain ⟨d1, d2, d3, rfl⟩ := len3 h2
      obtain ⟨v1, v2, v3, rfl, p1, p2, p3⟩ := DfAll.three hds
      have g1 := (g.tup_mem (d := d1) (by simp)).up (n' := 900000) (k' := 50)
      have g2 := (g.tup_mem (d := d2) (by simp)).up (n' := 900000) (k' := 50)
      have g3 := (g.tup_mem (d := d3) (by simp)).up (n' := 900000) (k' := 50)
      have q' : ∀ H', Same H H' → Q (.bl (isInt d1 && (isName d2 && isDayM d3))) H' := q
      refine ⟨.ref a, rfl, a, _, 0, v1, rfl, rfl, hT, rfl, v1, d1, rfl, p1, g1, fun H1 s1 => ⟨_, rfl, ite2 (fun b1 => ?_) (fun b1 => ?_)⟩⟩
      · rw [b1, Bool.true_and] at q'
        refine ⟨.ref a, rfl, a, _, 1, v2, rfl, rfl, seqT_mono s1 hT, rfl, v2, d2, rfl, Df.to p2 s1, g2, fun H2 s2 => ⟨_, rfl, ite2 (fun b2 => ?_) (fun b2 => ?_)⟩⟩
        · rw [b2, Bool.true_and] at q'
          exact ⟨.ref a, rfl, a, _, 2, v3, rfl, rfl, seqT_mono (s1.trans s2) hT, rfl, v3, d3, rfl, Df.to p3 (s1.trans s2), g3, fun H3 s3 => q' H3 ((s1.trans s2).trans s3)⟩
        · rw [Bool.eq_false_iff.mpr b2, Bool.false_and] at q'
          exact q' H2 (s1.trans s2)
      · rw [Bool.eq_false_iff.mpr b1, Bool.false_and] at q'
        exact q' H1 s1
  | none => exact iteT (q H (Same.refl H))
  | bool b => exact iteT (q H (Same.refl H))
  | int i => exact iteT (q H (Same.refl H))
  | list xs => exact iteT (q H (Same.refl H))
  | str x => exact iteT (q H (Same.refl H))
  | dict kvs => exact nomatch g.fin
end

section
variable {P : Program} {w : World} {K : PySem.W.Frag} {mg : Str → Option Value} {base : Heap}
/-! #### rules -/
def isMonth : PyData → Bool
  | .tuple [a, b] => isName a && isDayM b
  | _ => false
def nameIn : PyData → Str
  | .tuple (.str s :: _) => s
  | _ => Str.ofString ""
def isYear : PyData → Bool
  | .tuple ms => decide (1 ≤ ms.length ∧ ms.length ≤ 13) && (ms.all isMonth && decide (ms.map nameIn).Nodup)
  | _ => false
def isRule : PyData → Bool
  | .tuple ys => decide (1 ≤ ys.length ∧ ys.length ≤ 20) && ys.all isYear
  | _ => false
theorem isMonth_len {ds : List PyData} (h : ds.length ≠ 2) : isMonth (.tuple ds) = false := by
  match ds, h with
  | [], _ => rfl
  | [_], _ => rfl
  | [_, _], h => exact absurd rfl h
  | _ :: _ :: _ :: _, _ => rfl
theorem isMonth_inv {d : PyData} (h : isMonth d = true) : ∃ s i, d = .tuple [.str s, .int i] ∧ 1 ≤ i ∧ i ≤ 60 ∧ nameStr s = true := by
  cases d with
  | tuple ds =>
    have hl : ds.length = 2 := by
      by_cases hl : ds.length = 2
      · exact hl
      · rw [isMonth_len hl] at h
        cases h
    obtain ⟨a, b, rfl⟩ := len2 hl
    obtain ⟨h1, h2⟩ := Bool.and_eq_true_iff.mp (show (isName a && isDayM b) = true from h)
    cases a with
    | str s =>
      cases b with
      | int i =>
        have := of_decide_eq_true (show decide (1 ≤ i ∧ i ≤ 60) = true from h2)
        exact ⟨s, i, rfl, this.1, this.2, h1⟩
      | _ => exact nomatch h2
    | _ => exact nomatch h1
  | _ => exact nomatch h
theorem bools_all (f : PyData → Bool) (ms : List PyData) : (ms.map f).all id = ms.all f := by rw [List.all_map]; rfl
theorem ok_is_month (T : Top K mg) : FnOk P w K mg base CX0 3 T.a_is_month T.d_is_month ["thing"] (spB K isMonth) := by
  have GN : FnOk P w K mg base CX0 1 T.a_is_name T.d_is_name ["thing"] (spB K isName) := ok_is_name T
  have GD : FnOk P w K mg base CX0 2 T.a_is_day_of_month T.d_is_day_of_month ["thing"] (spB K isDayM) := ok_is_day_of_month T
  refine T.F_is_month.ok sc_is_month spB_len (fun cdv A outer s H vs Q E hr h => ?_)
  obtain ⟨v, d, rfl, hd, g, q⟩ := h
  have hr1 : Room 1 _ := hr.mono (by decide)
  refine ⟨_, pss_cons (ps_if (PW.pt (pw_or
      (pt_not (pt_val (pe_callB call_isiD (by rfl) T.n_isinstance (by decide +kernel) (pa_cons (pv 0) (pa_cons (pe_bltn (v := .ty "tuple") (by rfl) T.n_tuple (by decide +kernel) rfl) pa_nil)))))
      (pw_or1 (pt_cmpR op_ne (pe_callB call_len (by rfl) T.n_len PySem.boot_len (pa_cons (pv 0) pa_nil)) pe_int (nomark _)))))
      (pss_one (ps_ret pe_bl)) pss_nil)
    (pss_one (ps_ret (pe_and (pe_call GN hr1 (by rfl) T.m_is_name T.F_is_name.kp T.b_is_name .nil pass0 (pa_cons (pe_ix ix_tup (pv 0) pe_int (fun _ _ => rfl)) pa_nil))
        (pe_one (pe_call GD hr (by rfl) T.m_is_day_of_month T.F_is_day_of_month.kp T.b_is_day_of_month .nil pass0 (pa_cons (pe_ix ix_tup (pv 0) pe_int (fun _ _ => rfl)) pa_nil)))))), ?_⟩
  refine ⟨v, rfl, v, d, "tuple", _, rfl, hd, kit_tuple d g.fin, _, rfl, ?_⟩
  cases d with
  | tuple ds =>
    obtain ⟨a, vs, rfl, hT, hds⟩ := Df.tup_inv hd
    have el : vs.length = ds.length := DfAll.len hds
    refine iteF ⟨.ref a, rfl, .ref a, vs.length, rfl, .inr ⟨vs, hT, rfl⟩, rfl, _, rfl, ite2 (fun h1 => ?_) (fun h1 => ?_)⟩
    · have h2 := ne_int.mp h1
      have e := isMonth_len (ds := ds) (by omega)
      rw [e] at q
      exact q H (Same.refl H)
    · have h2 : ds.length = 2 := by
        have : ¬ (vs.length : Int) ≠ 2 := fun z => h1 (ne_int.mpr z)
        omega
      obtain ⟨d1, d2, rfl⟩ := len2 h2
      obtain ⟨v1, v2, rfl, p1, p2⟩ := DfAll.two hds
      have g1 := (g.tup_mem (d := d1) (by simp)).up (n' := 900000) (k' := 50)
      have g2 := (g.tup_mem (d := d2) (by simp)).up (n' := 900000) (k' := 50)
      have q' : ∀ H', Same H H' → Q (.bl (isName d1 && isDayM d2)) H' := q
      refine ⟨.ref a, rfl, a, _, 0, v1, rfl, rfl, hT, rfl, v1, d1, rfl, p1, g1, fun H1 s1 => ⟨_, rfl, ite2 (fun b1 => ?_) (fun b1 => ?_)⟩⟩
      · rw [b1, Bool.true_and] at q'
        exact ⟨.ref a, rfl, a, _, 1, v2, rfl, rfl, seqT_mono s1 hT, rfl, v2, d2, rfl, Df.to p2 s1, g2, fun H2 s2 => q' H2 (s1.trans s2)⟩
      · rw [Bool.eq_false_iff.mpr b1, Bool.false_and] at q'
        exact q' H1 s1
  | none => exact iteT (q H (Same.refl H))
  | bool b => exact iteT (q H (Same.refl H))
  | int i => exact iteT (q H (Same.refl H))
  | list xs => exact iteT (q H (Same.refl H))
  | str x => exact iteT (q H (Same.refl H))
  | dict kvs => exact nomatch g.fin
/-- all(f(x) for each x of a tuple) -/
theorem ev_allT {S : Addr → Bool} {a : Option Addr} {σ : L2.St} {H0 : Hp} {i slot : Nat} {vs : List Nat} {v : V} {ms : List PyData} {r : PyData → Bool} {E : XK} (hv : σ[i]? = some (some v)) (hd : Df K (hid S H0) v (.tuple ms)) (hg : ∀ m ∈ ms, Good 900000 50 m) (few : ms.length ≤ 100000)
    (hw : ∀ x, wipe ((wipe σ vs).set slot (some x)) vs = wipe σ vs) (hx : ∀ x, ((wipe σ vs).set slot (some x))[slot]? = some (some x)) :
    Ev K S a σ H0 (tCB (rAll K) (tCons (tLc (iTup K (tVar i)) (gName slot) tYes (tCall (spB K r) [] E (tCons (tVar slot) tNil)) vs) tNil)) (0 + ms.length * 0 + 0) (· = .bool (ms.all r)) := by
  refine ev_all (R := fun l => l = [.list ((ms.map r).map PyData.bool)]) (eva_cons (P := fun d => d = .list ((ms.map r).map PyData.bool)) (R1 := (· = [])) ?_ eva_n (fun d l e1 e2 => by rw [e1, e2])) (fun l e => ⟨_, e, by rw [bools_all]⟩)
  refine ev_lcT (es := ms) (P := fun i e => ∀ m, ms[i]? = some m → e = .bool (r m)) (ev_var hv hd rfl) hw few (fun D H1 s1 i x e he hde => ?_) (fun ds hl hp => ?_)
  · exact ev_callB (R := (· = [e])) (eva_c (ev_var (hx x) hde rfl) eva_n) (fun l e' => ⟨e, e', hg e (List.mem_of_getElem? he), fun m hm => by rw [he] at hm; cases hm; rfl⟩)
  · congr 1
    rw [List.map_map]
    exact list_by ms ds hl fun i e m h1 h2 => hp i e h1 m h2
theorem ok_is_year (T : Top K mg) : FnOk P w K mg base CX0 4 T.a_is_year T.d_is_year ["thing"] (spB K isYear) := by
  obtain ⟨t13, m13⟩ := T.v_MOST_MONTHS
  have GM : FnOk P w K mg base CX0 3 T.a_is_month T.d_is_month ["thing"] (spB K isMonth) := ok_is_month T
  refine T.F_is_year.ok sc_is_year spB_len (fun cdv A outer s H vs Q E hr h => ?_)
  obtain ⟨v, d, rfl, hd, g, q⟩ := h
  refine ⟨_, pss_cons (ps_if (PW.pt (pw_or
      (pt_not (pt_val (pe_callB call_isiD (by rfl) T.n_isinstance (by decide +kernel) (pa_cons (pv 0) (pa_cons (pe_bltn (v := .ty "tuple") (by rfl) T.n_tuple (by decide +kernel) rfl) pa_nil)))))
      (pw_or1 (pt_not (pt_chain op_le op_le pe_int (pe_callB call_len (by rfl) T.n_len PySem.boot_len (pa_cons (pv 0) pa_nil)) (pe_glob (v := .int 13) rfl m13 ⟨_, rfl⟩))))))
      (pss_one (ps_ret pe_bl)) pss_nil)
    (pss_cons (ps_if (pt_not (pt_val (pe_callB (cr_all rfl) (by rfl) T.n_all (by decide +kernel) (pa_cons
      (pe_lc (own := [("month", 1)]) (g := gName 1) (tt := tYes) (by rfl) sc_is_year.nd (pi_tup (pv 0)) (blkOk_by (own := [("month", 1)]) (N := ["thing", "month", "name", "days"]) (sc := defScope s_is_year) (by decide +kernel))
        (fun _ _ _ _ _ => pg_name (i := 1) sc_is_year.nd rfl (Or.inl rfl)) (fun _ _ _ _ _ => pts_nil) (fun _ _ _ _ _ => (pe_call GM hr (by rfl) T.m_is_month T.F_is_month.kp T.b_is_month .nil pass0 (pa_cons (pv 1) pa_nil)))) pa_nil))))
      (pss_one (ps_ret pe_bl)) pss_nil)
    (pss_one (ps_ret (pe_cmpR op_eq (pe_callB call_lenK (by rfl) T.n_len PySem.boot_len (pa_cons
      (pe_kc (own := [("name", 2), ("days", 3)]) (g := gTup K 2 (gCons (gName 2) (gCons (gName 3) gNil))) (tt := tYes) (by rfl) sc_is_year.nd (pi_tup (pv 0)) (blkOk_by (own := [("name", 2), ("days", 3)]) (N := ["thing", "month", "name", "days"]) (sc := defScope s_is_year) (by decide +kernel))
        (fun _ _ _ _ _ => pg_tup rfl (pgs_cons (pg_name (i := 2) sc_is_year.nd rfl (Or.inl rfl)) (pgs_cons (pg_name (i := 3) sc_is_year.nd rfl (Or.inl rfl)) pgs_nil))) (fun _ _ _ _ _ => pts_nil) (fun _ _ _ _ _ => pv 2)) pa_nil))
      (pe_callB call_len (by rfl) T.n_len PySem.boot_len (pa_cons (pv 0) pa_nil)) (nomark _))))), ?_⟩
  refine ⟨v, rfl, v, d, "tuple", _, rfl, hd, kit_tuple d g.fin, _, rfl, ?_⟩
  cases d with
  | tuple ms =>
    obtain ⟨a, vs, rfl, hT, hds⟩ := Df.tup_inv hd
    have el : vs.length = ms.length := DfAll.len hds
    refine iteF ⟨.ref a, rfl, .ref a, vs.length, rfl, .inr ⟨vs, hT, rfl⟩, 1, (vs.length : Int), rfl, rfl, _, rfl, ite2 (fun h1 => ?_) (fun h1 => ?_)⟩
    · have h1' : (1 : Int) ≤ vs.length := of_decide_eq_true h1
      refine ⟨(vs.length : Int), 13, rfl, rfl, _, rfl, ite2 (fun h2 => ?_) (fun h2 => ?_)⟩
      · have h2' : ¬ ((vs.length : Int) ≤ 13) := by simpa using h2
        have e : isYear (.tuple ms) = false := by
          show (decide (1 ≤ ms.length ∧ ms.length ≤ 13) && _) = false
          rw [decide_eq_false (by omega), Bool.false_and]
        rw [e] at q
        exact q H (Same.refl H)
      · have h2' : (vs.length : Int) ≤ 13 := by simpa using h2
        have e : isYear (.tuple ms) = (ms.all isMonth && decide (ms.map nameIn).Nodup) := by
          show (decide (1 ≤ ms.length ∧ ms.length ≤ 13) && _) = _
          rw [decide_eq_true (by omega), Bool.true_and]
        rw [e] at q
        have hg : ∀ m ∈ ms, Good 900000 50 m := fun m hm => (g.tup_mem hm).up
        dsimp only [tNext]
        refine if_notN (K := K) (b := ms.all isMonth) (0 + ms.length * 0 + 0) (ev_allT (i := 0) (slot := 1) (v := .ref a) (r := isMonth) rfl (dp_no hd) hg (by omega) (fun _ => rfl) (fun _ => rfl)) (by rw [Nat.mul_zero]; exact Nat.zero_le _) (fun b0 H1 s1 => ?_) (fun b1 H1 s1 => ?_)
        · rw [b0, Bool.false_and] at q
          exact q H1 s1
        · rw [b1, Bool.true_and] at q
          have hms := List.all_eq_true.mp b1
          dsimp only
          have hT1 := seqT_mono s1 hT
          refine ⟨.ref a, rfl, a, rfl, ⟨vs, hT1⟩, fun D nD => kc_it (walk_tup (K := K) (a := a) (xs := vs)) (fun i H' => ∃ (S : Key → Bool) (n : Nat), H' D = some (SetK P w D S n) ∧ n ≤ i ∧ (n = i ↔ ((ms.map nameIn).take i).Nodup) ∧ (∀ k, S k = true ↔ ∃ x ∈ (ms.map nameIn).take i, k = .inr x) ∧ Same H1 H') ?_ ?_ ?_ ?_⟩
          · exact ⟨_, 0, upd_same, Nat.le_refl _, ⟨fun _ => List.nodup_nil, fun _ => rfl⟩, fun k => ⟨fun z => absurd z Bool.false_ne_true, fun ⟨x, hx, _⟩ => absurd hx List.not_mem_nil⟩, same_new nD⟩
          · rintro i H' hi ⟨S, n, _, _, _, _, s2⟩
            exact seqT_mono s2 hT1
          · rintro i x H' _ hi ⟨S, n, e1, e2, e3, e4, s2⟩ ⟨rfl, hx⟩
            obtain ⟨m, hm1, hm2⟩ := DfAll.get hds hx
            obtain ⟨nm, k, rfl, _⟩ := isMonth_inv (hms m (List.mem_of_getElem? hm1))
            obtain ⟨b, ws, rfl, hb, hws⟩ := Df.tup_inv hm2
            obtain ⟨y1, y2, rfl, p1, p2⟩ := DfAll.two hws
            cases p1
            cases p2
            have hn : (ms.map nameIn)[i]? = some nm := by
              rw [List.getElem?_map, hm1]
              rfl
            refine ⟨b, _, rfl, seqT_mono (s1.trans s2) hb, rfl, .str nm, [.int k], rfl, .int k, [], rfl, rfl, rfl, ?_⟩
            dsimp only [tYes]
            rw [if_pos rfl]
            have nl : n < 14 := by omega
            refine ⟨.str nm, rfl, .inr nm, S, n, rfl, e1, Nat.lt_of_lt_of_le (by omega : n + 1 < 20) (by decide), _, _, upd_same, ?_, ?_, ?_, fun c o e => ?_⟩
            · split <;> omega
            · rw [nodup_take hn, ← e3]
              by_cases hS : S (.inr nm) = true
              · rw [if_pos hS]
                obtain ⟨z, hz, ez⟩ := (e4 _).mp hS
                cases ez
                exact ⟨fun z => by omega, fun z => absurd hz z.2⟩
              · rw [if_neg hS]
                exact ⟨fun z => ⟨by omega, fun hz => hS ((e4 _).mpr ⟨nm, hz, rfl⟩)⟩, fun z => by omega⟩
            · intro kk
              rw [Bool.or_eq_true, decide_eq_true_eq, e4, List.take_add_one, hn]
              constructor
              · rintro (⟨x, hx, e⟩ | e)
                · exact ⟨x, List.mem_append_left _ hx, e⟩
                · exact ⟨nm, List.mem_append_right _ (List.mem_singleton.mpr rfl), e⟩
              · rintro ⟨x, hx, e⟩
                rcases List.mem_append.mp hx with hx | hx
                · exact .inl ⟨x, hx, e⟩
                · rw [List.mem_singleton.mp hx] at e
                  exact .inr e
            · have hc : c ≠ D := ne_of_none e nD
              rw [upd_ne hc]
              exact s2 c o e
          · rintro H' ⟨S, n, e1, e2, e3, e4, s2⟩
            have hT2 := seqT_mono s2 hT1
            refine ⟨D, S, n, rfl, e1, .ref a, rfl, .ref a, vs.length, rfl, .inr ⟨vs, hT2, rfl⟩, rfl, ?_⟩
            have lm : (ms.map nameIn).take vs.length = ms.map nameIn := List.take_of_length_le (by rw [List.length_map]; omega)
            rw [lm] at e3
            have e : decide (V.int (n : Int) = V.int (vs.length : Int)) = decide (ms.map nameIn).Nodup := by
              rw [decide_eq_decide, ← e3]
              exact ⟨fun z => by have := V.int.inj z; omega, fun z => by rw [z]⟩
            rw [e]
            exact q H' (s1.trans s2)
    · have e : isYear (.tuple ms) = false := by
        have : ¬ ((1 : Int) ≤ vs.length) := fun z => h1 (decide_eq_true z)
        show (decide (1 ≤ ms.length ∧ ms.length ≤ 13) && _) = false
        rw [decide_eq_false (by omega), Bool.false_and]
      rw [e] at q
      exact ⟨_, rfl, q H (Same.refl H)⟩
  | none => exact iteT (q H (Same.refl H))
  | bool b => exact iteT (q H (Same.refl H))
  | int i => exact iteT (q H (Same.refl H))
  | list xs => exact iteT (q H (Same.refl H))
  | str x => exact iteT (q H (Same.refl H))
  | dict kvs => exact nomatch g.fin
theorem ok_is_rule (T : Top K mg) : FnOk P w K mg base CX0 5 T.a_is_rule T.d_is_rule ["thing"] (spB K isRule) := by
  obtain ⟨t20, m20⟩ := T.v_MOST_YEARS
  have GY : FnOk P w K mg base CX0 4 T.a_is_year T.d_is_year ["thing"] (spB K isYear) := ok_is_year T
  refine T.F_is_rule.ok sc_is_rule spB_len (fun cdv A outer s H vs Q E hr h => ?_)
  obtain ⟨v, d, rfl, hd, g, q⟩ := h
  refine ⟨_, pss_cons (ps_if (PW.pt (pw_or
      (pt_not (pt_val (pe_callB call_isiD (by rfl) T.n_isinstance (by decide +kernel) (pa_cons (pv 0) (pa_cons (pe_bltn (v := .ty "tuple") (by rfl) T.n_tuple (by decide +kernel) rfl) pa_nil)))))
      (pw_or1 (pt_not (pt_chain op_le op_le pe_int (pe_callB call_len (by rfl) T.n_len PySem.boot_len (pa_cons (pv 0) pa_nil)) (pe_glob (v := .int 20) rfl m20 ⟨_, rfl⟩))))))
      (pss_one (ps_ret pe_bl)) pss_nil)
    (pss_one (ps_ret (pe_callB (cr_all rfl) (by rfl) T.n_all (by decide +kernel) (pa_cons
      (pe_lc (own := [("year", 1)]) (g := gName 1) (tt := tYes) (by rfl) sc_is_rule.nd (pi_tup (pv 0)) (blkOk_by (own := [("year", 1)]) (N := ["thing", "year"]) (sc := defScope s_is_rule) (by decide +kernel)) (fun _ _ _ _ _ => pg_name (i := 1) sc_is_rule.nd rfl (Or.inl rfl)) (fun _ _ _ _ _ => pts_nil) (fun _ _ _ _ _ => (pe_call GY hr (by rfl) T.m_is_year T.F_is_year.kp T.b_is_year .nil pass0 (pa_cons (pv 1) pa_nil)))) pa_nil)))), ?_⟩
  refine ⟨v, rfl, v, d, "tuple", _, rfl, hd, kit_tuple d g.fin, _, rfl, ?_⟩
  cases d with
  | tuple ms =>
    obtain ⟨a, vs, rfl, hT, hds⟩ := Df.tup_inv hd
    have el : vs.length = ms.length := DfAll.len hds
    refine iteF ⟨.ref a, rfl, .ref a, vs.length, rfl, .inr ⟨vs, hT, rfl⟩, 1, (vs.length : Int), rfl, rfl, _, rfl, ite2 (fun h1 => ?_) (fun h1 => ?_)⟩
    · have h1' : (1 : Int) ≤ vs.length := of_decide_eq_true h1
      refine ⟨(vs.length : Int), 20, rfl, rfl, _, rfl, ite2 (fun h2 => ?_) (fun h2 => ?_)⟩
      · have h2' : ¬ ((vs.length : Int) ≤ 20) := by simpa using h2
        have e : isRule (.tuple ms) = false := by
          show (decide (1 ≤ ms.length ∧ ms.length ≤ 20) && _) = false
          rw [decide_eq_false (by omega), Bool.false_and]
        rw [e] at q
        exact q H (Same.refl H)
      · have h2' : (vs.length : Int) ≤ 20 := by simpa using h2
        have e : isRule (.tuple ms) = ms.all isYear := by
          show (decide (1 ≤ ms.length ∧ ms.length ≤ 20) && _) = _
          rw [decide_eq_true (by omega), Bool.true_and]
        rw [e] at q
        have hg : ∀ m ∈ ms, Good 900000 50 m := fun m hm => (g.tup_mem hm).up
        dsimp only [tNext]
        exact ev_retN (K := K) (0 + ms.length * 0 + 0) (· = .bool (ms.all isYear)) (ev_allT (i := 0) (slot := 1) (v := .ref a) (r := isYear) rfl (dp_no hd) hg (by omega) (fun _ => rfl) (fun _ => rfl)) (by rw [Nat.mul_zero]; exact Nat.zero_le _) fun H1 v1 d1 s1 hd1 e1 => by subst e1; cases hd1; exact q H1 s1
    · have e : isRule (.tuple ms) = false := by
        have : ¬ ((1 : Int) ≤ vs.length) := fun z => h1 (decide_eq_true z)
        show (decide (1 ≤ ms.length ∧ ms.length ≤ 20) && _) = false
        rw [decide_eq_false (by omega), Bool.false_and]
      rw [e] at q
      exact ⟨_, rfl, q H (Same.refl H)⟩
  | none => exact iteT (q H (Same.refl H))
  | bool b => exact iteT (q H (Same.refl H))
  | int i => exact iteT (q H (Same.refl H))
  | list xs => exact iteT (q H (Same.refl H))
  | str x => exact iteT (q H (Same.refl H))
  | dict kvs => exact nomatch g.fin
end

section
variable {P : Program} {w : World} {K : PySem.W.Frag} {mg : Str → Option Value} {base : Heap}
/-! #### the law's own tests -/
theorem ok_whole (T : Top K mg) : FnOk P w K mg base CX0 1 T.a__law_whole T.d__law_whole ["_law_value"] (spB K isInt) := by
  refine T.F__law_whole.ok sc__law_whole spB_len (fun cdv A outer s H vs Q E hr h => ?_)
  obtain ⟨v, d, rfl, hd, g, q⟩ := h
  refine ⟨_, pss_one (ps_ret (pe_and
    (pe_callB call_isiD (by rfl) T.n_isinstance (by decide +kernel) (pa_cons (pv 0) (pa_cons (pe_bltn (v := .ty "int") (by rfl) T.n_int (by decide +kernel) rfl) pa_nil)))
    (pe_one (pe_not (pe_callB call_isiD (by rfl) T.n_isinstance (by decide +kernel) (pa_cons (pv 0) (pa_cons (pe_bltn (v := .ty "bool") (by rfl) T.n_bool (by decide +kernel) rfl) pa_nil))))))), ?_⟩
  refine ⟨v, rfl, v, d, "int", _, rfl, hd, kit_int d g.fin, _, rfl, ite2 (fun h1 => ?_) (fun h1 => ?_)⟩
  · refine ⟨v, rfl, v, d, "bool", _, rfl, hd, kit_bool d g.fin, _, rfl, ?_⟩
    have e := isInt_eq d
    rw [h1, Bool.true_and] at e
    rw [← e]
    exact q H (Same.refl H)
  · have e := isInt_eq d
    rw [Bool.eq_false_iff.mpr h1, Bool.false_and] at e
    rw [← e]
    exact q H (Same.refl H)
theorem abc_mem (c : Nat) : decide (c ∈ (Str.ofString "abcdefghijklmnopqrstuvwxyz").cps.toList) = decide (97 ≤ c ∧ c ≤ 122) := by
  have e : (Str.ofString "abcdefghijklmnopqrstuvwxyz").cps.toList = List.range' 97 26 := by decide +kernel
  rw [e, decide_eq_decide, List.mem_range'_1]
  omega
theorem ok_lname (T : Top K mg) : FnOk P w K mg base CX0 1 T.a__law_is_name T.d__law_is_name ["_law_value"] (spB K isName) := by
  refine T.F__law_is_name.ok sc__law_is_name spB_len (fun cdv A outer s H vs Q E hr h => ?_)
  obtain ⟨v, d, rfl, hd, g, q⟩ := h
  refine ⟨_, pss_cons (ps_if (PW.pt (pw_or
      (pt_not (pt_val (pe_callB call_isiD (by rfl) T.n_isinstance (by decide +kernel) (pa_cons (pv 0) (pa_cons (pe_bltn (v := .ty "str") (by rfl) T.n_str (by decide +kernel) rfl) pa_nil)))))
      (pw_or1 (pt_not (pt_chain op_le op_le pe_int (pe_callB call_len (by rfl) T.n_len PySem.boot_len (pa_cons (pv 0) pa_nil)) pe_int)))))
      (pss_one (ps_ret pe_bl)) pss_nil)
    (pss_one (ps_ret (pe_callB (cr_all rfl) (by rfl) T.n_all (by decide +kernel) (pa_cons
      (pe_lc (own := [("_law_sign", 1)]) (g := gName 1) (tt := tYes) (by rfl) sc__law_is_name.nd (pi_str (pv 0)) (blkOk_by (own := [("_law_sign", 1)]) (N := ["_law_value", "_law_sign"]) (sc := defScope s__law_is_name) (by decide +kernel))
        (fun _ _ _ _ _ => pg_name (i := 1) sc__law_is_name.nd rfl (Or.inl rfl)) (fun _ _ _ _ _ => pts_nil) (fun _ _ _ _ _ => pe_cmpR op_in_sign (pv 1) pe_str (by rfl))) pa_nil)))), ?_⟩
  refine ⟨v, rfl, v, d, "str", _, rfl, hd, kit_str d g.fin, _, rfl, ?_⟩
  cases d with
  | str x =>
    cases hd
    have hx : 10 * x.length + 4 ≤ 900000 := g.wt
    have hl : x.length ≤ sizeLine := Nat.le_trans (by omega) line20
    refine iteF ⟨.str x, rfl, .str x, x.length, rfl, ⟨hl, rfl⟩, 1, (x.length : Int), rfl, rfl, _, rfl, ite2 (fun h1 => ?_) (fun h1 => ?_)⟩
    · have h1' : (1 : Int) ≤ x.length := of_decide_eq_true h1
      refine ⟨(x.length : Int), 8, rfl, rfl, _, rfl, ite2 (fun h2 => ?_) (fun h2 => ?_)⟩
      · have h2' : ¬ ((x.length : Int) ≤ 8) := by simpa using h2
        have e : isName (.str x) = false := by
          show (decide (1 ≤ x.length ∧ x.length ≤ 8) && lowAZ x) = false
          rw [decide_eq_false (by omega), Bool.false_and]
        rw [e] at q
        exact q H (Same.refl H)
      · have h2' : (x.length : Int) ≤ 8 := by simpa using h2
        have e : isName (.str x) = lowAZ x := by
          show (decide (1 ≤ x.length ∧ x.length ≤ 8) && lowAZ x) = lowAZ x
          rw [decide_eq_true (by omega), Bool.true_and]
        rw [e] at q
        dsimp only [tNext]
        refine ev_retN (K := K) (0 + x.length * 0) (fun d => d = .bool (lowAZ x)) ?_ (by rw [Nat.mul_zero]; exact Nat.zero_le _) fun H1 v1 d1 s1 hd1 e1 => by subst e1; cases hd1; exact q H1 s1
        refine ev_all (R := fun l => l = [.list ((x.cps.toList.map fun c => decide (97 ≤ c ∧ c ≤ 122)).map PyData.bool)]) (eva_cons (m1 := 0 + x.length * 0) (m2 := 0) (P := fun d => d = .list ((x.cps.toList.map fun c => decide (97 ≤ c ∧ c ≤ 122)).map PyData.bool)) (R1 := (· = [])) ?_ eva_n (fun d l e1 e2 => by rw [e1, e2])) (fun l e => ⟨_, e, ?_⟩)
        · refine ev_lcS (s := x) (P := fun i e => ∀ c, x.cps[i]? = some c → e = .bool (decide (97 ≤ c ∧ c ≤ 122))) (ev_var (i := 0) rfl (.str x) rfl) (fun _ => rfl) (by omega) (fun D H1 s1 i c hc => ?_) (fun ds hl hp => ?_)
          · refine ev_inSign (m1 := 0) (m2 := 0) (P1 := (· = .str ⟨#[c]⟩)) (P2 := (· = .str "abcdefghijklmnopqrstuvwxyz")) (ev_var (i := 1) rfl (.str _) rfl) (ev_str rfl) (fun d e q1 q2 => ⟨c, _, q1, q2, fun c' h => ?_⟩)
            rw [hc] at h
            cases h
            rw [abc_mem]
          · congr 1
            rw [List.map_map]
            refine list_by x.cps.toList ds (by rw [hl, Array.length_toList]; rfl) fun i e c h1 h2 => ?_
            exact hp i e h1 c (by rw [← Array.getElem?_toList]; exact h2)
        · show PyData.bool _ = PyData.bool (x.cps.all _)
          rw [all_list, List.all_map]
          rfl
    · have e : isName (.str x) = false := by
        have : ¬ ((1 : Int) ≤ x.length) := fun z => h1 (decide_eq_true z)
        show (decide (1 ≤ x.length ∧ x.length ≤ 8) && lowAZ x) = false
        rw [decide_eq_false (by omega), Bool.false_and]
      rw [e] at q
      refine ⟨_, rfl, ?_⟩
      exact q H (Same.refl H)
  | none => exact iteT (q H (Same.refl H))
  | bool b => exact iteT (q H (Same.refl H))
  | int i => exact iteT (q H (Same.refl H))
  | list xs => exact iteT (q H (Same.refl H))
  | tuple xs => exact iteT (q H (Same.refl H))
  | dict kvs => exact nomatch g.fin
end

section
variable {P : Program} {w : World} {K : PySem.W.Frag} {mg : Str → Option Value} {base : Heap}
theorem isDayM_int (i : Int) : isDayM (.int i) = decide (1 ≤ i ∧ i ≤ 60) := rfl
theorem ok_ldate (T : Top K mg) : FnOk P w K mg base CX0 2 T.a__law_is_date T.d__law_is_date ["_law_value"] (spB K isDate) := by
  have GI : FnOk P w K mg base CX0 1 T.a__law_whole T.d__law_whole ["_law_value"] (spB K isInt) := ok_whole T
  have GN : FnOk P w K mg base CX0 1 T.a__law_is_name T.d__law_is_name ["_law_value"] (spB K isName) := ok_lname T
  refine T.F__law_is_date.ok sc__law_is_date spB_len (fun cdv A outer s H vs Q E hr h => ?_)
  obtain ⟨v, d, rfl, hd, g, q⟩ := h
  refine ⟨_, pss_cons (ps_if (PW.pt (pw_or
      (pt_not (pt_val (pe_callB call_isiD (by rfl) T.n_isinstance (by decide +kernel) (pa_cons (pv 0) (pa_cons (pe_bltn (v := .ty "tuple") (by rfl) T.n_tuple (by decide +kernel) rfl) pa_nil)))))
      (pw_or1 (pt_cmpR op_ne (pe_callB call_len (by rfl) T.n_len PySem.boot_len (pa_cons (pv 0) pa_nil)) pe_int (nomark _)))))
      (pss_one (ps_ret pe_bl)) pss_nil)
    (pss_one (ps_ret (pe_and (pe_call GI hr (by rfl) T.m__law_whole T.F__law_whole.kp T.b__law_whole .nil pass0 (pa_cons (pe_ix ix_tup (pv 0) pe_int (fun _ _ => rfl)) pa_nil)) (pe_and (pe_call GN hr (by rfl) T.m__law_is_name T.F__law_is_name.kp T.b__law_is_name .nil pass0 (pa_cons (pe_ix ix_tup (pv 0) pe_int (fun _ _ => rfl)) pa_nil)) (pe_and (pe_call GI hr (by rfl) T.m__law_whole T.F__law_whole.kp T.b__law_whole .nil pass0 (pa_cons (pe_ix ix_tup (pv 0) pe_int (fun _ _ => rfl)) pa_nil)) (pe_one (pe_chain op_le op_le pe_int (pe_ix ix_tup (pv 0) pe_int (fun _ _ => rfl)) pe_int))))))), ?_⟩
  refine ⟨v, rfl, v, d, "tuple", _, rfl, hd, kit_tuple d g.fin, _, rfl, ?_⟩
  cases d with
  | tuple ds =>
    obtain ⟨a, vs, rfl, hT, hds⟩ := Df.tup_inv hd
    have el : vs.length = ds.length := DfAll.len hds
    refine iteF ⟨.ref a, rfl, .ref a, vs.length, rfl, .inr ⟨vs, hT, rfl⟩, rfl, _, rfl, ite2 (fun h1 => ?_) (fun h1 => ?_)⟩
    · have h2 := ne_int.mp h1
      have e := isDate_len (ds := ds) (by omega)
      rw [e] at q
      exact q H (Same.refl H)
    · have h2 : ds.length = 3 := by
        have : ¬ (vs.length : Int) ≠ 3 := fun z => h1 (ne_int.mpr z)
        omega
      obtain ⟨d1, d2, d3, rfl⟩ := len3 h2
      obtain ⟨v1, v2, v3, rfl, p1, p2, p3⟩ := DfAll.three hds
      have g1 := (g.tup_mem (d := d1) (by simp)).up (n' := 900000) (k' := 50)
      have g2 := (g.tup_mem (d := d2) (by simp)).up (n' := 900000) (k' := 50)
      have g3 := (g.tup_mem (d := d3) (by simp)).up (n' := 900000) (k' := 50)
      have q' : ∀ H', Same H H' → Q (.bl (isInt d1 && (isName d2 && isDayM d3))) H' := q
      refine ⟨.ref a, rfl, a, _, 0, v1, rfl, rfl, hT, rfl, v1, d1, rfl, p1, g1, fun H1 s1 => ⟨_, rfl, ite2 (fun b1 => ?_) (fun b1 => ?_)⟩⟩
      · rw [b1, Bool.true_and] at q'
        refine ⟨.ref a, rfl, a, _, 1, v2, rfl, rfl, seqT_mono s1 hT, rfl, v2, d2, rfl, Df.to p2 s1, g2, fun H2 s2 => ⟨_, rfl, ite2 (fun b2 => ?_) (fun b2 => ?_)⟩⟩
        · rw [b2, Bool.true_and] at q'
          have s12 := s1.trans s2
          refine ⟨.ref a, rfl, a, _, 2, v3, rfl, rfl, seqT_mono s12 hT, rfl, v3, d3, rfl, Df.to p3 s12, g3, fun H3 s3 => ⟨_, rfl, ite2 (fun b3 => ?_) (fun b3 => ?_)⟩⟩
          · have s13 := s12.trans s3
            cases d3 with
            | int i =>
              cases p3
              rw [isDayM_int] at q'
              refine ⟨.ref a, rfl, a, _, 2, .int i, rfl, rfl, seqT_mono s13 hT, rfl, 1, i, rfl, rfl, _, rfl, ite2 (fun b4 => ?_) (fun b4 => ?_)⟩
              · have b4' : (1 : Int) ≤ i := of_decide_eq_true b4
                refine ⟨i, 60, rfl, rfl, ?_⟩
                have e : decide (1 ≤ i ∧ i ≤ 60) = decide (i ≤ 60) := by rw [decide_eq_decide]; omega
                rw [e] at q'
                exact q' H3 s13
              · have b4' : ¬ (1 : Int) ≤ i := fun z => b4 (decide_eq_true z)
                rw [decide_eq_false (by omega)] at q'
                exact q' H3 s13
            | none => exact nomatch b3
            | bool b => exact nomatch b3
            | str x => exact nomatch b3
            | list xs => exact nomatch b3
            | tuple xs => exact nomatch b3
            | dict kvs => exact nomatch b3
          · have e : isDayM d3 = false := by
              cases d3 <;> first | rfl | exact absurd rfl b3
            rw [e] at q'
            exact q' H3 (s12.trans s3)
        · rw [Bool.eq_false_iff.mpr b2, Bool.false_and] at q'
          exact q' H2 (s1.trans s2)
      · rw [Bool.eq_false_iff.mpr b1, Bool.false_and] at q'
        exact q' H1 s1
  | none => exact iteT (q H (Same.refl H))
  | bool b => exact iteT (q H (Same.refl H))
  | int i => exact iteT (q H (Same.refl H))
  | list xs => exact iteT (q H (Same.refl H))
  | str x => exact iteT (q H (Same.refl H))
  | dict kvs => exact nomatch g.fin
end

section
variable {P : Program} {w : World} {K : PySem.W.Frag} {mg : Str → Option Value} {base : Heap}
/-! #### the law's own tests of rules -/
theorem isDayMi (i : Int) : isDayM (.int i) = decide (1 ≤ i ∧ i ≤ 60) := rfl
theorem ok_lmonth (T : Top K mg) : FnOk P w K mg base CX0 2 T.a__law_is_month T.d__law_is_month ["_law_value"] (spB K isMonth) := by
  have GI : FnOk P w K mg base CX0 1 T.a__law_whole T.d__law_whole ["_law_value"] (spB K isInt) := ok_whole T
  have GN : FnOk P w K mg base CX0 1 T.a__law_is_name T.d__law_is_name ["_law_value"] (spB K isName) := ok_lname T
  refine T.F__law_is_month.ok sc__law_is_month spB_len (fun cdv A outer s H vs Q E hr h => ?_)
  obtain ⟨v, d, rfl, hd, g, q⟩ := h
  refine ⟨_, pss_cons (ps_if (PW.pt (pw_or
      (pt_not (pt_val (pe_callB call_isiD (by rfl) T.n_isinstance (by decide +kernel) (pa_cons (pv 0) (pa_cons (pe_bltn (v := .ty "tuple") (by rfl) T.n_tuple (by decide +kernel) rfl) pa_nil)))))
      (pw_or1 (pt_cmpR op_ne (pe_callB call_len (by rfl) T.n_len PySem.boot_len (pa_cons (pv 0) pa_nil)) pe_int (nomark _)))))
      (pss_one (ps_ret pe_bl)) pss_nil)
    (pss_one (ps_ret (pe_and (pe_call GN hr (by rfl) T.m__law_is_name T.F__law_is_name.kp T.b__law_is_name .nil pass0 (pa_cons (pe_ix ix_tup (pv 0) pe_int (fun _ _ => rfl)) pa_nil)) (pe_and (pe_call GI hr (by rfl) T.m__law_whole T.F__law_whole.kp T.b__law_whole .nil pass0 (pa_cons (pe_ix ix_tup (pv 0) pe_int (fun _ _ => rfl)) pa_nil)) (pe_one (pe_chain op_le op_le pe_int (pe_ix ix_tup (pv 0) pe_int (fun _ _ => rfl)) pe_int)))))), ?_⟩
  refine ⟨v, rfl, v, d, "tuple", _, rfl, hd, kit_tuple d g.fin, _, rfl, ?_⟩
  cases d with
  | tuple ds =>
    obtain ⟨a, vs, rfl, hT, hds⟩ := Df.tup_inv hd
    have el : vs.length = ds.length := DfAll.len hds
    refine iteF ⟨.ref a, rfl, .ref a, vs.length, rfl, .inr ⟨vs, hT, rfl⟩, rfl, _, rfl, ite2 (fun h1 => ?_) (fun h1 => ?_)⟩
    · have h2 := ne_int.mp h1
      have e := isMonth_len (ds := ds) (by omega)
      rw [e] at q
      exact q H (Same.refl H)
    · have h2 : ds.length = 2 := by
        have : ¬ (vs.length : Int) ≠ 2 := fun z => h1 (ne_int.mpr z)
        omega
      obtain ⟨d1, d2, rfl⟩ := len2 h2
      obtain ⟨v1, v2, rfl, p1, p2⟩ := DfAll.two hds
      have g1 := (g.tup_mem (d := d1) (by simp)).up (n' := 900000) (k' := 50)
      have g2 := (g.tup_mem (d := d2) (by simp)).up (n' := 900000) (k' := 50)
      have q' : ∀ H', Same H H' → Q (.bl (isName d1 && isDayM d2)) H' := q
      refine ⟨.ref a, rfl, a, _, 0, v1, rfl, rfl, hT, rfl, v1, d1, rfl, p1, g1, fun H1 s1 => ⟨_, rfl, ite2 (fun b1 => ?_) (fun b1 => ?_)⟩⟩
      · rw [b1, Bool.true_and] at q'
        refine ⟨.ref a, rfl, a, _, 1, v2, rfl, rfl, seqT_mono s1 hT, rfl, v2, d2, rfl, Df.to p2 s1, g2, fun H2 s2 => ⟨_, rfl, ite2 (fun b3 => ?_) (fun b3 => ?_)⟩⟩
        · have s12 := s1.trans s2
          cases d2 with
          | int i =>
            cases p2
            rw [isDayMi] at q'
            refine ⟨.ref a, rfl, a, _, 1, .int i, rfl, rfl, seqT_mono s12 hT, rfl, 1, i, rfl, rfl, _, rfl, ite2 (fun b4 => ?_) (fun b4 => ?_)⟩
            · have b4' : (1 : Int) ≤ i := of_decide_eq_true b4
              refine ⟨i, 60, rfl, rfl, ?_⟩
              have e : decide (1 ≤ i ∧ i ≤ 60) = decide (i ≤ 60) := by rw [decide_eq_decide]; omega
              rw [e] at q'
              exact q' H2 s12
            · have b4' : ¬ (1 : Int) ≤ i := fun z => b4 (decide_eq_true z)
              rw [decide_eq_false (by omega)] at q'
              exact q' H2 s12
          | none => exact nomatch b3
          | bool b => exact nomatch b3
          | str x => exact nomatch b3
          | list xs => exact nomatch b3
          | tuple xs => exact nomatch b3
          | dict kvs => exact nomatch b3
        · have e : isDayM d2 = false := by
            cases d2 <;> first | rfl | exact absurd rfl b3
          rw [e] at q'
          exact q' H2 (s1.trans s2)
      · rw [Bool.eq_false_iff.mpr b1, Bool.false_and] at q'
        exact q' H1 s1
  | none => exact iteT (q H (Same.refl H))
  | bool b => exact iteT (q H (Same.refl H))
  | int i => exact iteT (q H (Same.refl H))
  | list xs => exact iteT (q H (Same.refl H))
  | str x => exact iteT (q H (Same.refl H))
  | dict kvs => exact nomatch g.fin
theorem names_of {ms : List PyData} (h : ms.all isMonth = true) : ∀ (i : Nat) (e m : PyData), ms[i]? = some m → (∀ m', ms[i]? = some m' → ∃ es, m' = .tuple es ∧ es[0]? = some e) → e = .str (nameIn m) := fun i e m hm hf => by
  obtain ⟨nm, k, rfl, _⟩ := isMonth_inv (List.all_eq_true.mp h m (List.mem_of_getElem? hm))
  obtain ⟨es, e1, e2⟩ := hf _ hm
  cases e1
  cases e2
  rfl
theorem ok_lyear (T : Top K mg) : FnOk P w K mg base CX0 3 T.a__law_is_year T.d__law_is_year ["_law_value"] (spB K isYear) := by
  have GM : FnOk P w K mg base CX0 2 T.a__law_is_month T.d__law_is_month ["_law_value"] (spB K isMonth) := ok_lmonth T
  refine T.F__law_is_year.ok sc__law_is_year spB_len (fun cdv A outer s H vs Q E hr h => ?_)
  obtain ⟨v, d, rfl, hd, g, q⟩ := h
  refine ⟨_, pss_cons (ps_if (PW.pt (pw_or
      (pt_not (pt_val (pe_callB call_isiD (by rfl) T.n_isinstance (by decide +kernel) (pa_cons (pv 0) (pa_cons (pe_bltn (v := .ty "tuple") (by rfl) T.n_tuple (by decide +kernel) rfl) pa_nil)))))
      (pw_or (pt_not (pt_chain op_le op_le pe_int (pe_callB call_len (by rfl) T.n_len PySem.boot_len (pa_cons (pv 0) pa_nil)) pe_int))
      (pw_or1 (pt_not (pt_val (pe_callB (cr_all rfl) (by rfl) T.n_all (by decide +kernel) (pa_cons (pe_lc (own := [("_law_one", 2)]) (g := gName 2) (tt := tYes) (by rfl) sc__law_is_year.nd (pi_tup (pv 0)) (blkOk_by (own := [("_law_one", 2)]) (N := ["_law_value", "_law_names", "_law_one", "_law_name"]) (sc := defScope s__law_is_year) (by decide +kernel)) (fun _ _ _ _ _ => pg_name (i := 2) sc__law_is_year.nd rfl (Or.inl rfl)) (fun _ _ _ _ _ => pts_nil) (fun _ _ _ _ _ => (pe_call GM hr (by rfl) T.m__law_is_month T.F__law_is_month.kp T.b__law_is_month .nil pass0 (pa_cons (pv 2) pa_nil)))) pa_nil))))))))
      (pss_one (ps_ret pe_bl)) pss_nil)
    (pss_cons (ps_set (i := 1) sc__law_is_year.nd rfl (.inr rfl) (pe_lc (own := [("_law_one", 2)]) (te := tOp (rIxT K) (tVar 2) (tC (.int 0))) (g := gName 2) (tt := tYes) (by rfl) sc__law_is_year.nd (pi_tup (pv 0)) (blkOk_by (own := [("_law_one", 2)]) (N := ["_law_value", "_law_names", "_law_one", "_law_name"]) (sc := defScope s__law_is_year) (by decide +kernel)) (fun _ _ _ _ _ => pg_name (i := 2) sc__law_is_year.nd rfl (Or.inl rfl)) (fun _ _ _ _ _ => pts_nil) (fun _ _ _ _ _ => (pe_ix ix_tup (pv 2) pe_int (fun _ _ => rfl)))))
    (pss_one (ps_ret (pe_callB (cr_all rfl) (by rfl) T.n_all (by decide +kernel) (pa_cons (pe_lc (own := [("_law_name", 3)]) (te := tOp rEq (tBM K "list" (rCntS K) (tVar 1) (tCons (tVar 3) tNil)) (tC (.int 1))) (g := gName 3) (tt := tYes) (by rfl) sc__law_is_year.nd (pi_list (pv 1)) (blkOk_by (own := [("_law_name", 3)]) (N := ["_law_value", "_law_names", "_law_one", "_law_name"]) (sc := defScope s__law_is_year) (by decide +kernel)) (fun _ _ _ _ _ => pg_name (i := 3) sc__law_is_year.nd rfl (Or.inl rfl)) (fun _ _ _ _ _ => pts_nil) (fun _ _ _ _ _ => (pe_cmpR op_eq (pe_bm PySem.F.plainAttrs_list PySem.F.slot_list_count PySem.F.type_list_count mt_countS (pv 1) (pa_cons (pv 3) pa_nil)) pe_int (nomark _)))) pa_nil))))), ?_⟩
  refine ⟨v, rfl, v, d, "tuple", _, rfl, hd, kit_tuple d g.fin, _, rfl, ?_⟩
  cases d with
  | tuple ms =>
    obtain ⟨a, vs, rfl, hT, hds⟩ := Df.tup_inv hd
    have el : vs.length = ms.length := DfAll.len hds
    refine iteF ⟨.ref a, rfl, .ref a, vs.length, rfl, .inr ⟨vs, hT, rfl⟩, 1, (vs.length : Int), rfl, rfl, _, rfl, ite2 (fun h1 => ?_) (fun h1 => ?_)⟩
    · have h1' : (1 : Int) ≤ vs.length := of_decide_eq_true h1
      refine ⟨(vs.length : Int), 13, rfl, rfl, _, rfl, ite2 (fun h2 => ?_) (fun h2 => ?_)⟩
      · have h2' : ¬ ((vs.length : Int) ≤ 13) := by simpa using h2
        have e : isYear (.tuple ms) = false := by
          show (decide (1 ≤ ms.length ∧ ms.length ≤ 13) && _) = false
          rw [decide_eq_false (by omega), Bool.false_and]
        rw [e] at q
        exact q H (Same.refl H)
      · have h2' : (vs.length : Int) ≤ 13 := by simpa using h2
        have e : isYear (.tuple ms) = (ms.all isMonth && decide (ms.map nameIn).Nodup) := by
          show (decide (1 ≤ ms.length ∧ ms.length ≤ 13) && _) = _
          rw [decide_eq_true (by omega), Bool.true_and]
        rw [e] at q
        have hg : ∀ m ∈ ms, Good 900000 50 m := fun m hm => (g.tup_mem hm).up
        refine ev_no (K := K) (0 + ms.length * 0 + 0) (· = .bool (ms.all isMonth)) (ev_allT (i := 0) (slot := 2) (v := .ref a) (r := isMonth) rfl (dp_no hd) hg (by omega) (fun _ => rfl) (fun _ => rfl)) (by rw [Nat.mul_zero]; exact Nat.zero_le _) fun H1 v1 d1 s1 hd1 e1 => ?_
        subst e1
        cases hd1
        cases hb : ms.all isMonth with
        | false =>
          rw [hb, Bool.false_and] at q
          exact ⟨_, rfl, iteT (q H1 s1)⟩
        | true =>
          rw [hb, Bool.true_and] at q
          refine ⟨_, rfl, iteF ?_⟩
          have hd1 := Df.to hd s1
          dsimp only [tNext]
          refine ev_setN (K := K) (0 + ms.length * 0) (· = .list ((ms.map nameIn).map PyData.str)) ?_ (by rw [Nat.mul_zero]; exact Nat.zero_le _) fun H2 v2 d2 s2 hd2 e2 => ?_
          · refine ev_lcT (es := ms) (P := fun i e => ∀ m, ms[i]? = some m → ∃ es, m = .tuple es ∧ es[0]? = some e) (ev_var (i := 0) rfl (dp_no hd1) rfl) (fun _ => rfl) (by omega) (fun D G s i x e he hde => ?_) (fun ds hl hp => ?_)
            · obtain ⟨nm, k, rfl, _⟩ := isMonth_inv (List.all_eq_true.mp hb e (List.mem_of_getElem? he))
              refine ev_ixT (m1 := 0) (m2 := 0) (P1 := (· = .tuple [.str nm, .int k])) (P2 := (· = .int 0)) (ev_var rfl hde rfl) (ev_int rfl) (fun d f q1 q2 => ⟨_, 0, .str nm, q1, q2, rfl, fun m hm => ?_⟩)
              rw [he] at hm
              cases hm
              exact ⟨_, rfl, rfl⟩
            · congr 1
              rw [List.map_map]
              exact list_by ms ds hl fun i e m h1 h2 => names_of hb i e m h2 (hp i e h1)
          subst e2
          have ln : (ms.map nameIn).length = ms.length := List.length_map _
          refine ev_retN (K := K) (0 + ((ms.map nameIn).map PyData.str).length * 0 + 0) (· = .bool (decide (ms.map nameIn).Nodup)) ?_ (by rw [Nat.mul_zero]; exact Nat.zero_le _) fun H3 v3 d3 s3 hd3 e3 => by subst e3; cases hd3; exact q H3 (s1.trans (s2.trans s3))
          refine ev_all (R := fun l => l = [.list (((ms.map nameIn).map fun x => decide ((((ms.map nameIn).count x : Nat) : Int) = 1)).map PyData.bool)]) (eva_cons (P := fun d => d = .list (((ms.map nameIn).map fun x => decide ((((ms.map nameIn).count x : Nat) : Int) = 1)).map PyData.bool)) (R1 := (· = [])) ?_ eva_n (fun d l e1 e2 => by rw [e1, e2])) (fun l e => ⟨_, e, ?_⟩)
          · refine ev_lcL (es := (ms.map nameIn).map PyData.str) (P := fun i e => ∀ x, (ms.map nameIn)[i]? = some x → e = .bool (decide ((((ms.map nameIn).count x : Nat) : Int) = 1))) (ev_var (i := 1) rfl (dp_no hd2) rfl) (fun _ => rfl) (by rw [List.length_map, ln]; omega) (fun D G s i x e he hde => ?_) (fun ds hl hp => ?_)
            · rw [List.getElem?_map] at he
              obtain ⟨nm, hnm, rfl⟩ := Option.map_eq_some_iff.mp he
              refine ev_eqIx (m1 := 0) (m2 := 0) (q1 := (· = (((ms.map nameIn).count nm : Nat) : Int))) (q2 := (· = 1)) (ev_cntS (m1 := 0) (m2 := 0) (ys := ms.map nameIn) (R := (· = [.str nm])) (ev_var (i := 1) rfl (Df.to (dp_no hd2) s) rfl) (eva_c (ev_var rfl hde rfl) eva_n) (fun ds e => ⟨nm, e, _, rfl, rfl⟩)) (ev_intE rfl) (fun i' j' q1 q2 y hy => ?_)
              rw [hnm] at hy
              cases hy
              rw [q1, q2]
            · congr 1
              rw [List.map_map]
              refine list_by (ms.map nameIn) ds (by rw [hl, List.length_map]) fun i e x h1 h2 => hp i e h1 x h2
          · rw [List.all_map]
            exact congrArg PyData.bool (nodup_cnt (ms.map nameIn))
    · have e : isYear (.tuple ms) = false := by
        have : ¬ ((1 : Int) ≤ vs.length) := fun z => h1 (decide_eq_true z)
        show (decide (1 ≤ ms.length ∧ ms.length ≤ 13) && _) = false
        rw [decide_eq_false (by omega), Bool.false_and]
      rw [e] at q
      exact ⟨_, rfl, q H (Same.refl H)⟩
  | none => exact iteT (q H (Same.refl H))
  | bool b => exact iteT (q H (Same.refl H))
  | int i => exact iteT (q H (Same.refl H))
  | list xs => exact iteT (q H (Same.refl H))
  | str x => exact iteT (q H (Same.refl H))
  | dict kvs => exact nomatch g.fin
theorem ok_lrule (T : Top K mg) : FnOk P w K mg base CX0 4 T.a__law_is_rule T.d__law_is_rule ["_law_value"] (spB K isRule) := by
  have GY : FnOk P w K mg base CX0 3 T.a__law_is_year T.d__law_is_year ["_law_value"] (spB K isYear) := ok_lyear T
  refine T.F__law_is_rule.ok sc__law_is_rule spB_len (fun cdv A outer s H vs Q E hr h => ?_)
  obtain ⟨v, d, rfl, hd, g, q⟩ := h
  refine ⟨_, (pss_one (ps_ret (pe_and (pe_callB call_isiD (by rfl) T.n_isinstance (by decide +kernel) (pa_cons (pv 0) (pa_cons (pe_bltn (v := .ty "tuple") (by rfl) T.n_tuple (by decide +kernel) rfl) pa_nil))) (pe_and (pe_chain op_le op_le pe_int (pe_callB call_len (by rfl) T.n_len PySem.boot_len (pa_cons (pv 0) pa_nil)) pe_int) (pe_one (pe_callB (cr_all rfl) (by rfl) T.n_all (by decide +kernel) (pa_cons (pe_lc (own := [("_law_one", 1)]) (g := gName 1) (tt := tYes) (by rfl) sc__law_is_rule.nd (pi_tup (pv 0)) (blkOk_by (own := [("_law_one", 1)]) (N := ["_law_value", "_law_one"]) (sc := defScope s__law_is_rule) (by decide +kernel)) (fun _ _ _ _ _ => pg_name (i := 1) sc__law_is_rule.nd rfl (Or.inl rfl)) (fun _ _ _ _ _ => pts_nil) (fun _ _ _ _ _ => (pe_call GY hr (by rfl) T.m__law_is_year T.F__law_is_year.kp T.b__law_is_year .nil pass0 (pa_cons (pv 1) pa_nil)))) pa_nil))))))), ?_⟩
  refine ⟨v, rfl, v, d, "tuple", _, rfl, hd, kit_tuple d g.fin, _, rfl, ?_⟩
  cases d with
  | tuple ms =>
    obtain ⟨a, vs, rfl, hT, hds⟩ := Df.tup_inv hd
    have el : vs.length = ms.length := DfAll.len hds
    refine iteT ⟨.ref a, rfl, .ref a, vs.length, rfl, .inr ⟨vs, hT, rfl⟩, 1, (vs.length : Int), rfl, rfl, _, rfl, ite2 (fun h1 => ?_) (fun h1 => ?_)⟩
    · have h1' : (1 : Int) ≤ vs.length := of_decide_eq_true h1
      refine ⟨(vs.length : Int), 20, rfl, rfl, _, rfl, ite2 (fun h2 => ?_) (fun h2 => ?_)⟩
      · have h2' : (vs.length : Int) ≤ 20 := of_decide_eq_true h2
        have e : isRule (.tuple ms) = ms.all isYear := by
          show (decide (1 ≤ ms.length ∧ ms.length ≤ 20) && _) = _
          rw [decide_eq_true (by omega), Bool.true_and]
        rw [e] at q
        have hg : ∀ m ∈ ms, Good 900000 50 m := fun m hm => (g.tup_mem hm).up
        exact ev_no (K := K) (0 + ms.length * 0 + 0) (· = .bool (ms.all isYear)) (ev_allT (i := 0) (slot := 1) (v := .ref a) (r := isYear) rfl (dp_no hd) hg (by omega) (fun _ => rfl) (fun _ => rfl)) (by rw [Nat.mul_zero]; exact Nat.zero_le _) fun H1 v1 d1 s1 hd1 e1 => by subst e1; cases hd1; exact q H1 s1
      · have h2' : ¬ (vs.length : Int) ≤ 20 := fun z => h2 (decide_eq_true z)
        have e : isRule (.tuple ms) = false := by
          show (decide (1 ≤ ms.length ∧ ms.length ≤ 20) && _) = false
          rw [decide_eq_false (by omega), Bool.false_and]
        rw [e] at q
        exact q H (Same.refl H)
    · have e : isRule (.tuple ms) = false := by
        have : ¬ ((1 : Int) ≤ vs.length) := fun z => h1 (decide_eq_true z)
        show (decide (1 ≤ ms.length ∧ ms.length ≤ 20) && _) = false
        rw [decide_eq_false (by omega), Bool.false_and]
      rw [e] at q
      exact ⟨_, rfl, q H (Same.refl H)⟩
  | none => exact iteF (q H (Same.refl H))
  | bool b => exact iteF (q H (Same.refl H))
  | int i => exact iteF (q H (Same.refl H))
  | list xs => exact iteF (q H (Same.refl H))
  | str x => exact iteF (q H (Same.refl H))
  | dict kvs => exact nomatch g.fin
end

section
theorem isYear_inv {d : PyData} (h : isYear d = true) : ∃ ms, d = .tuple ms ∧ 1 ≤ ms.length ∧ ms.length ≤ 13 ∧ (∀ m ∈ ms, isMonth m = true) ∧ (ms.map nameIn).Nodup := by
  cases d with
  | tuple ms =>
    obtain ⟨h1, h2⟩ := Bool.and_eq_true_iff.mp (show (decide (1 ≤ ms.length ∧ ms.length ≤ 13) && (ms.all isMonth && decide (ms.map nameIn).Nodup)) = true from h)
    obtain ⟨h2, h3⟩ := Bool.and_eq_true_iff.mp h2
    have := of_decide_eq_true h1
    exact ⟨ms, rfl, this.1, this.2, List.all_eq_true.mp h2, of_decide_eq_true h3⟩
  | _ => exact nomatch h
theorem isRule_inv {d : PyData} (h : isRule d = true) : ∃ ys, d = .tuple ys ∧ 1 ≤ ys.length ∧ ys.length ≤ 20 ∧ ∀ y ∈ ys, isYear y = true := by
  cases d with
  | tuple ms =>
    obtain ⟨h1, h2⟩ := Bool.and_eq_true_iff.mp (show (decide (1 ≤ ms.length ∧ ms.length ≤ 20) && ms.all isYear) = true from h)
    have := of_decide_eq_true h1
    exact ⟨ms, rfl, this.1, this.2, List.all_eq_true.mp h2⟩
  | _ => exact nomatch h
end

section
variable {P : Program} {w : World} {K : PySem.W.Frag} {mg : Str → Option Value} {base : Heap}
/-! #### dates of a rule -/
def fitB (s : Str) (i : Int) : PyData → Bool
  | .tuple [.str nm, .int k] => decide (nm = s) && decide (i ≤ k)
  | _ => false
def yearIn (ys : List PyData) (y : Int) : List PyData := match ys[(y % (ys.length : Int)).toNat]? with
  | some (.tuple ms) => ms
  | _ => []
def hasIn : PyData → PyData → Bool
  | .tuple ys, .tuple [.int y, .str s, .int i] => (yearIn ys y).any (fitB s i)
  | _, _ => false
def hasB (r d : PyData) : Bool := isDate d && hasIn r d
theorem isDate_inv {d : PyData} (h : isDate d = true) : ∃ y s i, d = .tuple [.int y, .str s, .int i] ∧ nameStr s = true ∧ 1 ≤ i ∧ i ≤ 60 := by
  cases d with
  | tuple ds =>
    have hl : ds.length = 3 := by
      by_cases hl : ds.length = 3
      · exact hl
      · rw [isDate_len hl] at h
        cases h
    obtain ⟨a, b, c, rfl⟩ := len3 hl
    obtain ⟨h1, h2⟩ := Bool.and_eq_true_iff.mp (show (isInt a && (isName b && isDayM c)) = true from h)
    obtain ⟨hb, hc⟩ := Bool.and_eq_true_iff.mp h2
    clear h2
    cases a with
    | int y =>
      cases b with
      | str s =>
        cases c with
        | int i =>
          have := of_decide_eq_true (show decide (1 ≤ i ∧ i ≤ 60) = true from hc)
          exact ⟨y, s, i, rfl, hb, this.1, this.2⟩
        | _ => exact nomatch hc
      | _ => exact nomatch hb
    | _ => exact nomatch h1
  | _ => exact nomatch h
theorem year_at {ys : List PyData} (y : Int) (h1 : 1 ≤ ys.length) (h : ∀ e ∈ ys, isYear e = true) : ∃ ms, atI ys (y % (ys.length : Int)) = some (.tuple ms) ∧ yearIn ys y = ms ∧ isYear (.tuple ms) = true := by
  have p0 : 0 ≤ y % (ys.length : Int) := Int.emod_nonneg _ (by omega)
  have p1 : y % (ys.length : Int) < ys.length := Int.emod_lt_of_pos _ (by omega)
  have hk : (y % (ys.length : Int)).toNat < ys.length := by omega
  have e1 : ys[(y % (ys.length : Int)).toNat]? = some ys[(y % (ys.length : Int)).toNat] := List.getElem?_eq_getElem hk
  have hy := h _ (List.getElem_mem hk)
  obtain ⟨ms, e, _⟩ := isYear_inv hy
  rw [e] at e1 hy
  have e2 := atI_nat e1
  rw [Int.toNat_of_nonneg p0] at e2
  exact ⟨ms, e2, by unfold yearIn; rw [e1], hy⟩
def IncPre (ds : List PyData) : Prop := ∃ d1 d2, ds = [d1, d2] ∧ isRule d1 = true ∧ isDate d2 = true
def IncPost (ds : List PyData) (d : PyData) : Prop := ∀ d1 d2, ds = [d1, d2] → d = .bool (hasIn d1 d2)
theorem ok_includes (T : Top K mg) : FnOk P w K mg base CX0 1 T.a_includes T.d_includes ["rule", "date"] (spP K IncPre IncPost) := by
  refine T.F_includes.ok sc_includes (spP_len (j := 2) fun ds ⟨_, _, e, _⟩ => by rw [e]; rfl) (fun cdv A outer s H vs Q E hr h => ?_)
  obtain ⟨ds, hds, ⟨d1, d2, rfl, ir, id⟩, q⟩ := h
  obtain ⟨v1, v2, rfl, h1, h2⟩ := DfAll.two hds
  obtain ⟨y0, s0, i0, rfl, _⟩ := isDate_inv id
  obtain ⟨ys, rfl, l1, l20, hys⟩ := isRule_inv ir
  obtain ⟨ms, eat, eyr, hyr⟩ := year_at y0 l1 hys
  obtain ⟨ms', ems, m1, m13, hms, _⟩ := isYear_inv hyr
  cases ems
  refine ⟨_, pss_cons (ps_asg (pv 1) (pg_tup rfl (pgs_cons (pg_name (i := 2) sc_includes.nd rfl (.inl rfl)) (pgs_cons (pg_name (i := 3) sc_includes.nd rfl (.inr rfl)) (pgs_cons (pg_name (i := 4) sc_includes.nd rfl (.inr rfl)) pgs_nil)))))
    (pss_cons (ps_set (i := 5) sc_includes.nd rfl (.inl rfl) (pe_ix ix_tup (pv 0) (pe_op op_mod (pv 2) (pe_callB call_len_seq (by rfl) T.n_len PySem.boot_len (pa_cons (pv 0) pa_nil))) (fun _ _ => rfl)))
    (pss_one (ps_ret (pe_callB (cr_any rfl) (by rfl) T.n_any (by decide +kernel) (pa_cons
      (pe_lc (own := [("name", 6), ("days", 7)]) (g := gTup K 2 (gCons (gName 6) (gCons (gName 7) gNil))) (tt := tYes) (by rfl) sc_includes.nd (pi_tup (pv 5)) (blkOk_by (own := [("name", 6), ("days", 7)]) (N := ["rule", "date", "year", "month", "day", "months", "name", "days"]) (sc := defScope s_includes) (by decide +kernel))
        (fun _ _ _ _ _ => pg_tup rfl (pgs_cons (pg_name (i := 6) sc_includes.nd rfl (Or.inl rfl)) (pgs_cons (pg_name (i := 7) sc_includes.nd rfl (Or.inl rfl)) pgs_nil))) (fun _ _ _ _ _ => pts_nil) (fun _ _ _ _ _ => pe_and (pe_cmpR op_eq (pv 6) (pv 3) (nomark _)) (pe_one (pe_cmpR op_le (pv 4) (pv 7) (nomark _))))) pa_nil))))), ?_⟩
  refine ev_set3 (K := K) (S := noS) (a := none) (n := 0) (fun x y z => x = .int y0 ∧ y = .str s0 ∧ z = .int i0) 0 rn_no (by decide) (ev_var (i := 1) rfl (dp_no h2) ⟨_, _, _, rfl, rfl, rfl, rfl⟩) fun H3 v w' t x y z k3 _ hv hw ht ⟨e1, e2, e3⟩ => ?_
  subst e1 e2 e3
  cases hv
  cases hw
  cases ht
  have s13 := keeps_no k3
  refine ev_setN (K := K) 0 (· = .tuple ms) ?_ (Nat.zero_le _) fun H4 v4 d4 s4 hd4 e4 => ?_
  · refine ev_ixT (m1 := 0) (m2 := 0) (P1 := (· = .tuple ys)) (P2 := (· = .int (y0 % (ys.length : Int)))) (ev_var (i := 0) rfl (dp_no (Df.to h1 s13)) rfl) ?_ (fun d e q1 q2 => ⟨ys, _, .tuple ms, q1, q2, eat, rfl⟩)
    exact ev_intsC (m1 := 0) (m2 := 0) (p1 := (· = y0)) (p2 := (· = (ys.length : Int))) (ev_var (i := 2) rfl (.int _) ⟨_, rfl, rfl⟩) (ev_len (eva_c (ev_var (i := 0) rfl (dp_no (Df.to h1 s13)) rfl) eva_n) (fun ds e => ⟨ys, .inr e, _, rfl, rfl⟩)) (fun a b q1 q2 => ⟨by rw [q2]; omega, by rw [q1, q2]⟩)
  subst e4
  have s14 := s13.trans s4
  refine ev_retN (K := K) (0 + ms.length * 0 + 0) (· = .bool (ms.any (fitB s0 i0))) ?_ (by rw [Nat.mul_zero]; exact Nat.zero_le _) fun H5 v5 d5 s5 hd5 e5 => ?_
  · refine ev_any (R := fun l => l = [.list ((ms.map (fitB s0 i0)).map PyData.bool)]) (eva_cons (P := fun d => d = .list ((ms.map (fitB s0 i0)).map PyData.bool)) (R1 := (· = [])) ?_ eva_n (fun d l e1 e2 => by rw [e1, e2])) (fun l e => ⟨_, e, by rw [List.any_map]; rfl⟩)
    refine ev_lcTP (es := ms) (P := fun i e => ∀ m, ms[i]? = some m → e = .bool (fitB s0 i0 m)) (ev_var (i := 5) rfl (dp_no hd4) rfl) (fun _ _ => rfl) (by omega) (fun e he => ?_) (fun D G s i x y p q' he hx hy => ?_) (fun ds hl hp => ?_)
    · obtain ⟨nm, k, rfl, _⟩ := isMonth_inv (hms e he)
      exact ⟨_, _, rfl⟩
    · obtain ⟨nm, k, em, _⟩ := isMonth_inv (hms _ (List.mem_of_getElem? he))
      cases em
      refine ev_and (m1 := 0) (m2 := 0) (x := decide (nm = s0)) (y := decide (i0 ≤ k)) (ev_eqS (m1 := 0) (m2 := 0) (ev_var (i := 6) rfl hx rfl) (ev_var (i := 3) rfl (.str _) rfl) rfl) (ev_leI (m1 := 0) (m2 := 0) (ev_var (i := 4) rfl (.int _) rfl) (ev_var (i := 7) rfl hy rfl) rfl) (fun m hm => ?_)
      rw [he] at hm
      cases hm
      rfl
    · congr 1
      rw [List.map_map]
      exact list_by ms ds hl fun i e m h1 h2 => hp i e h1 m h2
  · subst e5
    have e6 : hasIn (.tuple ys) (.tuple [.int y0, .str s0, .int i0]) = ms.any (fitB s0 i0) := by
      show (yearIn ys y0).any _ = _
      rw [eyr]
    exact q H5 v5 _ (s14.trans s5) hd5 fun d1 d2 e => by
      cases e
      rw [e6]
def spHas (K : PySem.W.Frag) : Sp := fun vs H Q _ => ∃ v1 v2 d1 d2, vs = [v1, v2] ∧ Df K H v1 d1 ∧ Df K H v2 d2 ∧ Good 900000 50 d1 ∧ Good 900000 50 d2 ∧ isRule d1 = true ∧ ∀ H', Same H H' → Q (.bl (hasB d1 d2)) H'
theorem ok_has_date (T : Top K mg) : FnOk P w K mg base CX0 6 T.a_has_date T.d_has_date ["rule", "date"] (spHas K) := by
  have GR : FnOk P w K mg base CX0 5 T.a_is_rule T.d_is_rule ["thing"] (spB K isRule) := ok_is_rule T
  have GD : FnOk P w K mg base CX0 3 T.a_is_date T.d_is_date ["thing"] (spB K isDate) := ok_is_date T
  have GI : FnOk P w K mg base CX0 1 T.a_includes T.d_includes ["rule", "date"] (spP K IncPre IncPost) := ok_includes T
  refine T.F_has_date.ok sc_has_date (fun vs H Q E h => by obtain ⟨_, _, _, _, rfl, _⟩ := h; rfl) (fun cdv A outer s H vs Q E hr h => ?_)
  obtain ⟨v1, v2, d1, d2, rfl, h1, h2, g1, g2, ir, q⟩ := h
  have hr3 : Room 3 _ := hr.mono (by decide)
  have hr1 : Room 1 _ := hr.mono (by decide)
  refine ⟨_, pss_cons (ps_if (pt_not (pt_val (pe_call GR hr (by rfl) T.m_is_rule T.F_is_rule.kp T.b_is_rule .nil pass0 (pa_cons (pv 0) pa_nil)))) (pss_one ps_never) pss_nil)
    (pss_one (ps_ret (pe_and (pe_call GD hr3 (by rfl) T.m_is_date T.F_is_date.kp T.b_is_date .nil pass0 (pa_cons (pv 1) pa_nil)) (pe_one (pe_call GI hr1 (by rfl) T.m_includes T.F_includes.kp T.b_includes .nil pass0 (pa_cons (pv 0) (pa_cons (pv 1) pa_nil))))))), ?_⟩
  refine if_notN (K := K) (b := true) 0 (ev_callB (R := (· = [d1])) (eva_c (ev_var (i := 0) rfl (dp_no h1) rfl) eva_n) (fun l e => ⟨d1, e, g1, by rw [ir]⟩)) (Nat.zero_le _) (fun b0 => nomatch b0) (fun _ H1 s1 => ?_)
  dsimp only
  refine ev_retN (K := K) (0 + 0) (· = .bool (hasB d1 d2)) ?_ (Nat.zero_le _) fun H5 v5 d5 s5 hd5 e5 => ?_
  · refine ev_andC (m1 := 0) (m2 := 0) (x := isDate d2) (y := hasIn d1 d2) (ev_callB (R := (· = [d2])) (eva_c (ev_var (i := 1) rfl (dp_no (Df.to h2 s1)) rfl) eva_n) (fun l e => ⟨d2, e, g2, rfl⟩)) (fun id => ?_)
    exact ev_callP (R := (· = [d1, d2])) (eva_c (ev_var (i := 0) rfl (dp_no (Df.to h1 s1)) rfl) (eva_c (ev_var (i := 1) rfl (dp_no (Df.to h2 s1)) rfl) eva_n)) (fun ds e => ⟨_, _, e, ir, id⟩) (fun ds d e hp => hp _ _ e)
  · subst e5
    cases hd5
    exact q H5 (s1.trans s5)
end

section
variable {P : Program} {w : World} {K : PySem.W.Frag} {mg : Str → Option Value} {base : Heap}
/-! #### has_date of any values -/
def spHasX (K : PySem.W.Frag) (C : Addr) : Sp := fun vs H Q E => ∃ v1 v2 d1 d2, vs = [v1, v2] ∧ Df K H v1 d1 ∧ Df K H v2 d2 ∧ Good 900000 50 d1 ∧ Good 900000 50 d2 ∧ (isRule d1 = true → ∀ H', Same H H' → Q (.bl (hasB d1 d2)) H') ∧
  (isRule d1 = false → ∀ H' dd, Same H H' → H' dd = none → E (.ref C) (some dd) (upd H' dd (.xd [("rule", v1)])))
theorem ok_has_dateX (T : Top K mg) : FnOk P w K mg base (L2.CX P w) 6 T.a_has_date T.d_has_date ["rule", "date"] (spHasX K T.C_NoRule) := by
  have G_is_rule : FnOk P w K mg base CX0 5 T.a_is_rule T.d_is_rule ["thing"] (spB K isRule) := ok_is_rule T
  have G_is_date : FnOk P w K mg base CX0 3 T.a_is_date T.d_is_date ["thing"] (spB K isDate) := ok_is_date T
  have G_includes : FnOk P w K mg base CX0 1 T.a_includes T.d_includes ["rule", "date"] (spP K IncPre IncPost) := ok_includes T
  refine T.F_has_date.okX sc_has_date (fun vs H Q E h => by obtain ⟨_, _, _, _, rfl, _⟩ := h; rfl) (fun cdv A outer s H vs Q E hr h => ?_)
  obtain ⟨v1, v2, d1, d2, rfl, h1, h2, g1, g2, q, qE⟩ := h
  have hr3 : Room 3 _ := hr.mono (by decide)
  have hr2 : Room 2 _ := hr.mono (by decide)
  have hr1 : Room 1 _ := hr.mono (by decide)
  refine ⟨_, (pss_cons (ps_if (pt_not (pt_val (pe_call G_is_rule hr (by rfl) T.m_is_rule T.F_is_rule.kp T.b_is_rule .nil pass0 (pa_cons (pv 0) pa_nil)))) (pss_one (ps_raise rfl (takes_of rfl rfl rfl rfl) (pmk_oex T.X_NoRule.o T.X_NoRule.iC T.X_NoRule.tI (ok_init_NoRule T) hr2 T.X_NoRule.b .nil pass0 (by rfl) T.X_NoRule.g (pa_cons (pv 0) pa_nil)))) pss_nil) (pss_one (ps_ret (pe_and (pe_call G_is_date hr3 (by rfl) T.m_is_date T.F_is_date.kp T.b_is_date .nil pass0 (pa_cons (pv 1) pa_nil)) (pe_one (pe_call G_includes hr1 (by rfl) T.m_includes T.F_includes.kp T.b_includes .nil pass0 (pa_cons (pv 0) (pa_cons (pv 1) pa_nil)))))))), ?_⟩
  refine if_notN (K := K) (b := isRule d1) 0 (ev_callB (R := (· = [d1])) (eva_c (ev_var (i := 0) rfl (dp_no h1) rfl) eva_n) (fun l e => ⟨d1, e, g1, rfl⟩)) (Nat.zero_le _) (fun b0 H1 s1 => ?_) (fun b1 H1 s1 => ?_)
  · exact mkO_go (i := 0) rfl fun dd hdd => qE b0 H1 dd s1 hdd
  dsimp only
  refine ev_retN (K := K) (0 + 0) (· = .bool (hasB d1 d2)) ?_ (Nat.zero_le _) fun H5 v5 d5 s5 hd5 e5 => ?_
  · refine ev_andC (m1 := 0) (m2 := 0) (x := isDate d2) (y := hasIn d1 d2) (ev_callB (R := (· = [d2])) (eva_c (ev_var (i := 1) rfl (dp_no (Df.to h2 s1)) rfl) eva_n) (fun l e => ⟨d2, e, g2, rfl⟩)) (fun id => ?_)
    exact ev_callP (R := (· = [d1, d2])) (eva_c (ev_var (i := 0) rfl (dp_no (Df.to h1 s1)) rfl) (eva_c (ev_var (i := 1) rfl (dp_no (Df.to h2 s1)) rfl) eva_n)) (fun ds e => ⟨_, _, e, b1, id⟩) (fun ds d e hp => hp _ _ e)
  · subst e5
    cases hd5
    exact q b1 H5 (s1.trans s5)
section
variable {S : Addr → Bool} {a : Option Addr} {σ : L2.St} {H0 : Hp} {tr : TA} {m : Nat} {E : XK} {C : Addr} {d1 d2 : PyData} {Pp : PyData → Prop}
theorem ev_callHasX (h : EvA K S a σ H0 tr m (· = [d1, d2])) (g1 : Good 900000 50 d1) (g2 : Good 900000 50 d2) (ir : isRule d1 = true) (p : Pp (.bool (hasB d1 d2))) : Ev K S a σ H0 (tCall (spHasX K C) [] E tr) m Pp := by
  intro H n Q k r b q
  refine h H n _ k r b fun H1 vs ds k1 r1 hd pd => ?_
  subst pd
  obtain ⟨x, y, rfl, h1, h2⟩ := DfAll.two hd
  exact ⟨x, y, d1, d2, rfl, Df.bare h1, Df.bare h2, g1, g2, fun _ H2 s => q H2 _ _ (k1.trans (Keeps.same s)) (r1.same s) (.bl _) p, fun z => by rw [ir] at z; cases z⟩
theorem ev_callHasKw (h : EvA K S a σ H0 tr m (· = [d2, d1])) (g1 : Good 900000 50 d1) (g2 : Good 900000 50 d2) (ir : isRule d1 = true) (p : Pp (.bool (hasB d1 d2))) : Ev K S a σ H0 (tCallKw 2 (spHasX K C) gSwap E tr) m Pp := by
  intro H n Q k r b q
  refine h H n _ k r b fun H1 vs ds k1 r1 hd pd => ?_
  subst pd
  obtain ⟨x, y, rfl, h1, h2⟩ := DfAll.two hd
  exact ⟨rfl, y, x, d1, d2, rfl, Df.bare h2, Df.bare h1, g1, g2, fun _ H2 s => q H2 _ _ (k1.trans (Keeps.same s)) (r1.same s) (.bl _) p, fun z => by rw [ir] at z; cases z⟩
end
end

section
variable {P : Program} {w : World} {K : PySem.W.Frag} {mg : Str → Option Value} {base : Heap}
/-! #### what the law asks of has_date, and what is refused -/
theorem ok_due (T : Top K mg) : FnOk P w K mg base CX0 3 T.a__law_due T.d__law_due ["_law_plan", "_law_when"] (spHas K) := by
  have G__law_is_date : FnOk P w K mg base CX0 2 T.a__law_is_date T.d__law_is_date ["_law_value"] (spB K isDate) := ok_ldate T
  refine T.F__law_due.ok sc__law_due (fun vs H Q E h => by obtain ⟨_, _, _, _, rfl, _⟩ := h; rfl) (fun cdv A outer s H vs Q E hr h => ?_)
  obtain ⟨v1, v2, d1, d2, rfl, h1, h2, g1, g2, ir, q⟩ := h
  refine ⟨_, (pss_cons (ps_if (pt_not (pt_val (pe_call G__law_is_date hr (by rfl) T.m__law_is_date T.F__law_is_date.kp T.b__law_is_date .nil pass0 (pa_cons (pv 1) pa_nil)))) (pss_one (ps_ret pe_bl)) pss_nil) (pss_one (ps_ret (pe_callB (cr_any rfl) (by rfl) T.n_any (by decide +kernel) (pa_cons (pe_lc (own := [("_law_month", 2)]) (g := gName 2) (tt := tYes) (by rfl) sc__law_due.nd (pi_tup (pe_ix ix_tup (pv 0) (pe_op op_mod (pe_ix ix_tup (pv 1) pe_int (fun _ _ => rfl)) (pe_callB call_len_seq (by rfl) T.n_len PySem.boot_len (pa_cons (pv 0) pa_nil))) (fun _ _ => rfl))) (blkOk_by (own := [("_law_month", 2)]) (N := ["_law_plan", "_law_when", "_law_month"]) (sc := defScope s__law_due) (by decide +kernel)) (fun _ _ _ _ _ => (pg_name (i := 2) sc__law_due.nd rfl (.inl rfl))) (fun _ _ _ _ _ => pts_nil) (fun _ _ _ _ _ => (pe_and (pe_cmpR op_eq (pe_ix (ix_tupK (by rfl)) (pv 2) pe_int (fun _ _ => rfl)) (pe_ix (ix_tupK (by rfl)) (pv 1) pe_int (fun _ _ => rfl)) (by rfl)) (pe_one (pe_cmpR op_le (pe_ix (ix_tupK (by rfl)) (pv 1) pe_int (fun _ _ => rfl)) (pe_ix (ix_tupK (by rfl)) (pv 2) pe_int (fun _ _ => rfl)) (by rfl)))))) pa_nil))))), ?_⟩
  refine if_notN (K := K) (b := isDate d2) 0 (ev_callB (R := (· = [d2])) (eva_c (ev_var (i := 1) rfl (dp_no h2) rfl) eva_n) (fun l e => ⟨d2, e, g2, rfl⟩)) (Nat.zero_le _) (fun b0 H1 s1 => ?_) (fun b1 H1 s1 => ?_)
  · have e : hasB d1 d2 = false := by unfold hasB; rw [b0, Bool.false_and]
    rw [e] at q
    exact q H1 s1
  have e : hasB d1 d2 = hasIn d1 d2 := by unfold hasB; rw [b1, Bool.true_and]
  rw [e] at q
  obtain ⟨y0, s0, i0, rfl, _⟩ := isDate_inv b1
  obtain ⟨ys, rfl, l1, l20, hys⟩ := isRule_inv ir
  obtain ⟨ms, eat, eyr, hyr⟩ := year_at y0 l1 hys
  obtain ⟨ms', ems, m1, m13, hms, _⟩ := isYear_inv hyr
  cases ems
  dsimp only
  have h1' := Df.to h1 s1
  have h2' := Df.to h2 s1
  have W0 : ∀ {σ : L2.St} {G : Hp} {S : Addr → Bool} {a : Option Addr} {v : V} {j : Nat} {e : PyData} {Pp : PyData → Prop}, σ[1]? = some (some v) → Df K (hid S G) v (.tuple [.int y0, .str s0, .int i0]) → [PyData.int y0, .str s0, .int i0][j]? = some e → Pp e → Ev K S a σ G (tOp (rIxT K) (tVar 1) (tC (.int (j : Int)))) 0 Pp := fun {σ G S a v j e Pp} e1 hv hj pe =>
    ev_ixT (m1 := 0) (m2 := 0) (P1 := (· = .tuple [.int y0, .str s0, .int i0])) (P2 := (· = .int (j : Int))) (ev_var (i := 1) e1 hv rfl) (ev_int rfl) (fun d f q1 q2 => ⟨_, _, e, q1, q2, atI_nat hj, pe⟩)
  refine ev_retN (K := K) (0 + ms.length * 0 + 0) (· = .bool (ms.any (fitB s0 i0))) ?_ (by rw [Nat.mul_zero]; exact Nat.zero_le _) fun H5 v5 d5 s5 hd5 e5 => ?_
  · refine ev_any (R := fun l => l = [.list ((ms.map (fitB s0 i0)).map PyData.bool)]) (eva_cons (P := fun d => d = .list ((ms.map (fitB s0 i0)).map PyData.bool)) (R1 := (· = [])) ?_ eva_n (fun d l e1 e2 => by rw [e1, e2])) (fun l e => ⟨_, e, by rw [List.any_map]; rfl⟩)
    refine ev_lcT (es := ms) (P := fun i e => ∀ m, ms[i]? = some m → e = .bool (fitB s0 i0 m)) (m1 := 0) ?_ (fun _ => rfl) (by omega) (fun D G s i x e he hde => ?_) (fun ds hl hp => ?_)
    · refine ev_ixT (m1 := 0) (m2 := 0) (P1 := (· = .tuple ys)) (P2 := (· = .int (y0 % (ys.length : Int)))) (ev_var (i := 0) rfl (dp_no h1') rfl) ?_ (fun d e q1 q2 => ⟨ys, _, .tuple ms, q1, q2, eat, rfl⟩)
      exact ev_intsC (m1 := 0) (m2 := 0) (p1 := (· = y0)) (p2 := (· = (ys.length : Int))) (W0 (j := 0) rfl (dp_no h2') rfl ⟨_, rfl, rfl⟩) (ev_len (eva_c (ev_var (i := 0) rfl (dp_no h1') rfl) eva_n) (fun ds e => ⟨ys, .inr e, _, rfl, rfl⟩)) (fun a b q1 q2 => ⟨by rw [q2]; omega, by rw [q1, q2]⟩)
    · obtain ⟨nm, k, rfl, _⟩ := isMonth_inv (hms e (List.mem_of_getElem? he))
      have h2'' : Df K (hid (plusA noS D) G) v2 (.tuple [.int y0, .str s0, .int i0]) := Df.to h2' (by rw [hid_no] at s; exact s)
      refine ev_and (m1 := 0) (m2 := 0) (x := decide (nm = s0)) (y := decide (i0 ≤ k)) ?_ ?_ (fun m hm => ?_)
      · exact ev_eqS (m1 := 0) (m2 := 0) (ev_ixT (m1 := 0) (m2 := 0) (P1 := (· = .tuple [.str nm, .int k])) (P2 := (· = .int 0)) (ev_var (i := 2) rfl hde rfl) (ev_int rfl) (fun d f q1 q2 => ⟨_, 0, _, q1, q2, rfl, rfl⟩)) (W0 (j := 1) rfl h2'' rfl rfl) rfl
      · exact ev_leI (m1 := 0) (m2 := 0) (W0 (j := 2) rfl h2'' rfl rfl) (ev_ixT (m1 := 0) (m2 := 0) (P1 := (· = .tuple [.str nm, .int k])) (P2 := (· = .int 1)) (ev_var (i := 2) rfl hde rfl) (ev_int rfl) (fun d f q1 q2 => ⟨_, 1, _, q1, q2, rfl, rfl⟩)) rfl
      · rw [he] at hm
        cases hm
        rfl
    · congr 1
      rw [List.map_map]
      exact list_by ms ds hl fun i e m h1 h2 => hp i e h1 m h2
  · subst e5
    cases hd5
    have e6 : hasIn (.tuple ys) (.tuple [.int y0, .str s0, .int i0]) = ms.any (fitB s0 i0) := by
      show (yearIn ys y0).any _ = _
      rw [eyr]
    rw [e6] at q
    exact q H5 (s1.trans s5)
def spRef2 (K : PySem.W.Frag) : Sp := fun vs H Q _ => ∃ v1 v2 d1 d2, vs = [v1, v2] ∧ Df K H v1 d1 ∧ Df K H v2 d2 ∧ Good 900000 50 d1 ∧ Good 900000 50 d2 ∧ ∀ H', Same H H' → Q (.bl (!isRule d1)) H'
theorem ev_callRef {S : Addr → Bool} {a : Option Addr} {σ : L2.St} {H0 : Hp} {tr : TA} {m : Nat} {E : XK} {d1 d2 : PyData} {Pp : PyData → Prop} (h : EvA K S a σ H0 tr m (· = [d1, d2])) (g1 : Good 900000 50 d1) (g2 : Good 900000 50 d2) (p : Pp (.bool (!isRule d1))) : Ev K S a σ H0 (tCall (spRef2 K) [] E tr) m Pp := by
  intro H n Q k r b q
  refine h H n _ k r b fun H1 vs ds k1 r1 hd pd => ?_
  subst pd
  obtain ⟨x, y, rfl, h1, h2⟩ := DfAll.two hd
  exact ⟨x, y, d1, d2, rfl, Df.bare h1, Df.bare h2, g1, g2, fun H2 s => q H2 _ _ (k1.trans (Keeps.same s)) (r1.same s) (.bl _) p⟩
theorem ok_refused2 (T : Top K mg) : FnR P w K mg base CX0 7 T.a__law_refused T.d__law_refused ["_law_plan", "_law_when"] (spRef2 K) := by
  have G_has_date : FnOk P w K mg base (L2.CX P w) 6 T.a_has_date T.d_has_date ["rule", "date"] (spHasX K T.C_NoRule) := ok_has_dateX T
  refine okR0 T.F__law_refused sc__law_refused (fun vs H Q E h => by obtain ⟨_, _, _, _, rfl, _⟩ := h; rfl) (fun cdv A outer s0 H vs Q E gd hr h => ?_)
  obtain ⟨v, w2, d, d2, rfl, hd, hd2, g, g2, q⟩ := h
  have hs := showable_of d g.fin
  have rp : ∀ {H' : Hp} {Q : VK} {tr : TA} {σ : L2.St}, (∀ G : List V → Hp → Prop, G [v] H' → tr σ H' G) → Df K H' v d → Q (.str d.shown) H' → tCB (rReprQ K) tr σ H' Q := fun {H' Q tr σ} ht h' q' => ht _ ⟨v, d, rfl, h'.dp, hs.1, hs.2, by have := g.dp; omega, Nat.le_trans (shown_le d g.fin) (Nat.le_trans g.wt (Nat.le_trans (by decide) line20)), q'⟩
  refine ⟨_, pss_cons (ps_try_as (i := 2) (tb := fun W => tDrop (tCallS (spHasX K T.C_NoRule) (WE W) (tCons (tVar 0) (tCons (tVar 1) tNil)))) (ts := fun a cls d => tRet (tAndV (tOp rEq (tCB (rReprQ K) (tCons (tXf a cls d T.C_NoRule "rule" (tVar 2)) tNil)) (tCB (rReprQ K) (tCons (tVar 0) tNil))) (tAndV (tCB (fun xs H Q => cls = .ref T.C_NoRule ∧ rIsEd K T.C_NoRule a d xs H Q) (tCons (tVar 2) (tCons (tC (.ty "ValueError")) tNil))) (tNotV (tCB (fun xs H Q => cls = .ref T.C_NoRule ∧ rIsEd K T.C_NoRule a d xs H Q) (tCons (tVar 2) (tCons (tC (.ref T.C_NoDate)) tNil))))))) (Wout := fun _ _ _ _ => False) rfl rfl sc__law_refused.nd rfl rfl ⟨rfl, by decide, Or.inl T.X_NoRule.g⟩ takes0
    (fun W pn xe tk _ => pss_one (ps_expr (pe_callS G_has_date hr rfl T.m_has_date T.F_has_date.kp T.b_has_date (fun σ => passAt tk σ) (pa_cons (pv 0) (pa_cons (pv 1) pa_nil)))))
    (fun a oe cls d pn hz hf => pss_one (ps_ret (pe_and (pe_cmpR op_eq (pe_callB (call_reprD gd hr.units) (by rfl) T.n_repr (by decide +kernel) (pa_cons (pe_xf T.X_NoRule.xf T.X_NoRule.no hz hf (pv 2)) pa_nil)) (pe_callB (call_reprD gd hr.units) (by rfl) T.n_repr (by decide +kernel) (pa_cons (pv 0) pa_nil)) (by rfl)) (pe_and (pe_callB (call_isEd T.X_NoRule.ec T.X_NoRule.cl hz hf) (by rfl) T.n_isinstance (by decide +kernel) (pa_cons (pv 2) (pa_cons (pe_bltn (v := .ty "ValueError") (by rfl) T.n_ValueError (by decide +kernel) rfl) pa_nil))) (pe_one (pe_not (pe_callB (call_isEd T.X_NoRule.ec T.X_NoRule.cl hz hf) (by rfl) T.n_isinstance (by decide +kernel) (pa_cons (pv 2) (pa_cons (pe_glob (v := .ref T.C_NoDate) (by rfl) T.g_NoDate rfl) pa_nil))))))))))
    (pss_one (ps_ret pe_bl)), ?_⟩
  refine ⟨v, rfl, w2, rfl, v, w2, d, d2, rfl, hd, hd2, g, g2, fun ir H1 s1 => ?_, fun ir H1 dd s1 hdd => ⟨true, T.X_NoRule.te, fun _ a0 ha0 => ?_, fun z => nomatch z⟩⟩
  · have q1 : Q (.bl (!isRule d)) H1 := q H1 s1
    rw [ir] at q1
    exact q1
  · have q1 : Q (.bl (!isRule d)) (upd H1 dd (.xd [("rule", v)])) := q _ (s1.trans (same_new hdd))
    rw [ir] at q1
    have hd1 : Df K (upd H1 dd (.xd [("rule", v)])) v d := Df.to hd (s1.trans (same_new hdd))
    refine rp (fun G hG => ⟨.ref a0, rfl, rfl, rfl, dd, _, v, rfl, upd_same, lookup_one _ _, hG⟩) hd1 ?_
    refine rp (fun G hG => ⟨v, rfl, hG⟩) hd1 ?_
    refine ⟨rfl, ?_⟩
    rw [decide_eq_true rfl]
    refine ⟨true, rfl, iteT ?_⟩
    refine ⟨.ref a0, rfl, rfl, .ty "ValueError", .type "ValueError", true, dd, _, rfl, fun u z => z, rfl, upd_same, T.q_NoRule_ValueError, ?_⟩
    refine ⟨true, rfl, iteT ?_⟩
    refine ⟨.ref a0, rfl, rfl, .ref T.C_NoDate, .ref T.C_NoDate, false, dd, _, rfl, fun u z => z, rfl, upd_same, T.q_NoRule_NoDate, ?_⟩
    exact ⟨false, rfl, q1⟩
end

section
variable {P : Program} {w : World} {K : PySem.W.Frag} {mg : Str → Option Value} {base : Heap}
/-! #### a pool of five names -/
abbrev abc : Str := Str.ofString "abcdefghijklmnopqrstuvwxyz"
theorem abc_at {k : Int} (h0 : 0 ≤ k) (h1 : k < 26) : atI abc.cps.toList k = some (97 + k.toNat) := by
  have e : abc.cps.toList = List.range' 97 26 := by decide +kernel
  have hk : k.toNat < (List.range' 97 26).length := by rw [List.length_range']; omega
  have := atI_nat (List.getElem?_eq_getElem hk)
  rw [Int.toNat_of_nonneg h0, List.getElem_range'] at this
  rw [e, this]
  congr 1
  omega
def isPool (d : PyData) : Prop := ∃ ss : List Str, d = .list (ss.map PyData.str) ∧ ss.length = 5 ∧ ss.Nodup ∧ ∀ s ∈ ss, nameStr s = true
theorem app_toList (x y : Str) : (x ++ y).cps.toList = x.cps.toList ++ y.cps.toList := by
  show (x.cps ++ y.cps).toList = _
  exact Array.toList_append
theorem str_len (x : Str) : x.length = x.cps.toList.length := Array.length_toList.symm
theorem name_of {cs : List Nat} {s : Str} {c : Nat} (hs : s.cps.toList = cs) (hl : cs.length ≤ 7) (hc : ∀ x ∈ cs, 97 ≤ x ∧ x ≤ 122) (h : 97 ≤ c ∧ c ≤ 122) : nameStr (s ++ ⟨#[c]⟩) = true := by
  have e : (s ++ ⟨#[c]⟩).cps.toList = cs ++ [c] := by rw [app_toList, hs]
  show (decide (1 ≤ (s ++ ⟨#[c]⟩).length ∧ (s ++ ⟨#[c]⟩).length ≤ 8) && (s ++ ⟨#[c]⟩).cps.all _) = true
  rw [str_len, all_list, e, Bool.and_eq_true, List.all_eq_true]
  refine ⟨decide_eq_true ?_, fun x hx => decide_eq_true ?_⟩
  · rw [List.length_append]
    show 1 ≤ cs.length + 1 ∧ cs.length + 1 ≤ 8
    omega
  · rcases List.mem_append.mp hx with hx | hx
    · exact hc x hx
    · rw [List.mem_singleton.mp hx]
      exact h
theorem app_inj {s : Str} {c d : Nat} (h : s ++ (⟨#[c]⟩ : Str) = s ++ ⟨#[d]⟩) : c = d := by
  have e := congrArg (fun x : Str => x.cps.toList) h
  simp only [app_toList] at e
  have := List.append_cancel_left e
  exact (List.cons.inj this).1
def poolNames (s : Str) (f : Nat) : List Str := (List.range 5).map fun i => s ++ ⟨#[97 + (f + 5 * i) % 26]⟩
theorem pool_nodup (s : Str) (f : Nat) : (poolNames s f).Nodup := by
  unfold poolNames
  refine List.pairwise_map.mpr (List.Pairwise.imp_of_mem (R := fun a b => a < b) (fun {a b} ha hb hab e => ?_) (List.pairwise_lt_range))
  have := app_inj e
  have h1 := List.mem_range.mp ha
  have h2 := List.mem_range.mp hb
  omega
def spPool (K : PySem.W.Frag) : Sp := spRng K 10 (fun ds => ds = []) (fun _ d => isPool d)
theorem ok_pool (T : Top K mg) : FnOk P w K mg base CX0 2 T.a__law_pool T.d__law_pool ["_law_source_here"] (spPool K) := by
  have GD : FnOk P w K mg base CX0 1 T.a__law_draw T.d__law_draw ["_law_source_here", "_law_many"] spDraw := ok_draw T
  refine T.F__law_pool.ok sc__law_pool (spRng_len fun ds e => by rw [e]; rfl) (fun cdv A outer s H vs Q E hr h => ?_)
  obtain ⟨a, S, ws, ds, n, rfl, r, few, hw, rfl, q⟩ := h
  obtain rfl := DfAll.n hw
  have few' : n + 10 ≤ 1000000 := few
  refine ⟨_, (pss_cons (ps_set (i := 1) sc__law_pool.nd rfl (.inr rfl) pe_str) (pss_cons (ps_asg (pe_tupF (pa_cons (pe_ix ix_list (pe_lst (pa_cons pe_int (pa_cons pe_int (pa_cons pe_int (pa_cons pe_int (pa_cons pe_int pa_nil)))))) (pe_call GD hr (by rfl) T.m__law_draw T.F__law_draw.kp T.b__law_draw .nil pass0 (pa_cons (pv 0) (pa_cons pe_int pa_nil))) (fun _ _ => rfl)) (pa_cons (pe_call GD hr (by rfl) T.m__law_draw T.F__law_draw.kp T.b__law_draw .nil pass0 (pa_cons (pv 0) (pa_cons pe_int pa_nil))) pa_nil))) (pg_tup rfl (pgs_cons (pg_name (i := 2) sc__law_pool.nd rfl (.inl rfl)) (pgs_cons (pg_name (i := 3) sc__law_pool.nd rfl (.inr rfl)) pgs_nil)))) (pss_cons (ps_set (i := 4) sc__law_pool.nd rfl (.inr rfl) (pe_join pe_str (pe_lc (own := [("_law_turn", 6)]) (g := gName 6) (tt := tYes) (by rfl) sc__law_pool.nd (pi_range1 rfl T.n_range (pa_cons (pv 2) pa_nil)) (blkOk_by (own := [("_law_turn", 6)]) (N := ["_law_source_here", "_law_letters", "_law_size", "_law_first", "_law_stem", "_law_k", "_law_turn"]) (sc := defScope s__law_pool) (by decide +kernel)) (fun _ _ _ _ _ => pg_name (i := 6) sc__law_pool.nd rfl (Or.inl rfl)) (fun _ _ _ _ _ => pts_nil) (fun _ _ _ _ _ => (pe_ix ix_str (pv 1) (pe_call GD hr (by rfl) T.m__law_draw T.F__law_draw.kp T.b__law_draw .nil pass0 (pa_cons (pv 0) (pa_cons pe_int pa_nil))) (fun _ _ => rfl)))))) (pss_one (ps_ret (pe_lc (own := [("_law_k", 5)]) (g := gName 5) (tt := tYes) (by rfl) sc__law_pool.nd (pi_range1 rfl T.n_range (pa_cons pe_int pa_nil)) (blkOk_by (own := [("_law_k", 5)]) (N := ["_law_source_here", "_law_letters", "_law_size", "_law_first", "_law_stem", "_law_k", "_law_turn"]) (sc := defScope s__law_pool) (by decide +kernel)) (fun _ _ _ _ _ => pg_name (i := 5) sc__law_pool.nd rfl (Or.inl rfl)) (fun _ _ _ _ _ => pts_nil) (fun _ _ _ _ _ => (pe_op op_add_str (pv 4) (pe_ix ix_str (pv 1) (pe_op op_mod (pe_op op_add (pv 3) (pe_op op_mul pe_int (pv 5))) pe_int) (fun _ _ => rfl)))))))))), ?_⟩
  -- letters
  refine ev_set (K := K) (· = .str abc) 0 r (by omega) (ev_str rfl) fun H1 v1 d1 k1 r1 h1 e1 => ?_
  subst e1
  cases h1
  -- size, first
  refine ev_set2 (K := K) (fun x y => ∃ i j : Int, x = .int i ∧ y = .int j ∧ 0 ≤ i ∧ i ≤ 7 ∧ 0 ≤ j ∧ j < 26) 2 r1 (by omega) ?_ fun H2 v w x y k2 r2 hv hw hr => ?_
  · refine ev_tup (R := fun l => ∃ x y, l = [x, y] ∧ ∃ i j : Int, x = .int i ∧ y = .int j ∧ 0 ≤ i ∧ i ≤ 7 ∧ 0 ≤ j ∧ j < 26) ?_ (fun l ⟨x, y, e, _⟩ => by rw [e]; exact (by decide : 2 ≤ 100000)) (fun l ⟨x, y, e, h⟩ => ⟨x, y, by rw [e], h⟩)
    refine eva_cons (m1 := 1) (m2 := 1) (P := fun e => ∃ i : Int, e = .int i ∧ 0 ≤ i ∧ i ≤ 7) (R1 := fun l => ∃ j : Int, l = [.int j] ∧ 0 ≤ j ∧ j < 26) ?_ ?_ (fun d l ⟨i, e1, h1, h2⟩ ⟨j, e2, h3, h4⟩ => ⟨_, _, by rw [e1, e2], i, j, rfl, rfl, h1, h2, h3, h4⟩)
    · refine ev_pick (k := 5) (m1 := 0) (m2 := 1) (ev_lst (R := fun l => l.length = 5 ∧ ∀ e ∈ l, ∃ i : Int, e = .int i ∧ 0 ≤ i ∧ i ≤ 7) ?_ (fun l q1 => by rw [q1.1]; decide) (fun l q1 => ⟨l, rfl, q1⟩)) (ev_draw (m := 0) (p := (· = 5)) rfl (ev_intE rfl) (fun k e => by subst e; exact ⟨by decide, by decide, fun j j0 j1 => ⟨j, rfl, j0, j1⟩⟩))
      exact (eva_all (m1 := 0) (m2 := 0) (ev_int ⟨0, rfl, by decide, by decide⟩) (eva_all (m1 := 0) (m2 := 0) (ev_int ⟨0, rfl, by decide, by decide⟩) (eva_all (m1 := 0) (m2 := 0) (ev_int ⟨1, rfl, by decide, by decide⟩) (eva_all (m1 := 0) (m2 := 0) (ev_int ⟨3, rfl, by decide, by decide⟩) (eva_all (m1 := 0) (m2 := 0) (ev_int ⟨7, rfl, by decide, by decide⟩) eva_all0)))))
    · exact eva_cons (m1 := 1) (m2 := 0) (P := fun e => ∃ i : Int, e = .int i ∧ 0 ≤ i ∧ i < 26) (R1 := (· = [])) (ev_draw (m := 0) (p := (· = 26)) rfl (ev_intE rfl) (fun k e => by subst e; exact ⟨by decide, by decide, fun j j0 j1 => ⟨j, rfl, j0, j1⟩⟩)) eva_n (fun d l ⟨i, e, h⟩ e2 => ⟨i, by rw [e, e2], h⟩)
  obtain ⟨z, f, rfl, rfl, z0, z7, f0, f26⟩ := hr
  cases hv
  cases hw
  obtain ⟨Z, rfl⟩ : ∃ Z : Nat, z = Z := ⟨z.toNat, by omega⟩
  -- stem
  refine ev_set (K := K) (fun e => ∃ (s : Str) (cs : List Nat), e = .str s ∧ s.cps.toList = cs ∧ cs.length ≤ 7 ∧ ∀ x ∈ cs, 97 ≤ x ∧ x ≤ 122) (0 + Z * 1) r2 (by omega) ?_ fun H3 v3 d3 k3 r3 h3 p3 => ?_
  · refine ev_join (P2 := fun d => ∃ cs : List Nat, d = .list ((cs.map fun c => (⟨#[c]⟩ : Str)).map PyData.str) ∧ cs.length ≤ 7 ∧ ∀ x ∈ cs, 97 ≤ x ∧ x ≤ 122) ?_ (fun d ⟨cs, e, h1, h2⟩ => ⟨cs, e, by omega, fun s hs => ⟨s, cs, rfl, hs, h1, h2⟩⟩)
    refine ev_lcR (N := Z) (m := 1) (m1 := 0) (P := fun _ e => ∃ c : Nat, e = .str ⟨#[c]⟩ ∧ 97 ≤ c ∧ c ≤ 122) (eva_c (ev_var (i := 2) rfl (.int _) rfl) eva_n) (fun _ => rfl) (by omega) (fun D G s i hi => ?_) (fun ds hl hp => ?_)
    · refine ev_ixS (m1 := 0) (m2 := 1) (P1 := (· = .str abc)) (P2 := fun e => ∃ j : Int, e = .int j ∧ 0 ≤ j ∧ j < 26) (ev_var (i := 1) rfl (.str _) rfl) (ev_draw (m := 0) (p := (· = 26)) rfl (ev_intE rfl) (fun k e => by subst e; exact ⟨by decide, by decide, fun j j0 j1 => ⟨j, rfl, j0, j1⟩⟩)) (fun d e q1 ⟨j, q2, j0, j1⟩ => ⟨abc, j, _, q1, q2, by decide +kernel, abc_at j0 j1, _, rfl, by omega, by omega⟩)
    · have hall : ∀ e ∈ ds, ∃ c : Nat, e = .str ⟨#[c]⟩ ∧ 97 ≤ c ∧ c ≤ 122 := fun e he => by
        obtain ⟨i, hi⟩ := List.getElem?_of_mem he
        exact hp i e hi
      have key : ∀ ds : List PyData, (∀ e ∈ ds, ∃ c : Nat, e = .str ⟨#[c]⟩ ∧ 97 ≤ c ∧ c ≤ 122) → ∃ cs : List Nat, ds = (cs.map fun c => (⟨#[c]⟩ : Str)).map PyData.str ∧ cs.length = ds.length ∧ ∀ x ∈ cs, 97 ≤ x ∧ x ≤ 122 := fun ds => by
        induction ds with
        | nil => exact fun _ => ⟨[], rfl, rfl, fun x hx => absurd hx List.not_mem_nil⟩
        | cons d ds ih =>
          intro h
          obtain ⟨c, rfl, hc⟩ := h d (List.mem_cons_self ..)
          obtain ⟨cs, rfl, h2, h3⟩ := ih fun e he => h e (List.mem_cons_of_mem _ he)
          exact ⟨c :: cs, rfl, by rw [List.length_cons, List.length_cons, h2], fun x hx => (List.mem_cons.mp hx).elim (fun z => z ▸ hc) (h3 x)⟩
      obtain ⟨cs, e, h2, h3⟩ := key ds hall
      exact ⟨cs, by rw [e], by omega, h3⟩
  obtain ⟨s, cs, rfl, hs, hl, hc⟩ := p3
  cases h3
  obtain ⟨F, rfl⟩ : ∃ F : Nat, f = F := ⟨f.toNat, by omega⟩
  refine ev_ret (K := K) isPool (0 + 5 * 0) r3 (by omega) ?_ fun H6 v d k6 r6 hd p => q H6 v d (k1.trans (k2.trans (k3.trans k6))) (r6.up (by omega)) hd p
  refine ev_lcR (N := 5) (m := 0) (m1 := 0) (P := fun i e => e = .str (s ++ ⟨#[97 + (F + 5 * i) % 26]⟩)) (eva_c (ev_int rfl) eva_n) (fun _ => rfl) (by decide) (fun D G s' i hi => ?_) (fun ds hl' hp => ?_)
  · refine ev_catS (m1 := 0) (m2 := 0) (P1 := (· = .str s)) (P2 := (· = .str ⟨#[97 + (F + 5 * i) % 26]⟩)) (ev_var (i := 4) rfl (.str _) rfl) ?_ (fun d e q1 q2 => ⟨s, _, q1, q2, ?_, rfl⟩)
    · refine ev_ixS (m1 := 0) (m2 := 0) (P1 := (· = .str abc)) (P2 := (· = .int (((F + 5 * i) % 26 : Nat) : Int))) (ev_var (i := 1) rfl (.str _) rfl) ?_ (fun d e q1 q2 => ⟨abc, _, _, q1, q2, by decide +kernel, abc_at (by omega) (by omega), by rw [Int.toNat_natCast]⟩)
      refine ev_intsC (m1 := 0) (m2 := 0) (p1 := (· = ((F + 5 * i : Nat) : Int))) (p2 := (· = 26)) ?_ (ev_intE rfl) (fun x y q1 q2 => ⟨by rw [q2]; decide, by rw [q1, q2]; congr 1⟩)
      refine ev_ints (m1 := 0) (m2 := 0) (p1 := (· = (F : Int))) (p2 := (· = ((5 * i : Nat) : Int))) (ev_var (i := 3) rfl (.int _) ⟨_, rfl, rfl⟩) ?_ (fun x y q1 q2 => ⟨_, rfl, by rw [q1, q2]; push_cast; rfl⟩)
      exact ev_intsC (m1 := 0) (m2 := 0) (p1 := (· = 5)) (p2 := (· = (i : Int))) (ev_intE rfl) (ev_var (i := 5) rfl (.int _) ⟨_, rfl, rfl⟩) (fun x y q1 q2 => ⟨.inl (by rw [q1]; exact ⟨by decide, by decide⟩), _, rfl, by rw [q1, q2]; push_cast; rfl⟩)
    · rw [str_len, hs]
      show cs.length + 1 ≤ 1000000
      omega
  · refine ⟨poolNames s F, ?_, by unfold poolNames; rw [List.length_map, List.length_range], pool_nodup s F, fun x hx => ?_⟩
    · congr 1
      unfold poolNames
      rw [List.map_map]
      exact list_of_get 5 ds hl' fun i e hi => hp i e hi
    · obtain ⟨i, _, rfl⟩ := List.mem_map.mp hx
      exact name_of hs hl hc ⟨by omega, by omega⟩
end

section
variable {P : Program} {w : World} {K : PySem.W.Frag} {mg : Str → Option Value} {base : Heap}
/-! #### a rule of names of the pool -/
def nameAt : PyData → Str
  | .tuple (.str s :: _) => s
  | _ => Str.ofString ""
def isMonOf (ss : List Str) (md : Int) (d : PyData) : Prop := ∃ s i, d = .tuple [.str s, .int i] ∧ s ∈ ss ∧ 1 ≤ i ∧ i ≤ md
def isYearOf (ss : List Str) (md : Int) (d : PyData) : Prop := ∃ ms, d = .tuple ms ∧ 1 ≤ ms.length ∧ ms.length ≤ 5 ∧ (ms.map nameAt).Nodup ∧ ∀ m ∈ ms, isMonOf ss md m
def isRuleOf (ss : List Str) (my md : Int) (d : PyData) : Prop := ∃ ys, d = .tuple ys ∧ 1 ≤ ys.length ∧ (ys.length : Int) ≤ my ∧ ∀ y ∈ ys, isYearOf ss md y
def RulePre (ds : List PyData) : Prop := ∃ (ss : List Str) (my md : Int), ds = [.list (ss.map PyData.str), .int my, .int md] ∧ ss.length = 5 ∧ ss.Nodup ∧ 1 ≤ my ∧ my ≤ 20 ∧ 1 ≤ md ∧ md ≤ 60
def RulePost (ds : List PyData) (d : PyData) : Prop := ∀ (ss : List Str) (my md : Int), ds = [.list (ss.map PyData.str), .int my, .int md] → isRuleOf ss my md d
def spRule (K : PySem.W.Frag) : Sp := spRng K 250 RulePre RulePost
theorem strs_inj : ∀ {xs ys : List Str}, xs.map PyData.str = ys.map PyData.str → xs = ys
  | [], [], _ => rfl
  | [], _ :: _, h => nomatch h
  | _ :: _, [], h => nomatch h
  | x :: xs, y :: ys, h => by
    have h1 := List.cons.inj h
    rw [PyData.str.inj h1.1, strs_inj h1.2]
theorem erase_map {α β : Type} (f : α → β) : ∀ (l : List α) (i : Nat), (l.map f).eraseIdx i = (l.eraseIdx i).map f
  | [], _ => rfl
  | _ :: _, 0 => rfl
  | x :: xs, i + 1 => by
    show f x :: (xs.map f).eraseIdx i = f x :: (xs.eraseIdx i).map f
    rw [erase_map f xs i]
theorem ok_rule (T : Top K mg) : FnOk P w K mg base CX0 2 T.a__law_rule T.d__law_rule ["_law_source_here", "_law_pool_here", "_law_most_years", "_law_most_days"] (spRule K) := by
  have GD : FnOk P w K mg base CX0 1 T.a__law_draw T.d__law_draw ["_law_source_here", "_law_many"] spDraw := ok_draw T
  refine T.F__law_rule.ok sc__law_rule (spRng_len fun ds ⟨_, _, _, e, _⟩ => by rw [e]; rfl) (fun cdv A outer s H vs Q E hr h => ?_)
  obtain ⟨a, S, ws, ds, n, rfl, r, few, hw, ⟨ss, my, md, rfl, s5, snd, y1, y20, d1, d60⟩, q⟩ := h
  obtain ⟨v1, v2, v3, rfl, p1, p2, p3⟩ := DfAll.three hw
  cases p2
  cases p3
  obtain ⟨pa, pvs, rfl, pL, pv'⟩ := Df.lst_inv p1
  obtain rfl := dp_strs pv'
  have few' : n + 250 ≤ 1000000 := few
  refine ⟨_, (pss_cons (ps_set (i := 4) sc__law_rule.nd rfl (.inl rfl) (pe_lst pa_nil)) (pss_cons (ps_for PassesOwn.never rfl (pi_range1 rfl T.n_range (pa_cons (pe_op op_add pe_int (pe_call GD hr (by rfl) T.m__law_draw T.F__law_draw.kp T.b__law_draw .nil pass0 (pa_cons (pv 0) (pa_cons (pv 2) pa_nil)))) pa_nil)) (pg_name (i := 5) sc__law_rule.nd rfl (.inl rfl)) (pss_cons (ps_par (i := 6) (j := 7) (by rfl) sc__law_rule.nd rfl rfl (by decide) rfl rfl (pa_cons (pe_callTy call_list_of (by rfl) T.n_list (by decide +kernel) (pa_cons (pv 1) pa_nil)) (pa_cons (pe_lst pa_nil) pa_nil)) (by rfl)) (pss_cons (ps_for PassesOwn.never rfl (pi_range1 rfl T.n_range (pa_cons (pe_op op_add pe_int (pe_call GD hr (by rfl) T.m__law_draw T.F__law_draw.kp T.b__law_draw .nil pass0 (pa_cons (pv 0) (pa_cons (pe_callB call_len_seq (by rfl) T.n_len PySem.boot_len (pa_cons (pv 1) pa_nil)) pa_nil)))) pa_nil)) (pg_name (i := 8) sc__law_rule.nd rfl (.inl rfl)) (pss_cons (ps_set (i := 9) sc__law_rule.nd rfl (.inl rfl) (pe_bm PySem.F.plainAttrs_list PySem.F.slot_list_pop PySem.F.type_list_pop mt_popAt (pv 6) (pa_cons (pe_call GD hr (by rfl) T.m__law_draw T.F__law_draw.kp T.b__law_draw .nil pass0 (pa_cons (pv 0) (pa_cons (pe_callB call_len_seq (by rfl) T.n_len PySem.boot_len (pa_cons (pv 6) pa_nil)) pa_nil))) pa_nil))) (pss_one (ps_expr (pe_bm PySem.F.plainAttrs_list PySem.F.slot_list_append PySem.F.type_list_append mt_append (pv 7) (pa_cons (pe_tupF (pa_cons (pv 9) (pa_cons (pe_op op_add pe_int (pe_call GD hr (by rfl) T.m__law_draw T.F__law_draw.kp T.b__law_draw .nil pass0 (pa_cons (pv 0) (pa_cons (pv 3) pa_nil)))) pa_nil))) pa_nil)))))) (pss_one (ps_expr (pe_bm PySem.F.plainAttrs_list PySem.F.slot_list_append PySem.F.type_list_append mt_append (pv 4) (pa_cons (pe_callTy (call_tupK (K := K) (by rfl)) (by rfl) T.n_tuple (by decide +kernel) (pa_cons (pv 7) pa_nil)) pa_nil))))))) (pss_one (ps_ret (pe_callTy (call_tupK (K := K) (by rfl)) (by rfl) T.n_tuple (by decide +kernel) (pa_cons (pv 4) pa_nil)))))), ?_⟩
  refine ⟨Nat.zero_le _, fun Y nY => ?_⟩
  dsimp only [gName]
  have aY := no_a r nY
  have sY : S Y = false := r.th.new nY
  have r1 : Rn (plusA S Y) (some a) n (upd H Y (.lst [])) := rn_in r nY
  refine ev_forR (K := K) (S := plusA S Y) (a := some a) (fun c => 1 ≤ c ∧ c ≤ my) 1 r1 (by omega) ?_ fun C H1 hC k1 r2 => ?_
  · refine ev_ints (m1 := 0) (m2 := 1) (p1 := (· = 1)) (p2 := fun j => 0 ≤ j ∧ j < my) (ev_intE rfl) (ev_draw (m := 0) (p := (· = my)) rfl (ev_var (i := 2) rfl (.int _) ⟨_, rfl, rfl⟩) (fun k e => by subst e; exact ⟨by omega, Int.lt_trans (b := 100) (by omega) (by decide), fun j j0 j1 => ⟨j, rfl, j0, j1⟩⟩)) (fun i j q1 q2 => ⟨_, rfl, ⟨by subst q1; omega, by subst q1; omega⟩, by subst q1; omega, by subst q1; omega⟩)
  have C20 : C ≤ 20 := by omega
  refine ⟨fun i σ H' => ∃ x5 x6 x7 x8 x9 yv yd, σ = [some (.ref a), some (.ref pa), some (.int my), some (.int md), some (.ref Y), x5, x6, x7, x8, x9] ∧ H' Y = some (.lst yv) ∧ DfAll K (hid (plusA S Y) H') yv yd ∧ yd.length = i ∧ (∀ y ∈ yd, isYearOf ss md y) ∧ Keeps (one (some a)) H H' ∧ Rn (plusA S Y) (some a) (n + 1 + 11 * i) H', ?_, ?_, ?_⟩
  · exact ⟨_, _, _, _, _, [], [], rfl, k1.at (one_no aY) upd_same, .nil, rfl, fun y hy => absurd hy List.not_mem_nil, (Keeps.new nY).trans k1, r2.up (by omega)⟩
  · rintro i σ H2 hi ⟨x5, x6, x7, x8, x9, yv, yd, rfl, eY, hY, ly, ally, kH, r3⟩
    dsimp only [List.set]
    -- the pool, as it stands
    have hp2 : Df K (hid (plusA S Y) H2) (.ref pa) (.list (ss.map PyData.str)) := Df.to p1 (same_plus (keeps_one r.sa kH) nY)
    obtain ⟨pb, pvs, epb, pL2, pv2⟩ := Df.lst_inv hp2
    cases epb
    obtain rfl := dp_strs pv2
    refine ⟨.ref pa, rfl, pa, _, rfl, .inl (Same.seq hid_same pL2), fun L nL => ⟨Nat.zero_le _, fun R nR => ⟨_, _, rfl, ?_⟩⟩⟩
    dsimp only [List.set]
    have r4 := rn_in (o := .lst (ss.map V.str)) r3 nL
    have r5 := rn_in (o := .lst []) r4 nR
    have aL := no_a r3 nL
    have aR := no_a r4 nR
    have YL : Y ≠ L := ne_of_none eY nL
    have nRH : H2 R = none := by
      by_cases e : R = L
      · rw [e]
        exact nL
      · rw [upd_ne e] at nR
        exact nR
    have YR : Y ≠ R := ne_of_none eY nRH
    have LR : L ≠ R := fun e => by rw [← e, upd_same] at nR; cases nR
    have s3 : Same (hid (plusA S Y) H2) (hid (plusA (plusA (plusA S Y) L) R) (upd (upd H2 L (.lst (ss.map V.str))) R (.lst []))) := Same.trans (hid_new nL) (hid_new nR)
    generalize hS3 : plusA (plusA (plusA S Y) L) R = S3 at s3 r5
    have k2 : Keeps (one (some a)) H2 (upd (upd H2 L (.lst (ss.map V.str))) R (.lst [])) := keeps_upd (Keeps.new nL) nRH
    have SL : S3 L = true := by rw [← hS3]; exact plusA_of (plusA_self _ _)
    have SR : S3 R = true := by rw [← hS3]; exact plusA_self _ _
    refine ev_forR (K := K) (S := S3) (a := some a) (fun c => 1 ≤ c ∧ c ≤ 5) 1 r5 (by omega) ?_ fun C2 H3 hC2 k3 r6 => ?_
    · refine ev_ints (m1 := 0) (m2 := 1) (p1 := (· = 1)) (p2 := fun j => 0 ≤ j ∧ j < 5) (ev_intE rfl) (ev_draw (m := 0) (p := (· = 5)) rfl (ev_len (eva_c (ev_var (i := 1) rfl (Df.to hp2 s3) rfl) eva_n) (fun ds e => ⟨ss.map PyData.str, .inl e, _, rfl, by rw [List.length_map, s5]; rfl⟩)) (fun k e => by subst e; exact ⟨by decide, by decide, fun j j0 j1 => ⟨j, rfl, j0, j1⟩⟩)) (fun i j q1 q2 => ⟨_, rfl, ⟨by subst q1; omega, by subst q1; omega⟩, by subst q1; omega, by subst q1; omega⟩)
    refine ⟨fun j σ H' => ∃ x8 x9 rem xs ms, σ = [some (.ref a), some (.ref pa), some (.int my), some (.int md), some (.ref Y), some (.int (0 + (i : Int))), some (.ref L), some (.ref R), x8, x9] ∧ H' L = some (.lst (rem.map V.str)) ∧ H' R = some (.lst xs) ∧ H' Y = some (.lst yv) ∧ DfAll K (hid S3 H') xs ms ∧ (ms.map nameAt ++ rem).Perm ss ∧ ms.length = j ∧ (∀ m ∈ ms, isMonOf ss md m) ∧ Keeps S3 H3 H' ∧ Keeps (one (some a)) H2 H' ∧ Rn S3 (some a) (n + 2 + 11 * i + 2 * j) H', ?_, ?_, ?_⟩
    · refine ⟨_, _, ss, [], [], rfl, k3.at (one_no aL) ?_, k3.at (one_no aR) upd_same, k3.at (one_no aY) ?_, .nil, List.Perm.refl _, rfl, fun m hm => absurd hm List.not_mem_nil, Keeps.rfl, k2.trans k3, r6.up (by omega)⟩
      · rw [upd_ne LR]
        exact upd_same
      · rw [upd_ne YR, upd_ne YL]
        exact eY
    · rintro j σ H4 hj ⟨x8, x9, rem, xs, ms, rfl, eL, eR, eY4, hxs, perm, lm, allm, kS, kA, r7⟩
      dsimp only [List.set]
      have lrem : rem.length + j = 5 := by
        have := perm.length_eq
        rw [List.length_append, List.length_map, lm, s5] at this
        omega
      -- pop
      refine ⟨.ref L, rfl, .inl ⟨rfl, _, SqL.of eL⟩, .ref a, rfl, .ref L, rfl, L, _, rfl, .inl (SqL.of eL), ?_⟩
      rw [List.length_map]
      refine ⟨a, _, rem.length, rfl, r7.src a rfl, by omega, by omega, Int.lt_trans (b := 100) (by omega) (by decide), fun H5 c c0 c1 k5 s5' => ?_⟩
      have r8 := r7.stepS k5 s5'
      have eL5 := k5.at (one_no aL) eL
      have hc : c.toNat < rem.length := by omega
      obtain ⟨nm, hnm⟩ : ∃ nm, rem[c.toNat]? = some nm := ⟨_, List.getElem?_eq_getElem hc⟩
      have ix : ixN (rem.map V.str).length c = some c.toNat := by
        rw [List.length_map]
        unfold ixN
        rw [if_pos c0, if_pos c1]
      refine ⟨L, _, c, c.toNat, .str nm, rfl, rfl, eL5, by omega, by omega, (ixN_seq ix).1, by rw [List.getElem?_map, hnm]; rfl, ?_⟩
      dsimp only [gName, List.set]
      rw [erase_map]
      have r9 := rn_upd (o := .lst ((rem.eraseIdx c.toNat).map V.str)) r8 aL
      have k6 : Keeps S3 H4 (upd H5 L (.lst ((rem.eraseIdx c.toNat).map V.str))) := (keeps_one r7.sa k5).trans (Keeps.set SL)
      have eR6 : upd H5 L (.lst ((rem.eraseIdx c.toNat).map V.str)) R = some (.lst xs) := by
        rw [upd_ne LR.symm]
        exact k5.at (one_no aR) eR
      have eY6 : upd H5 L (.lst ((rem.eraseIdx c.toNat).map V.str)) Y = some (.lst yv) := by
        rw [upd_ne YL]
        exact k5.at (one_no aY) eY4
      have lx : xs.length = ms.length := DfAll.len hxs
      refine ev_append (K := K) (S := S3) (a := some a) (P := fun d => isMonOf ss md d ∧ nameAt d = nm) (i := 7) rfl eR6 aR (by omega) 1 r9 (by omega) ?_ fun H7 v d k7 r10 eR7 hd pd => ?_
      · refine ev_tup (R := fun l => isMonOf ss md (.tuple l) ∧ nameAt (.tuple l) = nm) ?_ (fun l ⟨⟨s, i, e, _⟩, _⟩ => by cases e; exact (by decide : 2 ≤ 100000)) (fun l h => h)
        refine eva_cons (m1 := 0) (m2 := 1) (P := (· = .str nm)) (R1 := fun l => ∃ i : Int, l = [.int i] ∧ 1 ≤ i ∧ i ≤ md) (ev_var (i := 9) rfl (.str _) rfl) ?_ (fun d l e ⟨i, e2, h⟩ => ⟨⟨nm, i, by rw [e, e2], perm.mem_iff.mp (List.mem_append_right _ (List.mem_of_getElem? hnm)), h⟩, by rw [e, e2]; rfl⟩)
        refine eva_cons (m1 := 1) (m2 := 0) (P := fun e => ∃ i : Int, e = .int i ∧ 1 ≤ i ∧ i ≤ md) (R1 := (· = [])) ?_ eva_n (fun d l ⟨i, e, h⟩ e2 => ⟨i, by rw [e, e2], h⟩)
        exact ev_ints (m1 := 0) (m2 := 1) (p1 := (· = 1)) (p2 := fun j => 0 ≤ j ∧ j < md) (ev_intE rfl) (ev_draw (m := 0) (p := (· = md)) rfl (ev_var (i := 3) rfl (.int _) ⟨_, rfl, rfl⟩) (fun k e => by subst e; exact ⟨by omega, Int.lt_trans (b := 100) (by omega) (by decide), fun j j0 j1 => ⟨j, rfl, j0, j1⟩⟩)) (fun i j q1 q2 => ⟨_, rfl, by subst q1; omega, by subst q1; omega⟩)
      obtain ⟨pd, nd⟩ := pd
      have k8 : Keeps S3 H4 (upd H7 R (.lst (xs ++ [v]))) := (k6.trans (keeps_one r9.sa k7)).trans (Keeps.set SR)
      refine ⟨_, _, rem.eraseIdx c.toNat, xs ++ [v], ms ++ [d], rfl, ?_, upd_same, ?_, ?_, ?_, by rw [List.length_append, lm]; rfl, fun m hm => ?_, kS.trans k8, ?_, r10.up (by omega)⟩
      · rw [upd_ne LR]
        exact k7.at (one_no aL) upd_same
      · rw [upd_ne YR]
        exact k7.at (one_no aY) eY6
      · rw [hid_upd SR]
        exact DfAll.app (DfAll.keep hxs (k6.trans (keeps_one r9.sa k7))) (.cons hd .nil)
      · rw [List.map_append, List.append_assoc]
        refine List.Perm.trans ?_ perm
        refine List.Perm.append_left _ ?_
        show (nameAt d :: rem.eraseIdx c.toNat).Perm rem
        rw [nd]
        exact pop_perm rem c.toNat nm hnm
      · rcases List.mem_append.mp hm with hm | hm
        · exact allm m hm
        · rw [List.mem_singleton.mp hm]
          exact pd
      · exact keeps_upd ((keeps_upd (kA.trans k5) nL).trans k7) nRH
    · rintro σ H4 ⟨x8, x9, rem, xs, ms, rfl, eL, eR, eY4, hxs, perm, lm, allm, kS, kA, r7⟩
      have ly5 : yv.length = yd.length := DfAll.len hY
      refine ⟨.ref Y, rfl, .inl ⟨rfl, _, SqL.of eY4⟩, .ref R, rfl, R, xs, rfl, .inl ⟨SqL.of eR, fun l ob nl hob => ⟨Y, yv, .ref l, rfl, rfl, ?_, Nat.lt_of_lt_of_le (by omega : yv.length < 1000000) line20, ?_⟩⟩⟩
      · rw [upd_ne (ne_of_none eY4 nl)]
        exact eY4
      · subst hS3
        have rr := rn_out r3 (rn_out r4 r7)
        have nS : plusA S Y l = false := rr.th.new nl
        refine ⟨_, _, _, _, _, yv ++ [.ref l], yd ++ [.tuple ms], rfl, upd_same, ?_, by rw [List.length_append, ly]; rfl, fun y hy => ?_, keeps_upd ((kH.trans kA).trans (Keeps.new nl)) nY, (rn_upd (rr.same (same_new nl)) aY).up (by omega)⟩
        · rw [hid_upd (plusA_self S Y)]
          exact DfAll.app (DfAll.keep hY ((keeps_one r3.sa kA).trans (Keeps.new nl))) (.cons (Df.newT (DfAll.to (DfAll.to hxs hid_plus) hid_plus) nl nS hob) .nil)
        · rcases List.mem_append.mp hy with hy | hy
          · exact ally y hy
          · rw [List.mem_singleton.mp hy]
            exact ⟨ms, rfl, by omega, by omega, (List.nodup_append.mp (perm.nodup_iff.mpr snd)).1, allm⟩
  · rintro σ H2 ⟨x5, x6, x7, x8, x9, yv, yd, rfl, eY, hY, ly, ally, kH, r3⟩
    have rS : Rn S (some a) (n + 1 + 11 * C) H2 := rn_out r r3
    have hYd : Df K (hid S H2) (.ref Y) (.list yd) := .lst (.inl (.inl (by rw [hid_at sY]; exact eY))) (DfAll.to hY hid_plus)
    dsimp only
    refine ev_ret (K := K) (isRuleOf ss my md) 0 rS (by omega) ?_ fun H6 v d k6 r6 hd p => q H6 v d (kH.trans k6) (r6.up (by omega)) hd (fun ss' my' md' e => ?_)
    · exact ev_tupL (R := (· = [.list yd])) (eva_c (ev_var (i := 4) rfl hYd rfl) eva_n) (fun l e => ⟨yd, e, yd, rfl, by omega, by omega, ally⟩)
    · obtain ⟨e1, e2⟩ := List.cons.inj e
      obtain ⟨e2, e3⟩ := List.cons.inj e2
      obtain ⟨e3, _⟩ := List.cons.inj e3
      cases e2
      cases e3
      rw [← strs_inj (PyData.list.inj e1)]
      exact p
end

section
variable {P : Program} {w : World} {K : PySem.W.Frag} {mg : Str → Option Value} {base : Heap}
theorem ev_callHas {S : Addr → Bool} {a : Option Addr} {σ : L2.St} {H0 : Hp} {tr : TA} {m : Nat} {E : XK} {R : List PyData → Prop} {Pp : PyData → Prop} (h : EvA K S a σ H0 tr m R) (p : ∀ ds, R ds → ∃ d1 d2, ds = [d1, d2] ∧ Good 900000 50 d1 ∧ Good 900000 50 d2 ∧ isRule d1 = true ∧ Pp (.bool (hasB d1 d2))) : Ev K S a σ H0 (tCall (spHas K) [] E tr) m Pp := by
  intro H n Q k r b q
  refine h H n _ k r b fun H1 vs ds k1 r1 hd pd => ?_
  obtain ⟨d1, d2, rfl, g1, g2, ir, pe⟩ := p ds pd
  obtain ⟨x, y, rfl, h1, h2⟩ := DfAll.two hd
  exact ⟨x, y, d1, d2, rfl, Df.bare h1, Df.bare h2, g1, g2, ir, fun H2 s => q H2 _ _ (k1.trans (Keeps.same s)) (r1.same s) (.bl _) pe⟩
end

section
/-! #### rules and dates that are drawn are of moderate size -/
theorem name_tidy {s : Str} (h : nameStr s = true) : tidy s = true ∧ s.length ≤ 8 := by
  obtain ⟨h1, h2⟩ := Bool.and_eq_true_iff.mp (show (decide (1 ≤ s.length ∧ s.length ≤ 8) && s.cps.all fun c => decide (97 ≤ c ∧ c ≤ 122)) = true from h)
  refine ⟨tidy_iff.mpr fun c hc => ?_, (of_decide_eq_true h1).2⟩
  rw [all_list, List.all_eq_true] at h2
  have := of_decide_eq_true (h2 c hc)
  omega
theorem date_good {y i : Int} {s : Str} (hs : nameStr s = true) (hy : y.natAbs ≤ 10 ^ 70) (h1 : 1 ≤ i) (h2 : i ≤ 60) : Good 900000 50 (.tuple [.int y, .str s, .int i]) := by
  obtain ⟨t1, t2⟩ := name_tidy hs
  refine ⟨?_, ?_, by show 0 + 1 ≤ 50; decide⟩
  · have e1 : decide (y.natAbs < 10 ^ 80) = true := decide_eq_true (Nat.lt_of_le_of_lt hy (by decide +kernel))
    have e2 : decide (i.natAbs < 10 ^ 80) = true := decide_eq_true (Nat.lt_of_le_of_lt (show i.natAbs ≤ 1000 by omega) (by decide +kernel))
    show (decide (y.natAbs < 10 ^ 80) && (tidy s && (decide (i.natAbs < 10 ^ 80) && true))) = true
    rw [e1, e2, t1]
    rfl
  · show 300 + 4 + (10 * s.length + 4 + 4 + (300 + 4 + 0)) + 4 ≤ 900000
    omega
theorem month_good {ss : List Str} {md : Int} {d : PyData} (h : isMonOf ss md d) (hd : md ≤ 60) (hs : ∀ s ∈ ss, nameStr s = true) : isMonth d = true ∧ fine d = true ∧ wt d ≤ 396 ∧ d.depth ≤ 1 := by
  obtain ⟨s, i, rfl, h1, h2, h3⟩ := h
  obtain ⟨t1, t2⟩ := name_tidy (hs s h1)
  refine ⟨?_, ?_, ?_, by show 0 + 1 ≤ 1; decide⟩
  · show (nameStr s && decide (1 ≤ i ∧ i ≤ 60)) = true
    rw [hs s h1, decide_eq_true (by omega)]
    rfl
  · have e2 : decide (i.natAbs < 10 ^ 80) = true := decide_eq_true (Nat.lt_of_le_of_lt (show i.natAbs ≤ 1000 by omega) (by decide +kernel))
    show (tidy s && (decide (i.natAbs < 10 ^ 80) && true)) = true
    rw [e2, t1]
    rfl
  · show 10 * s.length + 4 + 4 + (300 + 4 + 0) + 4 ≤ 396
    omega
theorem nameAt_in : nameAt = nameIn := by
  funext d
  cases d with
  | tuple l => cases l with
    | nil => rfl
    | cons x _ => cases x <;> rfl
  | _ => rfl
theorem year_good {ss : List Str} {md : Int} {d : PyData} (h : isYearOf ss md d) (hd : md ≤ 60) (hs : ∀ s ∈ ss, nameStr s = true) : isYear d = true ∧ fine d = true ∧ wt d ≤ 2004 ∧ d.depth ≤ 2 := by
  obtain ⟨ms, rfl, h1, h2, h3, h4⟩ := h
  refine ⟨?_, fineAllB_iff.mpr fun e he => (month_good (h4 e he) hd hs).2.1, ?_, ?_⟩
  · rw [nameAt_in] at h3
    show (decide (1 ≤ ms.length ∧ ms.length ≤ 13) && (ms.all isMonth && decide (ms.map nameIn).Nodup)) = true
    rw [decide_eq_true (by omega), decide_eq_true h3, List.all_eq_true.mpr fun m hm => (month_good (h4 m hm) hd hs).1]
    rfl
  · have := wtAll_cap fun e he => (month_good (h4 e he) hd hs).2.2.1
    show wtAll ms + 4 ≤ 2004
    omega
  · have := depthAll_le fun e he => (month_good (h4 e he) hd hs).2.2.2
    show PyData.depthAll ms + 1 ≤ 2
    omega
theorem rule_good {ss : List Str} {my md : Int} {d : PyData} (h : isRuleOf ss my md d) (hm : my ≤ 20) (hd : md ≤ 60) (hs : ∀ s ∈ ss, nameStr s = true) : ∃ ys, d = .tuple ys ∧ isRule (.tuple ys) = true ∧ Good 900000 50 (.tuple ys) := by
  obtain ⟨ys, rfl, h1, h2, h3⟩ := h
  refine ⟨ys, rfl, ?_, fineAllB_iff.mpr fun e he => (year_good (h3 e he) hd hs).2.1, ?_, ?_⟩
  · show (decide (1 ≤ ys.length ∧ ys.length ≤ 20) && ys.all isYear) = true
    rw [decide_eq_true (by omega), List.all_eq_true.mpr fun y hy => (year_good (h3 y hy) hd hs).1]
    rfl
  · have := wtAll_cap fun e he => (year_good (h3 e he) hd hs).2.2.1
    show wtAll ys + 4 ≤ 900000
    omega
  · have := depthAll_le fun e he => (year_good (h3 e he) hd hs).2.2.2
    show PyData.depthAll ys + 1 ≤ 50
    omega
end

section
variable {P : Program} {w : World} {K : PySem.W.Frag} {mg : Str → Option Value} {base : Heap}
/-! #### the law -/
def spLaw (K : PySem.W.Frag) : Sp := fun vs H Q _ => ∃ (a : Addr) (ns : List Int), vs = [.ref a] ∧ SqL K H a (ns.map V.int) ∧ ns.length ≤ 63 ∧ ∀ H', Q (.bl true) H'
theorem fineB_int {B : Nat} {i : Int} (h : i.natAbs < B) : fineB B (.int i) = true := decide_eq_true h
theorem month_fineB {B : Nat} (hB : 61 ≤ B) {m : PyData} (h : isMonth m = true) : fineB B m = true := by
  obtain ⟨s, i, rfl, i1, i60, hs⟩ := isMonth_inv h
  show (fineB B (.str s) && (fineB B (.int i) && true)) = true
  rw [fineB_int (by omega), show fineB B (.str s) = true from (name_tidy hs).1]
  rfl
theorem year_fineB {B : Nat} (hB : 61 ≤ B) {y : PyData} (h : isYear y = true) : fineB B y = true := by
  obtain ⟨ms, rfl, _, _, hms, _⟩ := isYear_inv h
  exact fineAllB_iff.mpr fun m hm => month_fineB hB (hms m hm)
theorem rule_fineB {B : Nat} (hB : 61 ≤ B) {d : PyData} (h : isRule d = true) : fineB B d = true := by
  obtain ⟨ys, rfl, _, _, hys⟩ := isRule_inv h
  exact fineAllB_iff.mpr fun y hy => year_fineB hB (hys y hy)
theorem bent_good {B : Nat} {d d' : PyData} (hB : B + 60 ≤ 10 ^ 80) (h : BentTo B d d') (hw : wt d ≤ 100000) (hd : d.depth ≤ 3) : Good 900000 50 d' :=
  ⟨fineB_mono hB d' h.fin, by have := h.sz; omega, by have := h.dp; omega⟩
theorem bool_good (b : Bool) : Good 1000000 60 (.bool b) := by cases b <;> exact ⟨rfl, by decide, by decide⟩
theorem ok_law (T : Top K mg) : FnR P w K mg base CX0 8 T.a_law T.d_law ["_law_script"] (spLaw K) := by
  have G__law_source : FnOk P w K mg base CX0 1 T.a__law_source T.d__law_source ["_law_script", "_law_at"] (spSource K) := ok_source T
  have G__law_draw : FnOk P w K mg base CX0 1 T.a__law_draw T.d__law_draw ["_law_source_here", "_law_many"] spDraw := ok_draw T
  have G__law_pool : FnOk P w K mg base CX0 2 T.a__law_pool T.d__law_pool ["_law_source_here"] (spPool K) := ok_pool T
  have G__law_rule : FnOk P w K mg base CX0 2 T.a__law_rule T.d__law_rule ["_law_source_here", "_law_pool_here", "_law_most_years", "_law_most_days"] (spRule K) := ok_rule T
  have G__law_bent : FnOk P w K mg base CX0 6 T.a__law_bent T.d__law_bent ["_law_source_here", "_law_value"] (spBent K (10 ^ 61) 3) := ok_bent T (10 ^ 61) (by decide +kernel) (by decide +kernel) 3 (by decide)
  have G_has_date : FnOk P w K mg base (L2.CX P w) 6 T.a_has_date T.d_has_date ["rule", "date"] (spHasX K T.C_NoRule) := ok_has_dateX T
  have G__law_due : FnOk P w K mg base CX0 3 T.a__law_due T.d__law_due ["_law_plan", "_law_when"] (spHas K) := ok_due T
  have G__law_is_rule : FnOk P w K mg base CX0 4 T.a__law_is_rule T.d__law_is_rule ["_law_value"] (spB K isRule) := ok_lrule T
  have G__law_refused : FnR P w K mg base CX0 7 T.a__law_refused T.d__law_refused ["_law_plan", "_law_when"] (spRef2 K) := ok_refused2 T
  refine okR0 T.F_law sc_law (fun vs H Q E h => by obtain ⟨a, ns, rfl, _⟩ := h; rfl) (fun cdv A outer s0 H vs Q E gd hr h => ?_)
  obtain ⟨a0, ns, rfl, hS, few, q⟩ := h
  have hr1 : Room 1 _ := hr.mono (by decide)
  have hr2 : Room 2 _ := hr.mono (by decide)
  have hr3 : Room 3 _ := hr.mono (by decide)
  have hr4 : Room 4 _ := hr.mono (by decide)
  have hr6 : Room 6 _ := hr.mono (by decide)
  refine ⟨_, (pss_cons (ps_for PassesOwn.never rfl (pi_range1 rfl T.n_range (pa_cons (pe_callB (call_max2 rfl) (by rfl) T.n_max (by decide +kernel) (pa_cons pe_int (pa_cons (pe_callB (call_min2 rfl) (by rfl) T.n_min (by decide +kernel) (pa_cons pe_int (pa_cons (pe_callB call_len_seq (by rfl) T.n_len PySem.boot_len (pa_cons (pv 0) pa_nil)) pa_nil))) pa_nil))) pa_nil)) (pg_name (i := 1) sc_law.nd rfl (.inl rfl)) (pss_cons (ps_set (i := 2) sc_law.nd rfl (.inl rfl) (pe_call G__law_source hr1 (by rfl) T.m__law_source T.F__law_source.kp T.b__law_source .nil pass0 (pa_cons (pv 0) (pa_cons (pv 1) pa_nil)))) (pss_cons (ps_set (i := 3) sc_law.nd rfl (.inl rfl) (pe_call G__law_pool hr2 (by rfl) T.m__law_pool T.F__law_pool.kp T.b__law_pool .nil pass0 (pa_cons (pv 2) pa_nil))) (pss_cons (ps_set (i := 4) sc_law.nd rfl (.inl rfl) (pe_call G__law_rule hr2 (by rfl) T.m__law_rule T.F__law_rule.kp T.b__law_rule .nil pass0 (pa_cons (pv 2) (pa_cons (pv 3) (pa_cons pe_int (pa_cons pe_int pa_nil)))))) (pss_cons (ps_set (i := 5) sc_law.nd rfl (.inl rfl) (pe_call G__law_draw hr1 (by rfl) T.m__law_draw T.F__law_draw.kp T.b__law_draw .nil pass0 (pa_cons (pv 2) (pa_cons (pe_op op_pow pe_int pe_int) pa_nil)))) (pss_cons (ps_for PassesOwn.never rfl (pi_list (pe_op op_catQ (pe_listRg (by rfl) (by rfl) T.n_list (prg_2 (by rfl) T.n_range (pe_un un_neg pe_int) pe_int)) (pe_lst (pa_cons (pv 5) (pa_cons (pe_op op_sub pe_int (pv 5)) pa_nil))))) (pg_name (i := 6) sc_law.nd rfl (.inl rfl)) (pss_one (ps_for PassesOwn.never rfl (pi_list (pv 3)) (pg_name (i := 7) sc_law.nd rfl (.inl rfl)) (pss_one (ps_for PassesOwn.never rfl (pi_list (pe_lst (pa_cons pe_int (pa_cons pe_int (pa_cons pe_int (pa_cons pe_int (pa_cons pe_int (pa_cons pe_int pa_nil)))))))) (pg_name (i := 8) sc_law.nd rfl (.inl rfl)) (pss_one (ps_if (pt_cmpR op_ne (pe_callB (call_reprD gd hr.units) (by rfl) T.n_repr (by decide +kernel) (pa_cons (pe_call G_has_date hr6 (by rfl) T.m_has_date T.F_has_date.kp T.b_has_date .nil (passF rfl rfl) (pa_cons (pv 4) (pa_cons (pe_tupF (pa_cons (pv 6) (pa_cons (pv 7) (pa_cons (pv 8) pa_nil)))) pa_nil))) pa_nil)) (pe_callB (call_reprD gd hr.units) (by rfl) T.n_repr (by decide +kernel) (pa_cons (pe_call G__law_due hr3 (by rfl) T.m__law_due T.F__law_due.kp T.b__law_due .nil pass0 (pa_cons (pv 4) (pa_cons (pe_tupF (pa_cons (pv 6) (pa_cons (pv 7) (pa_cons (pv 8) pa_nil)))) pa_nil))) pa_nil)) (by rfl)) (pss_one (ps_ret pe_bl)) pss_nil))))))) (pss_cons (ps_set (i := 9) sc_law.nd rfl (.inl rfl) (pe_call G__law_bent hr6 (by rfl) T.m__law_bent T.F__law_bent.kp T.b__law_bent .nil pass0 (pa_cons (pv 2) (pa_cons (pe_tupF (pa_cons (pv 5) (pa_cons (pe_ix ix_list (pv 3) pe_int (fun _ _ => rfl)) (pa_cons pe_int pa_nil)))) pa_nil)))) (pss_cons (ps_if (pt_cmpR op_ne (pe_callB (call_reprD gd hr.units) (by rfl) T.n_repr (by decide +kernel) (pa_cons (pe_callKw G_has_date hr6 (by rfl) T.m_has_date T.F_has_date.kp T.k_has_date (passF rfl rfl) (pk_cons (pv 9) (pk_cons (pv 4) pk_nil))) pa_nil)) (pe_callB (call_reprD gd hr.units) (by rfl) T.n_repr (by decide +kernel) (pa_cons (pe_call G__law_due hr3 (by rfl) T.m__law_due T.F__law_due.kp T.b__law_due .nil pass0 (pa_cons (pv 4) (pa_cons (pv 9) pa_nil))) pa_nil)) (by rfl)) (pss_one (ps_ret pe_bl)) pss_nil) (pss_cons (ps_set (i := 10) sc_law.nd rfl (.inl rfl) (pe_call G__law_bent hr6 (by rfl) T.m__law_bent T.F__law_bent.kp T.b__law_bent .nil pass0 (pa_cons (pv 2) (pa_cons (pv 4) pa_nil)))) (pss_one (ps_if (PW.pt (pw_and (pt_not (pt_val (pe_call G__law_is_rule hr4 (by rfl) T.m__law_is_rule T.F__law_is_rule.kp T.b__law_is_rule .nil pass0 (pa_cons (pv 10) pa_nil)))) (pw_and1 (pt_not (pt_val (pe_callR G__law_refused gd hr (by rfl) T.m__law_refused T.F__law_refused.kp T.b__law_refused .nil pass0 (pa_cons (pv 10) (pa_cons (pv 9) pa_nil)))))))) (pss_one (ps_ret pe_bl)) pss_nil))))))))))) (pss_one (ps_ret (pe_and (pe_callR G__law_refused gd hr (by rfl) T.m__law_refused T.F__law_refused.kp T.b__law_refused .nil pass0 (pa_cons (pe_lst pa_nil) (pa_cons (pe_tupF (pa_cons pe_int (pa_cons pe_str (pa_cons pe_int pa_nil)))) pa_nil))) (pe_one (pe_callR G__law_refused gd hr (by rfl) T.m__law_refused T.F__law_refused.kp T.b__law_refused .nil pass0 (pa_cons (pe_tupF pa_nil) (pa_cons pe_non pa_nil)))))))), ?_⟩
  have elen : ((ns.map V.int).length : Int) ≤ 63 := by rw [List.length_map]; omega
  refine ⟨.ref a0, rfl, a0, _, rfl, .inl hS, 5, _, rfl, 1, _, rfl, _, rfl, by split <;> (try split) <;> omega, by split <;> (try split) <;> omega, ?_⟩
  refine for_range (fun i σ H1 => ∃ x1 x2 x3 x4 x5 x6 x7 x8 x9 x10, σ = [some (.ref a0), x1, x2, x3, x4, x5, x6, x7, x8, x9, x10] ∧ SqL K H1 a0 (ns.map V.int)) ⟨_, _, _, _, _, _, _, _, _, _, rfl, hS⟩ ?_ ?_
  · rintro i0 σ H hi ⟨x1, x2, x3, x4, x5, x6, x7, x8, x9, x10, rfl, hS⟩
    have hi100 : i0 ≤ 100 := by
      have : i0 < 100 := Nat.lt_of_lt_of_le hi (by split <;> (try split) <;> omega)
      omega
    dsimp only [gName]
    refine ⟨.ref a0, rfl, .int (0 + i0), rfl, a0, ns, i0, by rw [Int.zero_add]; rfl, hS, hi100, fun p H1 np s1 src => ?_⟩
    dsimp only [gName]
    have r1 : Rn (one (some p)) (some p) 0 H1 := rn_src src
    have hS1 : SqL K (hid (one (some p)) H1) a0 (ns.map V.int) := Same.seq (same_hid_new s1 np) hS
    -- pool
    refine ev_set (K := K) isPool 10 r1 (by decide) (Ev.up (ev_rng (m1 := 0) (m := 10) (R := (· = [])) rfl eva_n (fun _ e => e) (fun _ d _ h => h)) (Nat.le_of_eq (Nat.zero_add _))) fun H2 vo dpo k2 r2 hpo ⟨ss, epo, hss, hnd, hnm⟩ => ?_
    subst epo
    -- plan
    refine ev_set (K := K) (isRuleOf ss 4 5) 250 r2 (by decide) ?_ fun H3 vp dp k3 r3 hp pp => ?_
    · exact Ev.up (ev_rng (m1 := 0) (R := (· = [.list (ss.map PyData.str), .int 4, .int 5])) rfl (eva_c (ev_var (i := 3) rfl hpo rfl) (eva_c (ev_int rfl) (eva_c (ev_int rfl) eva_n))) (fun l e => ⟨ss, 4, 5, e, hss, hnd, by decide, by decide, by decide, by decide⟩) (fun l d e hpost => hpost ss 4 5 e)) (by decide)
    obtain ⟨ys, ep, ir, gys⟩ := rule_good pp (by decide) (by decide) hnm
    have wys : wt dp ≤ 100000 ∧ dp.depth ≤ 3 := by
      obtain ⟨ys', e, l1, l4, hy⟩ := pp
      have h1 := wtAll_cap fun e he => (year_good (hy e he) (by decide) hnm).2.2.1
      have h2 := depthAll_le fun e he => (year_good (hy e he) (by decide) hnm).2.2.2
      rw [e]
      exact ⟨by show wtAll ys' + 4 ≤ 100000; omega, by show PyData.depthAll ys' + 1 ≤ 3; omega⟩
    subst ep
    -- far
    refine ev_set (K := K) (fun d => ∃ f : Int, d = .int f ∧ 0 ≤ f ∧ f < 10 ^ 59) 1 r3 (by decide) ?_ fun H4 vf df k4 r4 hf ⟨f, ef, f0, f59⟩ => ?_
    · exact ev_draw (m := 0) (p := (· = 10 ^ 59)) rfl (Ev.mono (ev_powC ⟨by decide, by decide, by decide⟩) fun d e => ⟨_, e, rfl⟩) (fun k e => by subst e; exact ⟨by decide +kernel, by decide +kernel, fun j j0 j1 => ⟨j, rfl, j0, j1⟩⟩)
    subst ef
    cases hf
    have hp4 := Df.keep hp (keeps_one r1.sa k4)
    have hpo4 := Df.keep hpo (keeps_one r1.sa (k3.trans k4))
    have same : ∀ {σ : L2.St} {G : Hp} {t1 t2 : TE} {b : Bool}, Ev K (one (some p)) (some p) σ G t1 0 (· = .bool b) → Ev K (one (some p)) (some p) σ G t2 0 (· = .bool b) → Ev K (one (some p)) (some p) σ G (tOp rNe (tCB (rReprQ K) (tCons t1 tNil)) (tCB (rReprQ K) (tCons t2 tNil))) 0 (· = .bool false) := fun {σ G t1 t2 b} h1 h2 =>
      ev_neS (m1 := 0) (m2 := 0) (P1 := (· = .str (PyData.bool b).shown)) (P2 := (· = .str (PyData.bool b).shown)) (ev_repr (R := (· = [.bool b])) (eva_c h1 eva_n) (fun l e => ⟨_, e, bool_good b, rfl⟩)) (ev_repr (R := (· = [.bool b])) (eva_c h2 eva_n) (fun l e => ⟨_, e, bool_good b, rfl⟩)) (fun d e q1 q2 => ⟨_, _, q1, q2, by rw [ne_same]⟩)
    -- the years
    refine ev_forL (K := K) (fun d => ∃ y : Int, d = .int y ∧ y.natAbs ≤ 10 ^ 60) 0 (fun σ' => ∃ y6 y7 y8, σ' = [some (.ref a0), some (.int (0 + (i0 : Int))), some (.ref p), some vo, some vp, some (.int f), y6, y7, y8, x9, x10]) r4 (by decide) ?_ ⟨_, _, _, rfl⟩ ?_ ?_
    · refine ev_catL (m1 := 0) (m2 := 0) (P1 := (· = .list ((List.range (7 - -6 : Int).toNat).map fun i => PyData.int (-6 + (i : Nat))))) (P2 := (· = .list [.int f, .int (0 - f)])) (ev_listRg ev_negC (ev_int rfl) ⟨by decide, by decide, by decide, by decide, by decide⟩ rfl) (Ev.mono (ev_lst (R := (· = [.int f, .int (0 - f)])) (eva_c (ev_var (i := 5) rfl (.int _) rfl) (eva_c (ev_ints (m1 := 0) (m2 := 0) (p1 := (· = 0)) (p2 := (· = f)) (ev_intE rfl) (ev_var (i := 5) rfl (.int _) ⟨_, rfl, rfl⟩) (fun a b q1 q2 => by rw [q1, q2])) eva_n)) (fun l e => by rw [e]; exact (by decide : 2 ≤ 100000)) (P := (· = .list [.int f, .int (0 - f)])) (fun l e => by rw [e])) fun d e => e) (fun d e q1 q2 => ⟨_, _, q1, q2, by rw [List.length_map, List.length_range]; exact (by decide : 13 + 2 ≤ 100000), _, rfl, fun e he => ?_⟩)
      rcases List.mem_append.mp he with he | he
      · obtain ⟨i, hi, rfl⟩ := List.mem_map.mp he
        rw [List.mem_range] at hi
        have hi13 : i < 13 := hi
        exact ⟨_, rfl, by omega⟩
      · rcases List.mem_cons.mp he with rfl | he
        · exact ⟨_, rfl, by omega⟩
        · rw [List.mem_singleton.mp he]
          exact ⟨_, rfl, by omega⟩
    · rintro Hs σ1 G v d ⟨y6, y7, y8, rfl⟩ ks kg rg hv ⟨y, rfl, yb⟩
      cases hv
      dsimp only [List.set]
      have hpoG := Df.keep hpo4 (keeps_one r1.sa (ks.trans kg))
      -- the names
      refine ev_forLast (K := K) (fun d => ∃ s : Str, d = .str s ∧ nameStr s = true) 0 (fun σ' => ∃ y7 y8, σ' = [some (.ref a0), some (.int (0 + (i0 : Int))), some (.ref p), some vo, some vp, some (.int f), some (.int y), y7, y8, x9, x10]) rg (by decide) (ev_var (i := 3) rfl hpoG ⟨_, rfl, fun e he => ?_⟩) ⟨_, _, rfl⟩ ?_ ?_
      · obtain ⟨s, hs, rfl⟩ := List.mem_map.mp he
        exact ⟨s, rfl, hnm s hs⟩
      · rintro Hs2 σ2 G2 v2 d2 ⟨y7, y8, rfl⟩ ks2 kg2 rg2 hv2 ⟨s, rfl, hs⟩
        cases hv2
        dsimp only [List.set]
        -- the days
        refine ev_forLast (K := K) (fun d => ∃ i : Int, d = .int i ∧ 1 ≤ i ∧ i ≤ 6) 0 (fun σ' => ∃ y8, σ' = [some (.ref a0), some (.int (0 + (i0 : Int))), some (.ref p), some vo, some vp, some (.int f), some (.int y), some (.str s), y8, x9, x10]) rg2 (by decide) ?_ ⟨_, rfl⟩ ?_ ?_
        · refine ev_lst (R := fun l => l.length = 6 ∧ ∀ e ∈ l, ∃ i : Int, e = .int i ∧ 1 ≤ i ∧ i ≤ 6) ?_ (fun l q1 => by rw [q1.1]; decide) (fun l q1 => ⟨l, rfl, q1.2⟩)
          exact eva_all (m1 := 0) (m2 := 0) (ev_int ⟨1, rfl, by decide, by decide⟩) (eva_all (m1 := 0) (m2 := 0) (ev_int ⟨2, rfl, by decide, by decide⟩) (eva_all (m1 := 0) (m2 := 0) (ev_int ⟨3, rfl, by decide, by decide⟩) (eva_all (m1 := 0) (m2 := 0) (ev_int ⟨4, rfl, by decide, by decide⟩) (eva_all (m1 := 0) (m2 := 0) (ev_int ⟨5, rfl, by decide, by decide⟩) (eva_all (m1 := 0) (m2 := 0) (ev_int ⟨6, rfl, by decide, by decide⟩) eva_all0)))))
        · rintro Hs3 σ3 G3 v3 d3 ⟨y8, rfl⟩ ks3 kg3 rg3 hv3 ⟨i, rfl, i1, i6⟩
          cases hv3
          dsimp only [List.set]
          have hpG := Df.keep hp4 (keeps_one r1.sa ((ks.trans kg).trans ((ks2.trans kg2).trans (ks3.trans kg3))))
          have gdt := date_good (y := y) (i := i) hs (Nat.le_trans yb (by decide +kernel)) i1 (by omega)
          refine ev_ifF (K := K) (m := 0) rg3 (by decide) (same (b := hasB (.tuple ys) (.tuple [.int y, .str s, .int i])) ?_ ?_) fun H9 k9 r9 => ⟨⟨_, rfl⟩, kg3.trans k9, r9⟩
          · exact ev_callHasX (eva_c (ev_var (i := 4) rfl hpG rfl) (eva_c (ev_t (eva_c (ev_var (i := 6) rfl (.int _) rfl) (eva_c (ev_var (i := 7) rfl (.str _) rfl) (eva_c (ev_var (i := 8) rfl (.int _) rfl) eva_n))) (by exact (by decide : 3 ≤ 100000))) eva_n)) gys gdt ir rfl
          · exact ev_callHas (R := (· = [.tuple ys, .tuple [.int y, .str s, .int i]])) (eva_c (ev_var (i := 4) rfl hpG rfl) (eva_c (ev_t (eva_c (ev_var (i := 6) rfl (.int _) rfl) (eva_c (ev_var (i := 7) rfl (.str _) rfl) (eva_c (ev_var (i := 8) rfl (.int _) rfl) eva_n))) (by exact (by decide : 3 ≤ 100000))) eva_n)) (fun l e => ⟨_, _, e, gys, gdt, ir, rfl⟩)
        · rintro σ3 G3 ⟨y8, rfl⟩ k3' r3'
          exact ⟨⟨_, _, rfl⟩, kg2.trans k3', r3'⟩
      · rintro σ2 G2 ⟨y7, y8, rfl⟩ k2' r2'
        exact ⟨⟨_, _, _, rfl⟩, kg.trans k2', r2'⟩
    · rintro σ1 H5 ⟨y6, y7, y8, rfl⟩ k5 r5
      try dsimp only
      have hp5 := Df.keep hp4 (keeps_one r1.sa k5)
      have hpo5 := Df.keep hpo4 (keeps_one r1.sa k5)
      -- value
      refine ev_set (K := K) (Good 900000 50) (0 + bentM 3) r5 (by decide) ?_ fun H6 vv dv k6 r6 hv gv => ?_
      · refine ev_rng (m1 := 0) (R := fun l => ∃ s, l = [.tuple [.int f, .str s, .int 1]] ∧ nameStr s = true) rfl ?_ (fun l ⟨s, e, hs⟩ => ?_) (fun l d ⟨s, e, hs⟩ hb => ?_)
        · refine eva_cons (m1 := 0) (m2 := 0) (P := fun d => ∃ s, d = .tuple [.int f, .str s, .int 1] ∧ nameStr s = true) (R1 := (· = [])) ?_ eva_n (fun d l ⟨s, e, h⟩ e2 => ⟨s, by rw [e, e2], h⟩)
          refine ev_tup (R := fun l => ∃ s, l = [.int f, .str s, .int 1] ∧ nameStr s = true) ?_ (fun l ⟨s, e, _⟩ => by rw [e]; exact (by decide : 3 ≤ 100000)) (fun l ⟨s, e, h⟩ => ⟨s, by rw [e], h⟩)
          refine eva_cons (m1 := 0) (m2 := 0) (P := (· = .int f)) (R1 := fun l => ∃ s, l = [.str s, .int 1] ∧ nameStr s = true) (ev_var (i := 5) rfl (.int _) rfl) ?_ (fun d l e ⟨s, e2, h⟩ => ⟨s, by rw [e, e2], h⟩)
          refine eva_cons (m1 := 0) (m2 := 0) (P := fun d => ∃ s, d = .str s ∧ nameStr s = true) (R1 := (· = [.int 1])) ?_ (eva_c (ev_int rfl) eva_n) (fun d l ⟨s, e, h⟩ e2 => ⟨s, by rw [e, e2], h⟩)
          refine ev_ixL (m1 := 0) (m2 := 0) (P1 := (· = .list (ss.map PyData.str))) (P2 := (· = .int 0)) (ev_var (i := 3) rfl hpo5 rfl) (ev_int rfl) (fun d e q1 q2 => ?_)
          obtain ⟨s0, sr, rfl⟩ : ∃ a b, ss = a :: b := by
            cases ss with
            | nil => cases hss
            | cons a b => exact ⟨a, b, rfl⟩
          exact ⟨_, 0, .str s0, q1, q2, atI_nat (j := 0) rfl, s0, rfl, hnm s0 (List.mem_cons_self ..)⟩
        · refine ⟨_, e, ?_, ?_, by show 0 + 1 ≤ 3; decide⟩
          · show (fineB (10 ^ 61) (.int f) && (fineB (10 ^ 61) (.str s) && (fineB (10 ^ 61) (.int 1) && true))) = true
            rw [fineB_int (show f.natAbs < 10 ^ 61 by omega), fineB_int (show (1 : Int).natAbs < 10 ^ 61 by decide +kernel), show fineB (10 ^ 61) (.str s) = true from (name_tidy hs).1]
            rfl
          · have := (name_tidy hs).2
            show 300 + 4 + (10 * s.length + 4 + 4 + (300 + 4 + 0)) + 4 ≤ 100000
            omega
        · have := (name_tidy hs).2
          exact bent_good (by decide +kernel) (hb _ e) (by show 300 + 4 + (10 * s.length + 4 + 4 + (300 + 4 + 0)) + 4 ≤ 100000; omega) (by show 0 + 1 ≤ 3; decide)
      have hp6 := Df.keep hp5 (keeps_one r1.sa k6)
      refine ev_ifF (K := K) (m := 0) r6 (by decide) (same (b := hasB (.tuple ys) dv) ?_ ?_) fun H7 k7 r7 => ?_
      · exact ev_callHasKw (eva_c (ev_var (i := 9) rfl hv rfl) (eva_c (ev_var (i := 4) rfl hp6 rfl) eva_n)) gys gv ir rfl
      · exact ev_callHas (R := (· = [.tuple ys, dv])) (eva_c (ev_var (i := 4) rfl hp6 rfl) (eva_c (ev_var (i := 9) rfl hv rfl) eva_n)) (fun l e => ⟨_, _, e, gys, gv, ir, rfl⟩)
      try dsimp only
      have hp7 := Df.keep hp6 (keeps_one r1.sa k7)
      have hv7 := Df.keep hv (keeps_one r1.sa k7)
      -- spoilt
      refine ev_set (K := K) (Good 900000 50) (0 + bentM 3) r7 (by decide) ?_ fun H8 vs8 ds8 k8 r8 hs8 gs8 => ?_
      · exact ev_rng (m1 := 0) (R := (· = [.tuple ys])) rfl (eva_c (ev_var (i := 4) rfl hp7 rfl) eva_n) (fun l e => ⟨_, e, rule_fineB (by decide +kernel) ir, wys.1, wys.2⟩) (fun l d e hb => bent_good (by decide +kernel) (hb _ e) wys.1 wys.2)
      have hv8 := Df.keep hv7 (keeps_one r1.sa k8)
      refine if_evt (K := K) (b := (!isRule ds8 && !(!isRule ds8))) r8 (by decide) ?_ (fun z => ?_) (fun _ H9 k9 r9 => ?_)
      · refine evt_and (evt_not (evt_val ?_)) (fun _ => evt_not (evt_val ?_))
        · exact ev_callB (R := (· = [ds8])) (eva_c (ev_var (i := 10) rfl hs8 rfl) eva_n) (fun l e => ⟨_, e, gs8, rfl⟩)
        · exact ev_callRef (eva_c (ev_var (i := 10) rfl hs8 rfl) (eva_c (ev_var (i := 9) rfl hv8 rfl) eva_n)) gs8 gv rfl
      · cases hb : isRule ds8 <;> rw [hb] at z <;> cases z
      · exact ⟨_, _, _, _, _, _, _, _, _, _, rfl, Same.seq (Same.trans (keeps_one r1.sa (k2.trans (k3.trans (k4.trans (k5.trans (k6.trans (k7.trans (k8.trans k9)))))))) hid_same) hS1⟩
  · rintro σ H ⟨x1, x2, x3, x4, x5, x6, x7, x8, x9, x10, rfl, hS⟩
    dsimp only
    refine ev_retN (K := K) 0 (· = .bool true) ?_ (by decide) fun H1 v d s1 hd e => by subst e; cases hd; exact q H1
    refine ev_andT (m1 := 0) (m2 := 0) ?_ ?_
    · exact ev_callRef (d1 := .list []) (d2 := .tuple [.int 1, .str "a", .int 1]) (eva_c (ev_l eva_n (by decide)) (eva_c (ev_t (eva_c (ev_int rfl) (eva_c (ev_str rfl) (eva_c (ev_int rfl) eva_n))) (by decide)) eva_n)) ⟨rfl, by decide, by decide⟩ ⟨by decide +kernel, by decide +kernel, by decide⟩ rfl
    · exact ev_callRef (d1 := .tuple []) (d2 := .none) (eva_c (ev_t eva_n (by decide)) (eva_c (ev_non rfl) eva_n)) ⟨rfl, by decide, by decide⟩ ⟨rfl, by decide, by decide⟩ rfl
end

theorem mkAll {l : PySem.W.OpenLaw} {w : World} {K : PySem.W.Frag} {h : Heap} {mg : Str → Option Value} {fa : Addr} {k : Nat} {sp : PySem.W.Frag → Sp} (KX : K.In h) (G : h.Ns mainGlobals mg) (hfa : mg "law" = some (.ref fa))
    (okL : ∀ (T : Top K mg) (base : Heap), FnR l.prog w K mg base CX0 k T.a_law T.d_law ["_law_script"] (sp K))
    {f0 f1 f2 f3 f4 f5 f6 f7 f8 f9 f10 f11 f12 f13 f14 f15 f16 f17 f18 f19 f20 f21 f22 f23 : Addr} {od0 an0 od1 an1 od2 an2 od3 an3 od4 an4 od5 an5 od6 an6 od7 an7 od8 an8 od9 an9 od10 an10 od11 an11 od12 an12 od13 an13 od14 an14 od15 an15 od16 an16 od17 an17 od18 an18 od19 an19 od20 an20 od21 an21 od22 an22 od23 an23 : Option Addr} {sl0 sl1 sl2 sl3 sl4 sl5 sl6 sl7 sl8 sl9 sl10 sl11 sl12 sl13 sl14 sl15 sl16 sl17 sl18 sl19 sl20 sl21 sl22 sl23 : Array (Option Value)}
    {oc0 kV0 dc0 pm0 cd0 ct0 oc1 kV1 dc1 pm1 cd1 ct1 oc2 kV2 dc2 pm2 cd2 ct2 oc3 kV3 dc3 pm3 cd3 ct3 oc4 kV4 dc4 pm4 cd4 ct4 oc5 kV5 dc5 pm5 cd5 ct5 oc6 kV6 dc6 pm6 cd6 ct6 oc7 kV7 dc7 pm7 cd7 ct7 oc8 kV8 dc8 pm8 cd8 ct8 oc9 kV9 dc9 pm9 cd9 ct9 oc10 kV10 dc10 pm10 cd10 ct10 oc11 kV11 dc11 pm11 cd11 ct11 oc12 kV12 dc12 pm12 cd12 ct12 oc13 kV13 dc13 pm13 cd13 ct13 oc14 kV14 dc14 pm14 cd14 ct14 oc15 kV15 dc15 pm15 cd15 ct15 oc16 kV16 dc16 pm16 cd16 ct16 oc17 kV17 dc17 pm17 cd17 ct17 oc18 kV18 dc18 pm18 cd18 ct18 oc19 kV19 dc19 pm19 cd19 ct19 oc20 kV20 dc20 pm20 cd20 ct20 oc21 kV21 dc21 pm21 cd21 ct21 oc22 kV22 dc22 pm22 cd22 ct22 oc23 kV23 dc23 pm23 cd23 ct23 : Value} {u0 u1 u2 u3 : Tok}
    (a0 : PySem.W.nsIn K mainGlobals "is_int" = some (some (.ref f0)))
    (l0 : K.lookup f0 = some ⟨oc0, od0, .func (PySem.W.fnOf "is_int" "is_int" (defArgs s_is_int) (defBody s_is_int) (defScope s_is_int) .none kV0 dc0 pm0 an0 cd0 ct0), sl0⟩)
    (c0 : PySem.W.codeIn K cd0 "is_int" = true) (k0 : PySem.W.keepIn K (.ref f0) = true)
    (a1 : PySem.W.nsIn K mainGlobals "is_name" = some (some (.ref f1)))
    (l1 : K.lookup f1 = some ⟨oc1, od1, .func (PySem.W.fnOf "is_name" "is_name" (defArgs s_is_name) (defBody s_is_name) (defScope s_is_name) .none kV1 dc1 pm1 an1 cd1 ct1), sl1⟩)
    (c1 : PySem.W.codeIn K cd1 "is_name" = true) (k1 : PySem.W.keepIn K (.ref f1) = true)
    (a2 : PySem.W.nsIn K mainGlobals "is_rule" = some (some (.ref f2)))
    (l2 : K.lookup f2 = some ⟨oc2, od2, .func (PySem.W.fnOf "is_rule" "is_rule" (defArgs s_is_rule) (defBody s_is_rule) (defScope s_is_rule) .none kV2 dc2 pm2 an2 cd2 ct2), sl2⟩)
    (c2 : PySem.W.codeIn K cd2 "is_rule" = true) (k2 : PySem.W.keepIn K (.ref f2) = true)
    (a3 : PySem.W.nsIn K mainGlobals "is_year" = some (some (.ref f3)))
    (l3 : K.lookup f3 = some ⟨oc3, od3, .func (PySem.W.fnOf "is_year" "is_year" (defArgs s_is_year) (defBody s_is_year) (defScope s_is_year) .none kV3 dc3 pm3 an3 cd3 ct3), sl3⟩)
    (c3 : PySem.W.codeIn K cd3 "is_year" = true) (k3 : PySem.W.keepIn K (.ref f3) = true)
    (a4 : PySem.W.nsIn K mainGlobals "is_month" = some (some (.ref f4)))
    (l4 : K.lookup f4 = some ⟨oc4, od4, .func (PySem.W.fnOf "is_month" "is_month" (defArgs s_is_month) (defBody s_is_month) (defScope s_is_month) .none kV4 dc4 pm4 an4 cd4 ct4), sl4⟩)
    (c4 : PySem.W.codeIn K cd4 "is_month" = true) (k4 : PySem.W.keepIn K (.ref f4) = true)
    (a5 : PySem.W.nsIn K mainGlobals "is_day_of_month" = some (some (.ref f5)))
    (l5 : K.lookup f5 = some ⟨oc5, od5, .func (PySem.W.fnOf "is_day_of_month" "is_day_of_month" (defArgs s_is_day_of_month) (defBody s_is_day_of_month) (defScope s_is_day_of_month) .none kV5 dc5 pm5 an5 cd5 ct5), sl5⟩)
    (c5 : PySem.W.codeIn K cd5 "is_day_of_month" = true) (k5 : PySem.W.keepIn K (.ref f5) = true)
    (a6 : PySem.W.nsIn K mainGlobals "is_date" = some (some (.ref f6)))
    (l6 : K.lookup f6 = some ⟨oc6, od6, .func (PySem.W.fnOf "is_date" "is_date" (defArgs s_is_date) (defBody s_is_date) (defScope s_is_date) .none kV6 dc6 pm6 an6 cd6 ct6), sl6⟩)
    (c6 : PySem.W.codeIn K cd6 "is_date" = true) (k6 : PySem.W.keepIn K (.ref f6) = true)
    (a7 : PySem.W.nsIn K mainGlobals "has_date" = some (some (.ref f7)))
    (l7 : K.lookup f7 = some ⟨oc7, od7, .func (PySem.W.fnOf "has_date" "has_date" (defArgs s_has_date) (defBody s_has_date) (defScope s_has_date) .none kV7 dc7 pm7 an7 cd7 ct7), sl7⟩)
    (c7 : PySem.W.codeIn K cd7 "has_date" = true) (k7 : PySem.W.keepIn K (.ref f7) = true)
    (a8 : PySem.W.nsIn K mainGlobals "includes" = some (some (.ref f8)))
    (l8 : K.lookup f8 = some ⟨oc8, od8, .func (PySem.W.fnOf "includes" "includes" (defArgs s_includes) (defBody s_includes) (defScope s_includes) .none kV8 dc8 pm8 an8 cd8 ct8), sl8⟩)
    (c8 : PySem.W.codeIn K cd8 "includes" = true) (k8 : PySem.W.keepIn K (.ref f8) = true)
    (a9 : PySem.W.nsIn K mainGlobals "_law_source" = some (some (.ref f9)))
    (l9 : K.lookup f9 = some ⟨oc9, od9, .func (PySem.W.fnOf "_law_source" "_law_source" (defArgs s__law_source) (defBody s__law_source) (defScope s__law_source) .none kV9 dc9 pm9 an9 cd9 ct9), sl9⟩)
    (c9 : PySem.W.codeIn K cd9 "_law_source" = true) (k9 : PySem.W.keepIn K (.ref f9) = true)
    (a10 : PySem.W.nsIn K mainGlobals "_law_draw" = some (some (.ref f10)))
    (l10 : K.lookup f10 = some ⟨oc10, od10, .func (PySem.W.fnOf "_law_draw" "_law_draw" (defArgs s__law_draw) (defBody s__law_draw) (defScope s__law_draw) .none kV10 dc10 pm10 an10 cd10 ct10), sl10⟩)
    (c10 : PySem.W.codeIn K cd10 "_law_draw" = true) (k10 : PySem.W.keepIn K (.ref f10) = true)
    (a11 : PySem.W.nsIn K mainGlobals "_law_pool" = some (some (.ref f11)))
    (l11 : K.lookup f11 = some ⟨oc11, od11, .func (PySem.W.fnOf "_law_pool" "_law_pool" (defArgs s__law_pool) (defBody s__law_pool) (defScope s__law_pool) .none kV11 dc11 pm11 an11 cd11 ct11), sl11⟩)
    (c11 : PySem.W.codeIn K cd11 "_law_pool" = true) (k11 : PySem.W.keepIn K (.ref f11) = true)
    (a12 : PySem.W.nsIn K mainGlobals "_law_rule" = some (some (.ref f12)))
    (l12 : K.lookup f12 = some ⟨oc12, od12, .func (PySem.W.fnOf "_law_rule" "_law_rule" (defArgs s__law_rule) (defBody s__law_rule) (defScope s__law_rule) .none kV12 dc12 pm12 an12 cd12 ct12), sl12⟩)
    (c12 : PySem.W.codeIn K cd12 "_law_rule" = true) (k12 : PySem.W.keepIn K (.ref f12) = true)
    (a13 : PySem.W.nsIn K mainGlobals "_law_any" = some (some (.ref f13)))
    (l13 : K.lookup f13 = some ⟨oc13, od13, .func (PySem.W.fnOf "_law_any" "_law_any" (defArgs s__law_any) (defBody s__law_any) (defScope s__law_any) .none kV13 dc13 pm13 an13 cd13 ct13), sl13⟩)
    (c13 : PySem.W.codeIn K cd13 "_law_any" = true) (k13 : PySem.W.keepIn K (.ref f13) = true)
    (a14 : PySem.W.nsIn K mainGlobals "_law_bent" = some (some (.ref f14)))
    (l14 : K.lookup f14 = some ⟨oc14, od14, .func (PySem.W.fnOf "_law_bent" "_law_bent" (defArgs s__law_bent) (defBody s__law_bent) (defScope s__law_bent) .none kV14 dc14 pm14 an14 cd14 ct14), sl14⟩)
    (c14 : PySem.W.codeIn K cd14 "_law_bent" = true) (k14 : PySem.W.keepIn K (.ref f14) = true)
    (a15 : PySem.W.nsIn K mainGlobals "_law_whole" = some (some (.ref f15)))
    (l15 : K.lookup f15 = some ⟨oc15, od15, .func (PySem.W.fnOf "_law_whole" "_law_whole" (defArgs s__law_whole) (defBody s__law_whole) (defScope s__law_whole) .none kV15 dc15 pm15 an15 cd15 ct15), sl15⟩)
    (c15 : PySem.W.codeIn K cd15 "_law_whole" = true) (k15 : PySem.W.keepIn K (.ref f15) = true)
    (a16 : PySem.W.nsIn K mainGlobals "_law_is_name" = some (some (.ref f16)))
    (l16 : K.lookup f16 = some ⟨oc16, od16, .func (PySem.W.fnOf "_law_is_name" "_law_is_name" (defArgs s__law_is_name) (defBody s__law_is_name) (defScope s__law_is_name) .none kV16 dc16 pm16 an16 cd16 ct16), sl16⟩)
    (c16 : PySem.W.codeIn K cd16 "_law_is_name" = true) (k16 : PySem.W.keepIn K (.ref f16) = true)
    (a17 : PySem.W.nsIn K mainGlobals "_law_is_month" = some (some (.ref f17)))
    (l17 : K.lookup f17 = some ⟨oc17, od17, .func (PySem.W.fnOf "_law_is_month" "_law_is_month" (defArgs s__law_is_month) (defBody s__law_is_month) (defScope s__law_is_month) .none kV17 dc17 pm17 an17 cd17 ct17), sl17⟩)
    (c17 : PySem.W.codeIn K cd17 "_law_is_month" = true) (k17 : PySem.W.keepIn K (.ref f17) = true)
    (a18 : PySem.W.nsIn K mainGlobals "_law_is_year" = some (some (.ref f18)))
    (l18 : K.lookup f18 = some ⟨oc18, od18, .func (PySem.W.fnOf "_law_is_year" "_law_is_year" (defArgs s__law_is_year) (defBody s__law_is_year) (defScope s__law_is_year) .none kV18 dc18 pm18 an18 cd18 ct18), sl18⟩)
    (c18 : PySem.W.codeIn K cd18 "_law_is_year" = true) (k18 : PySem.W.keepIn K (.ref f18) = true)
    (a19 : PySem.W.nsIn K mainGlobals "_law_is_rule" = some (some (.ref f19)))
    (l19 : K.lookup f19 = some ⟨oc19, od19, .func (PySem.W.fnOf "_law_is_rule" "_law_is_rule" (defArgs s__law_is_rule) (defBody s__law_is_rule) (defScope s__law_is_rule) .none kV19 dc19 pm19 an19 cd19 ct19), sl19⟩)
    (c19 : PySem.W.codeIn K cd19 "_law_is_rule" = true) (k19 : PySem.W.keepIn K (.ref f19) = true)
    (a20 : PySem.W.nsIn K mainGlobals "_law_is_date" = some (some (.ref f20)))
    (l20 : K.lookup f20 = some ⟨oc20, od20, .func (PySem.W.fnOf "_law_is_date" "_law_is_date" (defArgs s__law_is_date) (defBody s__law_is_date) (defScope s__law_is_date) .none kV20 dc20 pm20 an20 cd20 ct20), sl20⟩)
    (c20 : PySem.W.codeIn K cd20 "_law_is_date" = true) (k20 : PySem.W.keepIn K (.ref f20) = true)
    (a21 : PySem.W.nsIn K mainGlobals "_law_due" = some (some (.ref f21)))
    (l21 : K.lookup f21 = some ⟨oc21, od21, .func (PySem.W.fnOf "_law_due" "_law_due" (defArgs s__law_due) (defBody s__law_due) (defScope s__law_due) .none kV21 dc21 pm21 an21 cd21 ct21), sl21⟩)
    (c21 : PySem.W.codeIn K cd21 "_law_due" = true) (k21 : PySem.W.keepIn K (.ref f21) = true)
    (a22 : PySem.W.nsIn K mainGlobals "_law_refused" = some (some (.ref f22)))
    (l22 : K.lookup f22 = some ⟨oc22, od22, .func (PySem.W.fnOf "_law_refused" "_law_refused" (defArgs s__law_refused) (defBody s__law_refused) (defScope s__law_refused) .none kV22 dc22 pm22 an22 cd22 ct22), sl22⟩)
    (c22 : PySem.W.codeIn K cd22 "_law_refused" = true) (k22 : PySem.W.keepIn K (.ref f22) = true)
    (a23 : PySem.W.nsIn K mainGlobals "law" = some (some (.ref f23)))
    (l23 : K.lookup f23 = some ⟨oc23, od23, .func (PySem.W.fnOf "law" "law" (defArgs s_law) (defBody s_law) (defScope s_law) .none kV23 dc23 pm23 an23 cd23 ct23), sl23⟩)
    (c23 : PySem.W.codeIn K cd23 "law" = true) (k23 : PySem.W.keepIn K (.ref f23) = true)
    (z0 : PySem.W.nsIn K mainGlobals "isinstance" = some none)
    (z1 : PySem.W.nsIn K mainGlobals "int" = some none)
    (z2 : PySem.W.nsIn K mainGlobals "bool" = some none)
    (z3 : PySem.W.nsIn K mainGlobals "str" = some none)
    (z4 : PySem.W.nsIn K mainGlobals "len" = some none)
    (z5 : PySem.W.nsIn K mainGlobals "tuple" = some none)
    (z6 : PySem.W.nsIn K mainGlobals "all" = some none)
    (z7 : PySem.W.nsIn K mainGlobals "any" = some none)
    (z8 : PySem.W.nsIn K mainGlobals "abs" = some none)
    (z9 : PySem.W.nsIn K mainGlobals "range" = some none)
    (z10 : PySem.W.nsIn K mainGlobals "list" = some none)
    (z11 : PySem.W.nsIn K mainGlobals "repr" = some none)
    (z12 : PySem.W.nsIn K mainGlobals "ValueError" = some none)
    (z13 : PySem.W.nsIn K mainGlobals "max" = some none)
    (z14 : PySem.W.nsIn K mainGlobals "min" = some none)
    (x0 : PySem.W.nsIn K mainGlobals "LONGEST_NAME" = some (some (.int 8 u0)))
    (x1 : PySem.W.nsIn K mainGlobals "MOST_DAYS" = some (some (.int 60 u1)))
    (x2 : PySem.W.nsIn K mainGlobals "MOST_MONTHS" = some (some (.int 13 u2)))
    (x3 : PySem.W.nsIn K mainGlobals "MOST_YEARS" = some (some (.int 20 u3)))
    (wValueError : PySem.W.findCls K (.type "ValueError") (.type "type") "__init__" = some (.val (.builtin "ValueError.__init__")))
    (xgn : PySem.W.specialIn K (.builtin "object.__class__") "__get__" = some (some (.builtin "getset_descriptor.__get__"))) (xgt : PySem.W.takesIn K (.builtin "object.__class__") = some true)
    {CENoRule IENoRule NENoRule : Addr} {nmENoRule qqENoRule : Str} {bsENoRule : List Value} {snENoRule : List Str} {subENoRule : List Value} {abENoRule : Bool} {colENoRule : Option Bool} {ddENoRule : Option Addr} {m0ENoRule m1ENoRule m2ENoRule m3ENoRule m5ENoRule : Option Value} {ocENoRule kVENoRule dcENoRule pmENoRule cdENoRule ctENoRule : Value} {odENoRule anENoRule : Option Addr} {slENoRule : Array (Option Value)}
    (aCENoRule : PySem.W.nsIn K mainGlobals "NoRule" = some (some (.ref CENoRule)))
    (xLENoRule : K.lookup CENoRule = some (excClassObj nmENoRule qqENoRule CENoRule NENoRule bsENoRule [.type "ValueError", .type "Exception", .type "BaseException", .type "object"] true snENoRule subENoRule abENoRule colENoRule ddENoRule m0ENoRule m1ENoRule m2ENoRule m3ENoRule m5ENoRule "ValueError.__new__"))
    (saENoRule : PySem.W.findIn K (.ref CENoRule) "__setattr__" = some (some (.builtin "object.__setattr__"))) (gaENoRule : PySem.W.findIn K (.ref CENoRule) "__getattribute__" = some (some (.builtin "BaseException.__getattribute__"))) (ggENoRule : PySem.W.findIn K (.ref CENoRule) "__getattr__" = some none) (nfENoRule : PySem.W.findIn K (.ref CENoRule) "rule" = some none)
    (i1ENoRule : PySem.W.findIn K (.ref CENoRule) "__init__" = some (some (.ref IENoRule))) (t1ENoRule : PySem.W.typeIn K (.ref IENoRule) = some (.type "function"))
    (l1ENoRule : K.lookup IENoRule = some ⟨ocENoRule, odENoRule, .func (PySem.W.fnOf "__init__" "NoRule.__init__" (defArgs s_NoRule) (defBody s_NoRule) (defScope s_NoRule) .none kVENoRule dcENoRule pmENoRule anENoRule cdENoRule ctENoRule), slENoRule⟩) (c1ENoRule : PySem.W.codeIn K cdENoRule "NoRule.__init__" = true) (k1ENoRule : PySem.W.keepIn K (.ref IENoRule) = true)
    (kCENoRule : PySem.W.keepIn K (.ref CENoRule) = true) (eCENoRule : PySem.W.subIn K (.ref CENoRule) (.type "BaseException") = some true) (tCENoRule : PySem.W.typeIn K (.ref CENoRule) = some (.type "type")) (hCENoRule : PySem.W.hasDictIn K CENoRule = true) (iCENoRule : PySem.W.isClsIn K CENoRule = true) (sCENoRule : PySem.W.subIn K (.ref CENoRule) (.ref CENoRule) = some true) (caENoRule : PySem.W.findIn K (.ref CENoRule) "__class__" = some (some (.builtin "object.__class__"))) (moENoRule : PySem.W.mroIn K CENoRule (.type "object") = some true)
    {CENoDate : Addr} (aCENoDate : PySem.W.nsIn K mainGlobals "NoDate" = some (some (.ref CENoDate))) (iCENoDate : PySem.W.isClsIn K CENoDate = true) (tCENoDate : PySem.W.typeIn K (.ref CENoDate) = some (.type "type"))
    (qq_NoRule_ValueError : PySem.W.subIn K (.ref CENoRule) (.type "ValueError") = some true)
    (qq_NoRule_NoDate : PySem.W.subIn K (.ref CENoRule) (.ref CENoDate) = some false)
    (qn_NoRule_NoDate : (Value.ref CENoRule == Value.ref CENoDate) = false)
    : ∃ fd : FuncData, (∀ (s : Shared) (v : Value), BindsTo s fd ⟨[v], []⟩ [("_law_script", v)]) ∧ ∀ base : Heap, K.In base → base.Ns mainGlobals mg → FnR l.prog w K mg base CX0 k fa fd ["_law_script"] (sp K) := by
  have e := hfa.symm.trans (PySem.W.mg_of KX G a23)
  cases e
  have F0 := fun_mk (st := s_is_int) l0 c0 k0
  have F1 := fun_mk (st := s_is_name) l1 c1 k1
  have F2 := fun_mk (st := s_is_rule) l2 c2 k2
  have F3 := fun_mk (st := s_is_year) l3 c3 k3
  have F4 := fun_mk (st := s_is_month) l4 c4 k4
  have F5 := fun_mk (st := s_is_day_of_month) l5 c5 k5
  have F6 := fun_mk (st := s_is_date) l6 c6 k6
  have F7 := fun_mk (st := s_has_date) l7 c7 k7
  have F8 := fun_mk (st := s_includes) l8 c8 k8
  have F9 := fun_mk (st := s__law_source) l9 c9 k9
  have F10 := fun_mk (st := s__law_draw) l10 c10 k10
  have F11 := fun_mk (st := s__law_pool) l11 c11 k11
  have F12 := fun_mk (st := s__law_rule) l12 c12 k12
  have F13 := fun_mk (st := s__law_any) l13 c13 k13
  have F14 := fun_mk (st := s__law_bent) l14 c14 k14
  have F15 := fun_mk (st := s__law_whole) l15 c15 k15
  have F16 := fun_mk (st := s__law_is_name) l16 c16 k16
  have F17 := fun_mk (st := s__law_is_month) l17 c17 k17
  have F18 := fun_mk (st := s__law_is_year) l18 c18 k18
  have F19 := fun_mk (st := s__law_is_rule) l19 c19 k19
  have F20 := fun_mk (st := s__law_is_date) l20 c20 k20
  have F21 := fun_mk (st := s__law_due) l21 c21 k21
  have F22 := fun_mk (st := s__law_refused) l22 c22 k22
  have F23 := fun_mk (st := s_law) l23 c23 k23
  have b0 := F0.binds (ps := ["thing"]) fun _ _ _ _ _ _ us hl => match us, hl with | [_], _ => rfl
  have b1 := F1.binds (ps := ["thing"]) fun _ _ _ _ _ _ us hl => match us, hl with | [_], _ => rfl
  have b2 := F2.binds (ps := ["thing"]) fun _ _ _ _ _ _ us hl => match us, hl with | [_], _ => rfl
  have b3 := F3.binds (ps := ["thing"]) fun _ _ _ _ _ _ us hl => match us, hl with | [_], _ => rfl
  have b4 := F4.binds (ps := ["thing"]) fun _ _ _ _ _ _ us hl => match us, hl with | [_], _ => rfl
  have b5 := F5.binds (ps := ["thing"]) fun _ _ _ _ _ _ us hl => match us, hl with | [_], _ => rfl
  have b6 := F6.binds (ps := ["thing"]) fun _ _ _ _ _ _ us hl => match us, hl with | [_], _ => rfl
  have b7 := F7.binds (ps := ["rule", "date"]) fun _ _ _ _ _ _ us hl => match us, hl with | [_, _], _ => rfl
  have b8 := F8.binds (ps := ["rule", "date"]) fun _ _ _ _ _ _ us hl => match us, hl with | [_, _], _ => rfl
  have b9 := F9.binds (ps := ["_law_script", "_law_at"]) fun _ _ _ _ _ _ us hl => match us, hl with | [_, _], _ => rfl
  have b10 := F10.binds (ps := ["_law_source_here", "_law_many"]) fun _ _ _ _ _ _ us hl => match us, hl with | [_, _], _ => rfl
  have b11 := F11.binds (ps := ["_law_source_here"]) fun _ _ _ _ _ _ us hl => match us, hl with | [_], _ => rfl
  have b12 := F12.binds (ps := ["_law_source_here", "_law_pool_here", "_law_most_years", "_law_most_days"]) fun _ _ _ _ _ _ us hl => match us, hl with | [_, _, _, _], _ => rfl
  have b13 := F13.binds (ps := ["_law_source_here"]) fun _ _ _ _ _ _ us hl => match us, hl with | [_], _ => rfl
  have b14 := F14.binds (ps := ["_law_source_here", "_law_value"]) fun _ _ _ _ _ _ us hl => match us, hl with | [_, _], _ => rfl
  have b15 := F15.binds (ps := ["_law_value"]) fun _ _ _ _ _ _ us hl => match us, hl with | [_], _ => rfl
  have b16 := F16.binds (ps := ["_law_value"]) fun _ _ _ _ _ _ us hl => match us, hl with | [_], _ => rfl
  have b17 := F17.binds (ps := ["_law_value"]) fun _ _ _ _ _ _ us hl => match us, hl with | [_], _ => rfl
  have b18 := F18.binds (ps := ["_law_value"]) fun _ _ _ _ _ _ us hl => match us, hl with | [_], _ => rfl
  have b19 := F19.binds (ps := ["_law_value"]) fun _ _ _ _ _ _ us hl => match us, hl with | [_], _ => rfl
  have b20 := F20.binds (ps := ["_law_value"]) fun _ _ _ _ _ _ us hl => match us, hl with | [_], _ => rfl
  have b21 := F21.binds (ps := ["_law_plan", "_law_when"]) fun _ _ _ _ _ _ us hl => match us, hl with | [_, _], _ => rfl
  have b22 := F22.binds (ps := ["_law_plan", "_law_when"]) fun _ _ _ _ _ _ us hl => match us, hl with | [_, _], _ => rfl
  have b23 := F23.binds (ps := ["_law_script"]) fun _ _ _ _ _ _ us hl => match us, hl with | [_], _ => rfl
  have FENoRule := fun_mk (st := s_NoRule) l1ENoRule c1ENoRule k1ENoRule
  have bENoRule := FENoRule.binds (ps := ["self", "rule"]) fun _ _ _ _ _ _ us hl => match us, hl with | [_, _], _ => rfl
  exact ⟨_, fun s v => .of_eq rfl, fun base _ _ => okL ⟨_, _, F0, PySem.W.mg_of KX G a0, b0, _, _, F1, PySem.W.mg_of KX G a1, b1, _, _, F2, PySem.W.mg_of KX G a2, b2, _, _, F3, PySem.W.mg_of KX G a3, b3, _, _, F4, PySem.W.mg_of KX G a4, b4, _, _, F5, PySem.W.mg_of KX G a5, b5, _, _, F6, PySem.W.mg_of KX G a6, b6, _, _, F7, PySem.W.mg_of KX G a7, b7, ⟨fun us hl => match us, hl with | [_, _], _ => rfl, gSwap_rel⟩, _, _, F8, PySem.W.mg_of KX G a8, b8, _, _, F9, PySem.W.mg_of KX G a9, b9, _, _, F10, PySem.W.mg_of KX G a10, b10, _, _, F11, PySem.W.mg_of KX G a11, b11, _, _, F12, PySem.W.mg_of KX G a12, b12, _, _, F13, PySem.W.mg_of KX G a13, b13, _, _, F14, PySem.W.mg_of KX G a14, b14, _, _, F15, PySem.W.mg_of KX G a15, b15, _, _, F16, PySem.W.mg_of KX G a16, b16, _, _, F17, PySem.W.mg_of KX G a17, b17, _, _, F18, PySem.W.mg_of KX G a18, b18, _, _, F19, PySem.W.mg_of KX G a19, b19, _, _, F20, PySem.W.mg_of KX G a20, b20, _, _, F21, PySem.W.mg_of KX G a21, b21, _, _, F22, PySem.W.mg_of KX G a22, b22, _, _, F23, PySem.W.mg_of KX G a23, b23, PySem.W.mg_none_of KX G z0, PySem.W.mg_none_of KX G z1, PySem.W.mg_none_of KX G z2, PySem.W.mg_none_of KX G z3, PySem.W.mg_none_of KX G z4, PySem.W.mg_none_of KX G z5, PySem.W.mg_none_of KX G z6, PySem.W.mg_none_of KX G z7, PySem.W.mg_none_of KX G z8, PySem.W.mg_none_of KX G z9, PySem.W.mg_none_of KX G z10, PySem.W.mg_none_of KX G z11, PySem.W.mg_none_of KX G z12, PySem.W.mg_none_of KX G z13, PySem.W.mg_none_of KX G z14, wValueError, _, _, _, { g := PySem.W.mg_of KX G aCENoRule, o := ⟨⟨_, _, _, _, _, _, _, _, _, _, _, _, _, _, _, xLENoRule, by decide +kernel⟩, saENoRule, eCENoRule, tCENoRule, kCENoRule⟩, iC := i1ENoRule, tI := t1ENoRule, xf := ⟨gaENoRule, ggENoRule, eCENoRule, hCENoRule⟩, ec := ⟨gaENoRule, ggENoRule, eCENoRule, hCENoRule, caENoRule, xgn, xgt, moENoRule⟩, no := nfENoRule, cl := iCENoRule, te := PySem.W.exm_ref eCENoRule hCENoRule tCENoRule sCENoRule, F := FENoRule, b := bENoRule }, _, PySem.W.mg_of KX G aCENoDate, kit_base (by decide +kernel) qq_NoRule_ValueError, kit_own iCENoDate tCENoDate qq_NoRule_NoDate qn_NoRule_NoDate, ⟨_, PySem.W.mg_of KX G x0⟩, ⟨_, PySem.W.mg_of KX G x1⟩, ⟨_, PySem.W.mg_of KX G x2⟩, ⟨_, PySem.W.mg_of KX G x3⟩⟩ base⟩
end LW
open PySem PySem.W PyProof.Rows
set_option maxRecDepth 100000 in
set_option maxHeartbeats 0 in
theorem PySem.Challenge.cw_decreedays_k03_has_date_holds : PySem.Challenge.rw_decreedays_k03_has_date.Holds := by
  w_on; o_law; k_head; (case hw => w_witness2)
  k_fill
  refine DD.walkR (l := PySem.Challenge.rw_decreedays_k03_has_date) (n := 63) (k := 8) (x := "_law_script") (CX := L2.CX0) (sp := LW.spLaw) rfl (by decide) rfl ⟨rfl, by decide, by decide⟩ (fun w h Y => PySem.W.kIn_of Y) ?F (fun K _ a ns hl _ hS => ⟨a, ns, rfl, hS, hl, fun _ => rfl⟩) (fun _ _ _ _ z => z)
  case F =>
    intro w mg fa h KX G hmg
    refine' LW.mkAll (sp := LW.spLaw) KX G hmg (fun T base => LW.ok_law T) ?a0 ?l0 ?c0 ?k0 ?a1 ?l1 ?c1 ?k1 ?a2 ?l2 ?c2 ?k2 ?a3 ?l3 ?c3 ?k3 ?a4 ?l4 ?c4 ?k4 ?a5 ?l5 ?c5 ?k5 ?a6 ?l6 ?c6 ?k6 ?a7 ?l7 ?c7 ?k7 ?a8 ?l8 ?c8 ?k8 ?a9 ?l9 ?c9 ?k9 ?a10 ?l10 ?c10 ?k10 ?a11 ?l11 ?c11 ?k11 ?a12 ?l12 ?c12 ?k12 ?a13 ?l13 ?c13 ?k13 ?a14 ?l14 ?c14 ?k14 ?a15 ?l15 ?c15 ?k15 ?a16 ?l16 ?c16 ?k16 ?a17 ?l17 ?c17 ?k17 ?a18 ?l18 ?c18 ?k18 ?a19 ?l19 ?c19 ?k19 ?a20 ?l20 ?c20 ?k20 ?a21 ?l21 ?c21 ?k21 ?a22 ?l22 ?c22 ?k22 ?a23 ?l23 ?c23 ?k23 ?z0 ?z1 ?z2 ?z3 ?z4 ?z5 ?z6 ?z7 ?z8 ?z9 ?z10 ?z11 ?z12 ?z13 ?z14 ?x0 ?x1 ?x2 ?x3 ?wValueError ?xgn ?xgt ?aCENoRule ?xLENoRule ?saENoRule ?gaENoRule ?ggENoRule ?nfENoRule ?i1ENoRule ?t1ENoRule ?l1ENoRule ?c1ENoRule ?k1ENoRule ?kCENoRule ?eCENoRule ?tCENoRule ?hCENoRule ?iCENoRule ?sCENoRule ?caENoRule ?moENoRule ?aCENoDate ?iCENoDate ?tCENoDate ?qq_NoRule_ValueError ?qq_NoRule_NoDate ?qn_NoRule_NoDate
    (case a0 => k_is)
    (case l0 => k_is)
    (case c0 => k_is)
    (case k0 => k_is)
    (case a1 => k_is)
    (case l1 => k_is)
    (case c1 => k_is)
    (case k1 => k_is)
    (case a2 => k_is)
    (case l2 => k_is)
    (case c2 => k_is)
    (case k2 => k_is)
    (case a3 => k_is)
    (case l3 => k_is)
    (case c3 => k_is)
    (case k3 => k_is)
    (case a4 => k_is)
    (case l4 => k_is)
    (case c4 => k_is)
    (case k4 => k_is)
    (case a5 => k_is)
    (case l5 => k_is)
    (case c5 => k_is)
    (case k5 => k_is)
    (case a6 => k_is)
    (case l6 => k_is)
    (case c6 => k_is)
    (case k6 => k_is)
    (case a7 => k_is)
    (case l7 => k_is)
    (case c7 => k_is)
    (case k7 => k_is)
    (case a8 => k_is)
    (case l8 => k_is)
    (case c8 => k_is)
    (case k8 => k_is)
    (case a9 => k_is)
    (case l9 => k_is)
    (case c9 => k_is)
    (case k9 => k_is)
    (case a10 => k_is)
    (case l10 => k_is)
    (case c10 => k_is)
    (case k10 => k_is)
    (case a11 => k_is)
    (case l11 => k_is)
    (case c11 => k_is)
    (case k11 => k_is)
    (case a12 => k_is)
    (case l12 => k_is)
    (case c12 => k_is)
    (case k12 => k_is)
    (case a13 => k_is)
    (case l13 => k_is)
    (case c13 => k_is)
    (case k13 => k_is)
    (case a14 => k_is)
    (case l14 => k_is)
    (case c14 => k_is)
    (case k14 => k_is)
    (case a15 => k_is)
    (case l15 => k_is)
    (case c15 => k_is)
    (case k15 => k_is)
    (case a16 => k_is)
    (case l16 => k_is)
    (case c16 => k_is)
    (case k16 => k_is)
    (case a17 => k_is)
    (case l17 => k_is)
    (case c17 => k_is)
    (case k17 => k_is)
    (case a18 => k_is)
    (case l18 => k_is)
    (case c18 => k_is)
    (case k18 => k_is)
    (case a19 => k_is)
    (case l19 => k_is)
    (case c19 => k_is)
    (case k19 => k_is)
    (case a20 => k_is)
    (case l20 => k_is)
    (case c20 => k_is)
    (case k20 => k_is)
    (case a21 => k_is)
    (case l21 => k_is)
    (case c21 => k_is)
    (case k21 => k_is)
    (case a22 => k_is)
    (case l22 => k_is)
    (case c22 => k_is)
    (case k22 => k_is)
    (case a23 => k_is)
    (case l23 => k_is)
    (case c23 => k_is)
    (case k23 => k_is)
    (case z0 => k_is)
    (case z1 => k_is)
    (case z2 => k_is)
    (case z3 => k_is)
    (case z4 => k_is)
    (case z5 => k_is)
    (case z6 => k_is)
    (case z7 => k_is)
    (case z8 => k_is)
    (case z9 => k_is)
    (case z10 => k_is)
    (case z11 => k_is)
    (case z12 => k_is)
    (case z13 => k_is)
    (case z14 => k_is)
    (case x0 => k_is)
    (case x1 => k_is)
    (case x2 => k_is)
    (case x3 => k_is)
    (case wValueError => k_is)
    (case xgn => k_is)
    (case xgt => k_is)
    (case aCENoRule => k_is)
    (case xLENoRule => k_is)
    (case saENoRule => k_is)
    (case gaENoRule => k_is)
    (case ggENoRule => k_is)
    (case nfENoRule => k_is)
    (case i1ENoRule => k_is)
    (case t1ENoRule => k_is)
    (case l1ENoRule => k_is)
    (case c1ENoRule => k_is)
    (case k1ENoRule => k_is)
    (case kCENoRule => k_is)
    (case eCENoRule => k_is)
    (case tCENoRule => k_is)
    (case hCENoRule => k_is)
    (case iCENoRule => k_is)
    (case sCENoRule => first | k_is | rfl | decide)
    (case caENoRule => k_is)
    (case moENoRule => k_is)
    (case aCENoDate => k_is)
    (case iCENoDate => k_is)
    (case tCENoDate => k_is)
    (case qq_NoRule_ValueError => k_is)
    (case qq_NoRule_NoDate => k_is)
    (case qn_NoRule_NoDate => first | k_is | rfl | decide)
#print axioms PySem.Challenge.cw_decreedays_k03_has_date_holds
