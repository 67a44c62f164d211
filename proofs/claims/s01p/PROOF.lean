import PyProof.Rows.All
import Wide.All
import OpenK.AllK
import Wide.FinOn
import PyProof.EqAt
import PyProof.EqKinds
import PyProof.TupleCall
import KE.BitLaws
import KE.KDictSum
import Open.SpecLaws
import KE.OsHead
import KE.OsGo
import PySem.Challenge.RW_houseturns_s01_answers
set_option Elab.async false
set_option linter.all false
set_option maxRecDepth 100000
set_option maxHeartbeats 4000000
namespace Hz
open PySem PySem.W PyProof.Rows
noncomputable def z2e (tb:String→Option Builtin) (p:Program) (w:World) (n₀ : Nat) (ann:Option Value):Nat→SharedT→Thread→Option SharedT
 | 0,_,_=>none
 | n + 1,s,t=>match through t with
  | true=>some s
  | false=>match stepOk n₀ ann t with
   | false=>none
   | true=>match stepT (denote tb) p w s t with
    | some (s',t')=>z2e tb p w n₀ ann n s' t'
    | none=>none
theorem zbg {tb:String→Option Builtin} {p:Program} {w:World} {n₀ : Nat} {ann:Option Value}:∀ {n:Nat} {s s':SharedT} {t:Thread},z2e tb p w n₀ ann n s t=some s'→topRun tb p w n₀ ann n s.abs t=some s'.abs
 | 0,_,_,_,h=>by cases h
 | n + 1,s,s',t,h=>by
  unfold z2e at h
  unfold topRun
  cases he:through t with
  | true=>rw [he] at h;cases h;rfl
  | false=>
   rw [he] at h
   cases hk:stepOk n₀ ann t with
   | false=>rw [hk] at h;cases h
   | true=>
    rw [hk] at h
    cases hs:stepT (denote tb) p w s t with
    | none=>rw [hs] at h;cases h
    | some r=>obtain ⟨s₂,t₂⟩:=r;rw [hs] at h;rw [stepT_spec hs];exact zbg h
noncomputable def bt:List Obj→Nat→BT→Option BT
 | [],_,t=>some t
 | o :: l,n,t=>match ((t.ins n o).get n).isSome with
  | true=>bt l (n + 1) (t.ins n o)
  | false=>none
theorem z16 {life:Life}:∀ {l:List Obj} {n:Nat} {t t':BT} {a:Array Obj},absHeap t n life=⟨a,life⟩→bt l n t=some t'→absHeap t' (n + l.length) life=⟨a ++ l.toArray,life⟩
 | [],n,t,t',a,h,e=>by cases e;simpa using h
 | o :: l,n,t,t',a,h,e=>by
  unfold bt at e
  cases hk:((t.ins n o).get n).isSome with
  | false=>rw [hk] at e;cases e
  | true=>
   rw [hk] at e
   have h2:=absHeap_ins (life:=life) hk
   rw [h] at h2
   have h3:=z16 (a:=a.push o) h2 e
   have h4:n + 1 + l.length=n + (o :: l).length:=by simp [List.length_cons];omega
   rw [h4] at h3
   rw [h3]
   simp
noncomputable def toT (s:Shared):Option SharedT:=(bt s.heap.objs.toList 0 .nil).map fun t=>⟨t,s.heap.objs.toList.length,s.heap.life,s.gens,s.drawn,s.toks,s.os⟩
theorem zkI {s:Shared} {z:SharedT} (h:toT s=some z):z.abs=s:=by
 obtain ⟨⟨objs,life⟩,gens,drawn,toks,os⟩:=s
 unfold toT at h
 obtain ⟨t,e,rfl⟩:=Option.map_eq_some_iff.mp h
 have:=z16 (life:=life) (a:=#[]) rfl e
 unfold SharedT.abs
 simp only [Nat.zero_add] at this
 simp only [this]
 simp
noncomputable def look (tb:String→Option Builtin) (p:Program) (N:Nat) {β : Type} (g:Shared→β) (w:World):Option (Bool × Bool × β) :=
 (fencedOpening tb p w N).bind fun s₀=>(toT s₀).bind fun z=>(z2e tb p w s₀.heap.objs.size (s₀.heap.nsMap mainGlobals "__annotations__") N z (topStub p)).map fun y=>
  (s₀.heap.isNs mainGlobals && s₀.gens.size == 0,staticsOk (importedModules p.main.body) s₀.heap y.abs.heap && namesBound p y.abs.heap && gensDone y.abs && laidKept s₀.heap y.abs.heap,g y.abs)
theorem JV {tb:String→Option Builtin} {p:Program} {N:Nat} {β : Type} {g:Shared→β} {w:World} {v : β} (h:look tb p N g w=some (true,true,v)):(openEnds tb p w N).map g=some v:=by
 unfold look at h
 obtain ⟨s₀,h0,h⟩:=Option.bind_eq_some_iff.mp h
 obtain ⟨z,h1,h⟩:=Option.bind_eq_some_iff.mp h
 obtain ⟨y,h2,h⟩:=Option.map_eq_some_iff.mp h
 have e1:=(Prod.mk.inj h).1
 have e2:=(Prod.mk.inj (Prod.mk.inj h).2).1
 have e3:=(Prod.mk.inj (Prod.mk.inj h).2).2
 have h3:=zbg h2
 rw [zkI h1] at h3
 unfold openEnds
 rw [h0]
 show Option.map g (topFrom tb p w N s₀)=_
 unfold topFrom
 rw [e1]
 show Option.map g ((topRun tb p w s₀.heap.objs.size (s₀.heap.nsMap mainGlobals "__annotations__") N s₀ (topStub p)).bind _)=_
 rw [h3]
 show Option.map g (match staticsOk (importedModules p.main.body) s₀.heap y.abs.heap && namesBound p y.abs.heap && gensDone y.abs && laidKept s₀.heap y.abs.heap with | true=>some y.abs | false=>none)=_
 rw [e2,← e3]
 rfl
theorem zg5 {α β γ : Type} {x:Option α} {f : α→β} {g : α→γ} {a : β} {b : γ} (h:x.map f=some a) (k:x.map g=some b):x.map (fun s=>(f s,g s))=some (a,b):=by
 cases x with
 | none=>cases h
 | some s=>cases h;cases k;rfl
end Hz
namespace Hz
open PySem PySem.W PyProof.Rows
abbrev pw:Program:=PySem.Challenge.pw_houseturns_s01_answers
noncomputable def q:Program:=PySem.W.view PySem.Challenge.pw_houseturns_s01_answers ((List.range 124).filter fun i=>!([0,11,39,42,53,76,94,101].contains i))
noncomputable def Xt (s:Shared):Bool:=xlAt q [] s && recOk [] s
noncomputable def la (w:World):=look treeTable PySem.Challenge.pw_houseturns_s01_answers 7408 (fun s=>(seen ((recsOf q).map (·.name)) (ownsOf q) [] { s with gens:=#[] },s.heap.bltView)) w
noncomputable def ga:=some (true,true,(expectedOf q,bltViewBooted))
theorem zfb : @la=la:=rfl
theorem zdQ:ga=ga:=rfl
lay_quick Hz.la Hz.ga
name_quick xla for Hz.la by Hz.zfb
name_quick xga for Hz.ga by Hz.zdQ
theorem ka (w:World):PySem.W.Fast.xla w=PySem.W.Fast.xga:=by kernel_rfl
theorem zfa (w:World):la w=ga:=by rw [PySem.W.Fast.xla_eq,PySem.W.Fast.xga_eq];exact ka w
end Hz
namespace Hz
open PySem PySem.W PyProof.Rows
noncomputable def lb (w:World):=look treeTable PySem.Challenge.pw_houseturns_s01_answers 7408 (fun s=>s.heap.keysOk (looseW q []) ((recsOf q).map (·.name)) ((litsOf q).map (·.1)) ((clssOf q (looseW q [])).map (·.name))) w
theorem zfe : @lb=lb:=rfl
lay_quick Hz.lb
name_quick xlb for Hz.lb by Hz.zfe
theorem kb (w:World):PySem.W.Fast.xlb w=some (true,true,true):=by kernel_rfl
theorem zfd (w:World):lb w=some (true,true,true):=by rw [PySem.W.Fast.xlb_eq];exact kb w
noncomputable def lh (w:World):=look treeTable PySem.Challenge.pw_houseturns_s01_answers 7408 (fun s=>s.heap.accountedOkI (importedModules PySem.Challenge.pw_houseturns_s01_answers.main.body) && (s.heap.isNs mainGlobals && s.heap.isNs builtinsNs && tablesOk q s.heap && Xt s && s.gens.size == 0)) w
theorem zfl : @lh=lh:=rfl
lay_quick Hz.lh
name_quick xlh for Hz.lh by Hz.zfl
theorem kh (w:World):PySem.W.Fast.xlh w=some (true,true,true):=by kernel_rfl
theorem zfk (w:World):lh w=some (true,true,true):=by rw [PySem.W.Fast.xlh_eq];exact kh w
noncomputable def li (w:World):=look treeTable PySem.Challenge.pw_houseturns_s01_answers 7408 (fun s=>tabsOk q s) w
theorem zfn : @li=li:=rfl
lay_quick Hz.li
name_quick xli for Hz.li by Hz.zfn
theorem ki (w:World):PySem.W.Fast.xli w=some (true,true,true):=by kernel_rfl
theorem zfm (w:World):li w=some (true,true,true):=by rw [PySem.W.Fast.xli_eq];exact ki w
end Hz
namespace Hz
open PySem PySem.W PyProof.Rows
noncomputable def lc (w:World):=look treeTable PySem.Challenge.pw_houseturns_s01_answers 7408 (fun s=>(pinSeenD q (drecsOf q) s,plainSeenE q (looseW q []) s,plainSeenD q [] s,wideSeen q s,clsSeenW q [] s)) w
noncomputable def gc:=some (true,true,(pinGoodD (drecsOf q),plainGoodE q (looseW q []),plainGoodD q [],wideGood q,clsGoodW q []))
theorem zfi : @lc=lc:=rfl
theorem zdS:gc=gc:=rfl
lay_quick Hz.lc Hz.gc
name_quick xlc for Hz.lc by Hz.zfi
name_quick xgc for Hz.gc by Hz.zdS
theorem kc (w:World):PySem.W.Fast.xlc w=PySem.W.Fast.xgc:=by kernel_rfl
theorem zfh (w:World):lc w=gc:=by rw [PySem.W.Fast.xlc_eq,PySem.W.Fast.xgc_eq];exact kc w
end Hz
namespace Hz
open PySem PySem.W PyProof.Rows
theorem zg4 {α A B E F G H I:Type} {x:Option α} {a : α→A} {b : α→B} {c c1 c2 d : α→Bool} {e : α→E} {f : α→F} {g : α→G} {h : α→H} {i : α→I} {va vb ve vf vg vh vi}
  (h1:x.map (fun s=>(a s,b s))=some (va,vb)) (k1:x.map c1=some true) (k2:x.map c2=some true) (hc:∀ s,c1 s=true→c2 s=true→c s=true)
  (h2:x.map d=some true) (h3:x.map (fun s=>(e s,f s,g s,h s,i s))=some (ve,vf,vg,vh,vi)) :
  x.map (fun s=>(a s,b s,c s,d s,e s,f s,g s,h s,i s))=some (va,vb,true,true,ve,vf,vg,vh,vi):=by
 cases x with
 | none=>cases h1
 | some s=>
  have e1:=hc s (Option.some.inj k1) (Option.some.inj k2)
  have e2:d s=true:=Option.some.inj h2
  cases h1;cases h3
  show some (_,_,c s,d s,_)=_
  rw [e1,e2]
theorem zc1 {k a n1 n2 t X g:Bool} (h1:k=true) (h3:(a && (n1 && n2 && t && X && g))=true):(k && a && n1 && n2 && t && X && g)=true:=by
 subst h1
 have z:=Bool.and_eq_true_iff.mp h3
 have h2:=z.1
 subst h2
 simpa using z.2
theorem zkj (w:World):(openEnds treeTable PySem.Challenge.pw_houseturns_s01_answers w 7408).map (openSeen q [] (importedModules PySem.Challenge.pw_houseturns_s01_answers.main.body) Xt true)=some (openGood q []) :=
 zg4 (JV (zfa w)) (JV (zfd w)) (JV (zfk w)) (fun s x y=>zc1 x y) (JV (zfm w)) (JV (zfh w))
end Hz
namespace Hz
open PySem PySem.W PyProof.Rows
noncomputable def tp (i:Nat):Stmt:=PySem.Challenge.pw_houseturns_s01_answers.main.body.getD i (.Pass ⟨0,0,0,0⟩)
noncomputable def ic (s:Stmt) (j:Nat):Stmt:=match s with
 | .ClassDef _ _ _ body _ _ _ _ _ _ _=>body.getD j (.Pass ⟨0,0,0,0⟩)
 | _=>.Pass ⟨0,0,0,0⟩
noncomputable def dA (s:Stmt):Arguments:=match s with
 | .FunctionDef _ a _ _ _ _ _ _ _ _=>a
 | _=>{ posonlyargs:=[],args:=[],vararg:=none,kwonlyargs:=[],kw_defaults:=[],kwarg:=none,defaults:=[] }
noncomputable def dB (s:Stmt):List Stmt:=match s with
 | .FunctionDef _ _ b _ _ _ _ _ _ _=>b
 | _=>[]
noncomputable def dS (s:Stmt):Scope:=match s with
 | .FunctionDef _ _ _ _ _ _ sc _ _ _=>sc
 | _=>{ kind:=.function,names:=[],isGenerator:=false,isCoroutine:=false }
noncomputable def nth {α : Type}:List α→Nat→Option α
 | [],_=>none
 | x :: _,0=>some x
 | _ :: l,n + 1=>nth l n
theorem z0J {α β : Type} {f : α→β}:∀ {l:List α} {i:Nat} {x : α},nth l i=some x→nth (l.map f) i=some (f x)
 | _ :: _,0,_,e=>by cases e;rfl
 | _ :: l,n + 1,_,e=>z0J (l:=l) (i:=n) e
theorem j7 {α : Type} {p : α→Bool}:∀ {l:List α} {i:Nat} {x : α},l.all p=true→nth l i=some x→p x=true
 | _ :: _,0,_,h,e=>by cases e;exact (Bool.and_eq_true_iff.mp h).1
 | _ :: l,n + 1,_,h,e=>j7 (l:=l) (i:=n) (Bool.and_eq_true_iff.mp h).2 e
noncomputable def fr (as:List Addr) (h:Heap):Frag:=as.filterMap fun a=>(h.get? a).map fun o=>(a,o)
theorem z3y {h:Heap}:∀ {as:List Addr},(fr as h).In h
 | [],a,o,e=>by cases e
 | b :: l,a,o,e=>by
  unfold fr at e
  rw [List.filterMap_cons] at e
  cases q:h.get? b with
  | none=>rw [q] at e;exact z3y (as:=l) a o e
  | some x=>
   rw [q] at e
   simp only [Option.map_some,List.lookup] at e
   split at e
   ·rename_i r;cases e;rw [beq_iff_eq.mp r];exact q
   ·exact z3y (as:=l) a o e
noncomputable def ad (K:Frag) (x:Str):Addr:=match nsIn K mainGlobals x with | some (some (.ref a))=>a | _=>0
noncomputable def mt (K:Frag) (c:Addr) (x:Str):Addr:=match findIn K (.ref c) x with | some (some (.ref a))=>a | _=>0
noncomputable def isR (K:Frag) (x:Str):Bool:=match nsIn K mainGlobals x with | some (some (.ref _))=>true | _=>false
theorem z3Y {K:Frag} {x:Str} (e:isR K x=true):nsIn K mainGlobals x=some (some (.ref (ad K x))):=by
 unfold isR at e
 unfold ad
 split at e
 ·rename_i h;rw [h]
 ·cases e
noncomputable def isM (K:Frag) (c:Addr) (x:Str):Bool:=match findIn K (.ref c) x with | some (some (.ref _))=>true | _=>false
theorem zeZ {K:Frag} {c:Addr} {x:Str} (e:isM K c x=true):findIn K (.ref c) x=some (some (.ref (mt K c x))):=by
 unfold isM at e
 unfold mt
 split at e
 ·rename_i h;rw [h]
 ·cases e
noncomputable def okG (K:Frag) (f:Addr) (q:Str):Bool:=isFn K (.ref f) && keepIn K (.ref f) && (match K.lookup f with | some ⟨_,_,.func fd,_⟩=>codeIn K fd.code q | _=>false)
noncomputable def noA (K:Frag) (c:Addr) (x:Str):Bool:=match findIn K (.ref c) x with | some none=>true | _=>false
noncomputable def noG (K:Frag) (x:Str):Bool:=match nsIn K mainGlobals x with | some none=>true | _=>false
noncomputable def isI (K:Frag) (x:Str) (i:Int):Bool:=match nsIn K mainGlobals x with | some (some (.int j _))=>j == i | _=>false
noncomputable def z3W:List Value→List Int→Bool
 | [],[]=>true
 | .int j _ :: l,i :: m=>j == i && z3W l m
 | _,_=>false
noncomputable def isT (K:Frag) (f:Addr) (is:List Int):Bool:=match K.lookup f with | some ⟨.type n,_,.seq a _,_⟩=>n == "tuple" && z3W a.toList is | _=>false
noncomputable def sa (K:Frag) (c:Addr):Bool:=match findIn K (.ref c) "__setattr__" with | some (some (.builtin n))=>n == "object.__setattr__" | _=>false
noncomputable def okC (K:Frag) (r:Str × List Str):Bool:=isR K r.1 && (plainGet K (ad K r.1) Str.empty && (hasDictIn K (ad K r.1) && (plainOver K (ad K r.1) && (sa K (ad K r.1) && (makesIn K (ad K r.1) && (keepIn K (.ref (ad K r.1)) && r.2.all (noA K (ad K r.1))))))))
noncomputable def okF (K:Frag) (r:Str × Str × Stmt):Bool:=isR K r.1 && okG K (ad K r.1) r.2.1
noncomputable def okM (K:Frag) (r:Str × Str × Str × Stmt):Bool:=isM K (ad K r.1) r.2.1 && okG K (mt K (ad K r.1) r.2.1) r.2.2.1
abbrev FS:=Option (Str × Str × Arguments × FuncBody × Scope × Addr × List (Str × Addr) × Value × Addr)
noncomputable def fnS (K:Frag) (f:Addr):FS:=match K.lookup f with | some ⟨_,_,.func d,_⟩=>some (d.name,d.qualname,d.params,d.body,d.scope,d.globals,d.closure,d.defaults,d.builtins) | _=>none
noncomputable def fnE (x q:Str) (s:Stmt):FS:=some (x,q,dA s,.stmts (dB s),dS s,mainGlobals,[],.none,builtinsNs)
noncomputable def cR:List (Str × List Str):=[("Run",["base", "total", "assigned", "count"]),("Contract",["number", "kind", "underlying", "strike", "multiple", "expiry", "over", "held", "run", "exercised"]),("Trade",["contract", "buyer", "seller", "lots", "price", "buyer_agreed", "seller_agreed", "taker", "offered_side", "exercised_before"]),("House",["turn", "prices", "contracts", "cash", "trades", "spent"])]
noncomputable def fR:List (Str × Str × Stmt):=("empty_run", "empty_run",tp 3) :: ("run_begun_anew", "run_begun_anew",tp 4) :: ("deadline", "deadline",tp 5) :: ("is_due", "is_due",tp 6) :: ("next_assigned", "next_assigned",tp 7) :: ("assign", "assign",tp 8) :: ("copied_run", "copied_run",tp 9) :: ("would_be_assigned", "would_be_assigned",tp 10) :: ("is_price", "is_price",tp 20) :: ("goes_beyond", "goes_beyond",tp 21) :: ("lot_pays", "lot_pays",tp 22) :: ("exercise_refusal", "exercise_refusal",tp 40) :: ("exercise", "exercise",tp 41) :: ("new_account", "new_account",tp 48) :: ("new_underlying", "new_underlying",tp 49) :: ("contract_in_range", "contract_in_range",tp 50) :: ("contract_refusal", "contract_refusal",tp 51) :: ("new_contract", "new_contract",tp 52) :: ("do_side", "do_side",tp 59) :: ("begin_run_anew", "begin_run_anew",tp 60) :: ("exercised_since", "exercised_since",tp 61) :: ("trade_in_range", "trade_in_range",tp 62) :: ("trade_refusal", "trade_refusal",tp 63) :: ("trade", "trade",tp 64) :: ("is_last_to_agree", "is_last_to_agree",tp 65) :: ("agree_refusal", "agree_refusal",tp 66) :: ("undo", "undo",tp 67) :: ("agree", "agree",tp 68) :: ("give_refusal", "give_refusal",tp 69) :: ("give", "give",tp 70) :: ("offered_account", "offered_account",tp 71) :: ("offered_lots", "offered_lots",tp 72) :: ("take_refusal", "take_refusal",tp 73) :: ("hand_over", "hand_over",tp 74) :: ("take", "take",tp 75) :: ("as_number", "as_number",tp 80) :: ("tell_position", "tell_position",tp 81) :: ("lots_that_are_not_0", "lots_that_are_not_0",tp 82) :: ("tell_positions", "tell_positions",tp 83) :: ("tell_cash", "tell_cash",tp 84) :: ("tell_run", "tell_run",tp 85) :: ("would_assign_refusal", "would_assign_refusal",tp 86) :: ("tell_would_assign", "tell_would_assign",tp 87) :: ("tell_open_lots", "tell_open_lots",tp 88) :: ("offer_told", "offer_told",tp 89) :: ("trade_told", "trade_told",tp 90) :: ("tell_trades", "tell_trades",tp 91) :: ("contract_told", "contract_told",tp 92) :: ("tell_house", "tell_house",tp 93) :: ("turn_refusal", "turn_refusal",tp 95) :: ("expires_now", "expires_now",tp 96) :: ("lot_gains", "lot_gains",tp 97) :: ("growths", "growths",tp 98) :: ("close_expired", "close_expired",tp 99) :: ("end_turn", "end_turn",tp 100) :: ("answer_change", "answer_change",tp 119) :: ("answer_question", "answer_question",tp 120) :: ("answer_call", "answer_call",tp 121) :: ("answer_calls", "answer_calls",tp 122) :: ("answers", "answers",tp 123) :: []
noncomputable def mR:List (Str × Str × Str × Stmt):=("Run", "__init__", "Run.__init__",ic (tp 2) 0) :: ("Contract", "__init__", "Contract.__init__",ic (tp 17) 0) :: ("Contract", "lots_of", "Contract.lots_of",ic (tp 17) 1) :: ("Trade", "__init__", "Trade.__init__",ic (tp 18) 0) :: ("House", "__init__", "House.__init__",ic (tp 19) 0) :: ("House", "has_account", "House.has_account",ic (tp 19) 1) :: ("House", "has_underlying", "House.has_underlying",ic (tp 19) 2) :: ("House", "has_contract", "House.has_contract",ic (tp 19) 3) :: ("House", "price_of", "House.price_of",ic (tp 19) 4) :: ("House", "move", "House.move",ic (tp 19) 5) :: []
noncomputable def iR:List (Str × Int):=("MOST_ASSIGNED",1000) :: ("FUTURE",0) :: ("CALL",1) :: ("PUT",2) :: ("MOST_PRICE",1000000) :: ("MOST_HELD",100000) :: ("ACCEPTED",0) :: ("OUT_OF_RANGE",-1) :: ("UNKNOWN",-2) :: ("CONTRACT_OVER",-3) :: ("UNFIT",-4) :: ("KEY_SPENT",-5) :: ("NO_TRADE",-6) :: ("TOO_MANY_LOTS",-7) :: ("FULL",-8) :: ("TOO_FEW_LOTS",-9) :: ("SAME_ACCOUNT",-10) :: ("EXERCISED_SINCE",-11) :: ("NOT_A_SIDE",-12) :: ("NOTHING_OFFERED",-13) :: ("PAYS_NOTHING",-14) :: ("WRONG_PRICES",-15) :: ("MOST_ACCOUNTS",12) :: ("MOST_UNDERLYINGS",4) :: ("MOST_CONTRACTS",12) :: ("MOST_MULTIPLE",1000) :: ("MOST_EXPIRY",1000000) :: ("MOST_KEY",1000000000) :: ("MOST_LOTS",1000) :: ("MOST_SPENT",60) :: ("BUYER_SIDE",0) :: ("SELLER_SIDE",1) :: ("NOTHING_IS_OFFERED",0) :: ("BUYER_IS_OFFERED",1) :: ("SELLER_IS_OFFERED",2) :: ("ACCOUNT",0) :: ("UNDER",1) :: ("CONTRACT",2) :: ("TRADE",3) :: ("AGREE",4) :: ("GIVE",5) :: ("TAKE",6) :: ("EXERCISE",7) :: ("TURN",8) :: ("POSITION",9) :: ("POSITIONS",10) :: ("CASH",11) :: ("RUN",12) :: ("WOULD_ASSIGN",13) :: ("OPEN_LOTS",14) :: ("TRADES",15) :: []
noncomputable def bR:List Str:=["abs", "dict", "len", "list", "max", "range", "sorted", "sum", "zip"]
noncomputable def tR:List (Str × List Int):=[("WIDTHS",[0,1,5,6,2,3,1,3,0,2,1,1,1,2,1,0,0])]
noncomputable def yD (K:Frag):Bool:=cR.all (okC K) && (fR.all (okF K) && (mR.all (okM K) && (iR.all (fun r=>isI K r.1 r.2) && (bR.all (noG K) && tR.all (fun r=>isR K r.1 && isT K (ad K r.1) r.2)))))
noncomputable def JP (K:Frag):List FS × List FS:=(fR.map fun r=>fnS K (ad K r.1),mR.map fun r=>fnS K (mt K (ad K r.1) r.2.1))
noncomputable def YV:List FS × List FS:=(fR.map fun r=>fnE r.1 r.2.1 r.2.2,mR.map fun r=>fnE r.2.1 r.2.2.1 r.2.2.2)
noncomputable def as:List Addr:=3 :: 31 :: 115 :: 136 :: 192 :: 30 :: 114 :: 135 :: 191 :: 522 :: 42 :: 49 :: 56 :: 63 :: 70 :: 77 :: 84 :: 91 :: 203 :: 210 :: 217 :: 224 :: 231 :: 238 :: 245 :: 252 :: 259 :: 266 :: 273 :: 280 :: 287 :: 294 :: 301 :: 308 :: 315 :: 322 :: 329 :: 336 :: 343 :: 350 :: 357 :: 364 :: 371 :: 378 :: 385 :: 392 :: 399 :: 406 :: 413 :: 420 :: 427 :: 434 :: 441 :: 448 :: 455 :: 462 :: 469 :: 476 :: 483 :: 490 :: 497 :: 504 :: 509 :: 516 :: 521 :: 529 :: 536 :: 543 :: 550 :: 557 :: 28 :: 105 :: 112 :: 133 :: 154 :: 161 :: 168 :: 175 :: 182 :: 189 :: 41 :: 48 :: 55 :: 62 :: 69 :: 76 :: 83 :: 90 :: 202 :: 209 :: 216 :: 223 :: 230 :: 237 :: 244 :: 251 :: 258 :: 265 :: 272 :: 279 :: 286 :: 293 :: 300 :: 307 :: 314 :: 321 :: 328 :: 335 :: 342 :: 349 :: 356 :: 363 :: 370 :: 377 :: 384 :: 391 :: 398 :: 405 :: 412 :: 419 :: 426 :: 433 :: 440 :: 447 :: 454 :: 461 :: 468 :: 475 :: 482 :: 489 :: 496 :: 503 :: 508 :: 515 :: 520 :: 528 :: 535 :: 542 :: 549 :: 556 :: 27 :: 104 :: 111 :: 132 :: 153 :: 160 :: 167 :: 174 :: 181 :: 188 :: []
noncomputable def lk (w:World):=look treeTable PySem.Challenge.pw_houseturns_s01_answers 7408 (fun s=>(yD (fr as s.heap),JP (fr as s.heap))) w
noncomputable def gk:=some (true,true,true,YV)
theorem zfR : @lk=lk:=rfl
theorem zdX:gk=gk:=rfl
lay_quick Hz.lk Hz.gk
name_quick xlk for Hz.lk by Hz.zfR
name_quick xgk for Hz.gk by Hz.zdX
theorem kk (w:World):PySem.W.Fast.xlk w=PySem.W.Fast.xgk:=by kernel_rfl
theorem zfQ (w:World):lk w=gk:=by rw [PySem.W.Fast.xlk_eq,PySem.W.Fast.xgk_eq];exact kk w
noncomputable def Yf (s:Shared):Bool × List FS × List FS:=(yD (fr as s.heap),JP (fr as s.heap))
noncomputable def YP (h:Heap):Prop:=∃ K:Frag,K.In h∧yD K=true∧JP K=YV
theorem left (w:World):(openEnds treeTable PySem.Challenge.pw_houseturns_s01_answers w 7408).map (fun s=>(openSeen q [] (importedModules PySem.Challenge.pw_houseturns_s01_answers.main.body) Xt true s,Yf s))=some (openGood q [],true,YV) :=
 zg5 (zkj w) (JV (zfQ w))
theorem yp {s:Shared} (e:Yf s=(true,YV)):YP s.heap:=⟨fr as s.heap,z3y,(Prod.mk.inj e).1,(Prod.mk.inj e).2⟩
theorem zmm {h h':Heap} (y:YP h) (k:∀ b o,h.get? b=some o→h'.get? b=some o):YP h':=match y with | ⟨K,a,b⟩=>⟨K,a.keeps k,b⟩
end Hz
namespace Hz
open PySem PySem.W PyProof.Rows
noncomputable def lv:=PySem.Challenge.rw_houseturns_s01_answers.wellSaid
noncomputable def lt:=PySem.Challenge.pw_houseturns_s01_answers.tablesWhole
theorem zfY:lv=lv:=rfl
theorem zfX:lt=lt:=rfl
lay_quick Hz.lv Hz.lt
name_quick xlv for Hz.lv by Hz.zfY
name_quick xlt for Hz.lt by Hz.zfX
theorem kv:PySem.W.Fast.xlv=true:=by kernel_rfl
theorem z7q:lv=true:=by rw [PySem.W.Fast.xlv_eq];exact kv
theorem kt:PySem.W.Fast.xlt=true:=by kernel_rfl
theorem zfW:lt=true:=by rw [PySem.W.Fast.xlt_eq];exact kt
theorem zcr (call:∀ d:DefRec,d.params.defaults=[]→d.name = "answers"→WalkOS q [] (XL q []) (fun _ h=>YP h) PySem.Challenge.rw_houseturns_s01_answers d [] (fun f vs=>PySem.call f vs)):PySem.Challenge.rw_houseturns_s01_answers.Holds :=
 holds_os (q:=q) (loose:=[]) (Xt:=Xt) (XP:=XL q []) (Yf:=Yf) (Ya:=fun _=>(true,YV)) (YP:=fun _ h=>YP h) (N:=7408) left (fun _ _ e=>yp e) (fun _ _ _ y k=>zmm y k) (fun s e=>xl_of s (Bool.and_eq_true_iff.mp e).1) XL.keeps (by rfl) (by rfl) (by rfl) (fun s e=>recFacts_of (Bool.and_eq_true_iff.mp e).2) os_shapes z7q (by decide +kernel) ⟨rfl,rfl,rfl,rfl,rfl,zfW⟩ ⟨[.list [.int 0]],by decide +kernel,by decide +kernel⟩ (call _ rfl rfl)
end Hz
section
namespace L2
open PySem PySem.Spec PyProof.Rows
abbrev Key:=Sum Int Str
def Y9:Key→Value→Bool
 | .inl k,v=>Value.isInt k v
 | .inr x,v=>Value.isStrOf x v
def zf2 (w:World):Key→Int
 | .inl k=>hashInt k
 | .inr x=>hashStr w x
theorem ZV:∀ {k:Key} {v:Value},Y9 k v=true→(∃ i t,k=Sum.inl i∧v=Value.int i t)∨(∃ x t,k=Sum.inr x∧v=Value.str x t)
 | .inl i,v,h=>by
  obtain ⟨t,e⟩:=Value.isInt_shape (k:=i) (v:=v) h
  exact .inl ⟨i,t,rfl,e⟩
 | .inr x,v,h=>by
  obtain ⟨t,e⟩:=Value.isStrOf_shape (x:=x) (v:=v) h
  exact .inr ⟨x,t,rfl,e⟩
theorem zf3 (i:Int) (t:Tok):Y9 (.inl i) (.int i t)=true:=by simp [Y9,Value.isInt]
theorem zf4 (x:Str) (t:Tok):Y9 (.inr x) (.str x t)=true:=by simp [Y9,Value.isStrOf]
theorem zf5 (a b:Int):decide ((Sum.inl a:Key)=Sum.inl b)=(a == b):=by
 by_cases e:a=b
 ·subst e;simp
 ·have h:¬ (Sum.inl a:Key)=Sum.inl b:=fun q=>e (Sum.inl.inj q)
  rw [decide_eq_false h]
  exact (beq_eq_false_iff_ne.mpr e).symm
theorem zf8 (a b:Str):decide ((Sum.inr a:Key)=Sum.inr b)=decide (a=b):=by
 by_cases e:a=b
 ·subst e;simp
 ·have h:¬ (Sum.inr a:Key)=Sum.inr b:=fun q=>e (Sum.inr.inj q)
  rw [decide_eq_false h,decide_eq_false e]
theorem zf6 (a:Int) (b:Str):decide ((Sum.inl a:Key)=Sum.inr b)=false:=decide_eq_false (fun q=>nomatch q)
theorem zf7 (a:Str) (b:Int):decide ((Sum.inr a:Key)=Sum.inl b)=false:=decide_eq_false (fun q=>nomatch q)
def y9 (prog:Program) (w:World):PySem.KeyKind prog w Key where
 is:=Y9
 hash:=zf2 w
 inj:=fun v a b ha hb=>by
  rcases ZV ha with ⟨i,t,rfl,rfl⟩ | ⟨x,t,rfl,rfl⟩
  ·rcases ZV hb with ⟨j,u,rfl,e⟩ | ⟨y,u,rfl,e⟩
   ·injection e with e1 _;rw [e1]
   ·exact nomatch e
  ·rcases ZV hb with ⟨j,u,rfl,e⟩ | ⟨y,u,rfl,e⟩
   ·exact nomatch e
   ·injection e with e1 _;rw [e1]
 byValue:=fun k v h=>by
  rcases ZV h with ⟨i,t,rfl,rfl⟩ | ⟨x,t,rfl,rfl⟩ <;> rfl
 pyHash:=fun hv h=>by
  rcases ZV hv with ⟨i,t,rfl,rfl⟩ | ⟨x,t,rfl,rfl⟩
  ·exact wpAny_pyHash_int h
  ·exact wpAny_pyHash_str h
 eqBool:=fun hu hv h=>by
  rcases ZV hu with ⟨i,t,rfl,rfl⟩ | ⟨x,t,rfl,rfl⟩
  ·rcases ZV hv with ⟨j,u,rfl,rfl⟩ | ⟨y,u,rfl,rfl⟩
   ·rw [zf5] at h;exact wpAny_eqBool_int h
   ·rw [zf6] at h;exact SeqAt.EqAt.int_str i t y u _ _ _ _ h
  ·rcases ZV hv with ⟨j,u,rfl,rfl⟩ | ⟨y,u,rfl,rfl⟩
   ·rw [zf7] at h;exact SeqAt.EqAt.str_int x t j u _ _ _ _ h
   ·rw [zf8] at h;exact wpAny_eqBool_str h
 «strs»:=fun k x t v h=>by
  rcases ZV h with ⟨i,u,rfl,e⟩ | ⟨y,u,rfl,e⟩
  ·exact nomatch e
  ·injection e with e1 _
   subst e1
   cases v <;> rfl
theorem zg8 (prog:Program) (w:World) (i:Int) (t:Tok):(y9 prog w).is (.inl i) (.int i t)=true:=zf3 i t
theorem zg9 (prog:Program) (w:World) (x:Str) (t:Tok):(y9 prog w).is (.inr x) (.str x t)=true:=zf4 x t
end L2
namespace L2
open PySem PySem.Spec PyProof.Rows
inductive V where
 | non | bl (b:Bool) | int (i:Int) | str (x:Str) | byt (b:Array UInt8) | flt (b:UInt64) | ref (a:Addr) | ty (n:String)
 deriving DecidableEq
def RelV:V→Value→Prop
 | .non,u=>u=Value.none
 | .bl b,u=>u=Value.bool b
 | .int i,u=>∃ t,u=Value.int i t
 | .str x,u=>∃ t,u=Value.str x t
 | .byt b,u=>∃ t,u=Value.bytes b t
 | .flt b,u=>∃ t,u=Value.float b t
 | .ref a,u=>u=Value.ref a
 | .ty n,u=>u=Value.type n
abbrev Vals:List V→List Value→Prop:=Paired RelV
theorem Vals.length {xs:List V} {us:List Value} (r:Vals xs us):xs.length=us.length:=Paired.length r
theorem Vals.get:∀ {xs:List V} {us:List Value} {i:Nat} {x:V},Vals xs us→xs[i]?=some x→∃ u,us[i]?=some u∧RelV x u
 | _,_,_,_,.nil,e=>by simp at e
 | _,_,0,_,.cons r _,e=>by simp at e;subst e;exact ⟨_,rfl,r⟩
 | _,_,i + 1,x,.cons _ t,e=>by
  obtain ⟨u,h1,h2⟩:=Vals.get (i:=i) (x:=x) t (by simpa using e)
  exact ⟨u,by simpa using h1,h2⟩
theorem Vals.set {x:V} {u:Value} (r:RelV x u):∀ {xs:List V} {us:List Value} (i:Nat),Vals xs us→Vals (xs.set i x) (us.set i u)
 | _,_,_,.nil=>.nil
 | _,_,0,.cons _ t=>.cons r t
 | _,_,i + 1,.cons q t=>.cons q (Vals.set r i t)
theorem Vals.append:∀ {xs ys:List V} {us ws:List Value},Vals xs us→Vals ys ws→Vals (xs ++ ys) (us ++ ws)
 | _,_,_,_,.nil,s=>s
 | _,_,_,_,.cons r t,s=>.cons r (Vals.append t s)
theorem Vals.take:∀ {xs:List V} {us:List Value} (n:Nat),Vals xs us→Vals (xs.take n) (us.take n)
 | _,_,0,_=>.nil
 | _,_,_ + 1,.nil=>.nil
 | _,_,n + 1,.cons r t=>.cons r (Vals.take n t)
theorem Vals.drop:∀ {xs:List V} {us:List Value} (n:Nat),Vals xs us→Vals (xs.drop n) (us.drop n)
 | _,_,0,r=>r
 | _,_,_ + 1,.nil=>.nil
 | _,_,n + 1,.cons _ t=>Vals.drop n t
theorem Vals.none_of:∀ {xs:List V} {us:List Value} {i:Nat},Vals xs us→xs[i]?=none→us[i]?=none:=fun {xs us i} r e=>by
 have h1:=r.length
 have h2:xs.length≤i:=List.getElem?_eq_none_iff.mp e
 exact List.getElem?_eq_none_iff.mpr (by omega)
def RelO:Option V→Option Value→Prop
 | some v,some u=>RelV v u
 | none,none=>True
 | _,_=>False
def KV {κ : Type}:List (κ × V)→List (κ × Value)→Prop:=Paired fun (p : κ × V) (q : κ × Value)=>p.1=q.1∧RelV p.2 q.2
def kV:Key→V
 | .inl i=>.int i
 | .inr x=>.str x
inductive HO where
 /-- a list -/
 | lst (xs:List V)
 /-- a tuple (never changes) -/
 | tup (xs:List V)
 /-- a dict whose keys are ints and texts;one whose keys are tuples of ints and texts (the empty one is both) -/
 | dK (kvs:List (Key × V)) | dT (kvs:List (List Key × V))
 /-- a set of ints: its members,its size -/
 | set (S:Int→Bool) (n:Nat)
 /-- an instance of the class at C,its dict at dx,its attributes -/
 | ins (C dx:Addr) (fs:List (Str × V))
 /-- the dict of the instance at x -/
 | own (x:Addr)
 /-- the dict of an exception -/
 | xd (fs:List (Str × V))
 /-- a bound method,f of x -/
 | met (f x:Addr)
 /-- a range object lo,lo + 1,.. below hi -/
 | rng (lo hi:Int)
 /-- a thing that is known to the object (the script;a dict while a loop walks it): read,never written while it is so -/
 | frz (o:Obj) (u:HO)
 /-- a code object's table -/
 | tbl (ps:Array Value)
 /-- any other thing,by what is true of its one object (a def of one's own: SetO a S n:=HO.ext fun h=>..) -/
 | ext (φ : Heap→Prop)
abbrev Hp:=Addr→Option HO
def upd (H:Hp) (a:Addr) (o:HO):Hp:=fun b=>if b=a then some o else H b
theorem z9 {H:Hp} {a:Addr} {o:HO}:upd H a o a=some o:=by unfold upd;rw [if_pos rfl]
theorem z6 {H:Hp} {a b:Addr} {o:HO} (h:b≠a):upd H a o b=H b:=by unfold upd;rw [if_neg h]
theorem yX {H:Hp} {a b:Addr} {o u:HO} (h:H a=some o) (h':H b=some u) (d:o≠u):a≠b:=by
 intro e;subst e;rw [h] at h';exact d (Option.some.inj h')
theorem zd {H:Hp} {a b:Addr} {o:HO} (h:H a=some o) (h':H b=none):a≠b:=by
 intro e;subst e;rw [h] at h';cases h'
section
variable (P:Program) (w:World)
def ObjOk (H:Hp) (h:Heap) (a:Addr):HO→Prop
 | .lst xs=>xs.length≤sizeLine∧∃ (its:List Value) (n:Nat),Vals xs its∧h.get? a=some { cls:=.type "list",data:=.seq its.toArray n }
 | .tup xs=>xs.length≤sizeLine∧∃ its:List Value,Vals xs its∧IsTup h a its.toArray
 | .dK kvs=>kvs.length≤sizeLine∧(a == sysModules)=false∧∃ vs,KV kvs vs∧h.DictOf (y9 P w) a vs
 | .dT kvs=>kvs.length≤sizeLine∧(a == sysModules)=false∧∃ xs:List (List Key × Addr × Value),
   Paired (fun (p:List Key × V) (q:List Key × Addr × Value)=>p.1=q.1∧H q.2.1=some (.tup (p.1.map kV))∧RelV p.2 q.2.2) kvs xs ∧
   ∃ o es ep,h.get? a=some o∧o.ExactDict∧o.data = .dict es ep∧es.toList=xs.map (entryOfKey (tupleKind (y9 P w)))∧(xs.map (·.1)).Nodup
 | .set S n=>h.SetOf (intKind P w) a S n
 | .ins C dx fs=>H dx=some (.own a)∧fs.length≤1000∧dx≠a∧h.get? a=some (PySem.W.instObj C dx) ∧
   ∃ mA,h.Ns1 dx mA∧(∀ f,RelO (fs.lookup f) (mA f))∧PySem.Within mA (fs.map (·.1))
 | .own _=>∃ o,h.get? a=some o
 | .xd fs=>∃ mA,h.Ns1 a mA∧∀ f,RelO (fs.lookup f) (mA f)
 | .rng lo hi=>∃ t u v,h.get? a=some { cls:=.type "range",data:=.fields #[.int lo t,.int hi u,.int 1 v] }
 | .frz o u=>h.get? a=some o∧ObjOk H h a u
 | .tbl ps=>h.get? a=some { cls:=.none,data:=.fields ps }
 | .met f x=>h.get? a=some (PySem.W.methodObj (.ref f) (.ref x))
 | .ext φ=>φ h∧(∃ o,h.get? a=some o)∧∀ h1 h2:Heap,φ h1→(∀ o,h1.get? a=some o→h2.get? a=some o)→φ h2
def HOk (H:Hp) (h:Heap):Prop:=∀ a o,H a=some o→ObjOk P w H h a o
end
section
variable {P:Program} {w:World} {H H':Hp} {h h':Heap} {a:Addr} {o:HO}
theorem ObjOk.lt (x:ObjOk P w H h a o):a < h.objs.size:=by
 cases o with
 | lst xs=>obtain ⟨_,_,_,_,e⟩:=x;exact Heap.lt_size e
 | tup xs=>obtain ⟨_,_,_,p⟩:=x;exact p.lt
 | dK kvs=>obtain ⟨_,_,_,_,o,_,_,e,_⟩:=x;exact Heap.lt_size e
 | dT kvs=>obtain ⟨_,_,_,_,o,_,_,e,_⟩:=x;exact Heap.lt_size e
 | set S n=>obtain ⟨o,_,_,_,e,_⟩:=x;exact Heap.lt_size e
 | ins C dx fs=>obtain ⟨_,_,_,e,_⟩:=x;exact Heap.lt_size e
 | own y=>obtain ⟨_,e⟩:=x;exact Heap.lt_size e
 | xd fs=>obtain ⟨_,⟨_,_,_,e,_⟩,_⟩:=x;exact Heap.lt_size e
 | rng lo hi=>obtain ⟨_,_,_,e⟩:=x;exact Heap.lt_size e
 | frz ob u=>obtain ⟨e,_⟩:=x;exact Heap.lt_size e
 | tbl ps=>exact Heap.lt_size (show h.get? a=some _ from x)
 | met f y=>exact Heap.lt_size (show h.get? a=some _ from x)
 | ext φ=>obtain ⟨_,⟨_,e⟩,_⟩:=x;exact Heap.lt_size e
theorem Paired.mapP {α β : Type} {F G : α→β→Prop}:∀ {l₁ : List α} {l₂ : List β},Paired F l₁ l₂→(∀ a b,F a b→G a b)→Paired G l₁ l₂
 | _,_,.nil,_=>.nil
 | _,_,.cons r t,f=>.cons (f _ _ r) (Paired.mapP t f)
theorem ObjOk.stay (x:ObjOk P w H h a o) (k:∀ b u,(b=a∨H b=some (.own a))→h.get? b=some u→h'.get? b=some u)
  (ho:∀ b,H b=some (.own a)→H' b=some (.own a)) (ht:∀ b xs,H b=some (.tup xs)→H' b=some (.tup xs)):ObjOk P w H' h' a o:=by
 induction o with
 | lst xs=>obtain ⟨z,its,n,r,e⟩:=x;exact ⟨z,its,n,r,k _ _ (.inl rfl) e⟩
 | tup xs=>obtain ⟨z,its,r,ob,e,c⟩:=x;exact ⟨z,its,r,ob,k _ _ (.inl rfl) e,c⟩
 | dK kvs=>obtain ⟨z,y,vs,r,ob,es,ep,e,c⟩:=x;exact ⟨z,y,vs,r,ob,es,ep,k _ _ (.inl rfl) e,c⟩
 | dT kvs=>
  obtain ⟨z,y,xs,r,ob,es,ep,e,c⟩:=x
  exact ⟨z,y,xs,Paired.mapP r fun p q z=>⟨z.1,ht _ _ z.2.1,z.2.2⟩,ob,es,ep,k _ _ (.inl rfl) e,c⟩
 | set S n=>obtain ⟨ob,es,ep,t,e,c⟩:=x;exact ⟨ob,es,ep,t,k _ _ (.inl rfl) e,c⟩
 | ins C dx fs=>
  obtain ⟨d,z,ne,e,mA,⟨od,es,ep,e2,c⟩,r⟩:=x
  exact ⟨ho _ d,z,ne,k _ _ (.inl rfl) e,mA,⟨od,es,ep,k _ _ (.inr d) e2,c⟩,r⟩
 | own y=>obtain ⟨ob,e⟩:=x;exact ⟨ob,k _ _ (.inl rfl) e⟩
 | xd fs=>obtain ⟨mA,⟨od,es,ep,e,c⟩,r⟩:=x;exact ⟨mA,⟨od,es,ep,k _ _ (.inl rfl) e,c⟩,r⟩
 | rng lo hi=>obtain ⟨t,u,v,e⟩:=x;exact ⟨t,u,v,k _ _ (.inl rfl) e⟩
 | frz ob u ih=>obtain ⟨e,q⟩:=x;exact ⟨k _ _ (.inl rfl) e,ih q⟩
 | tbl ps=>
  have e:h.get? a=some { cls:=.none,data:=.fields ps }:=x
  show h'.get? a=some { cls:=.none,data:=.fields ps }
  exact k a _ (.inl rfl) e
 | met f y=>
  have e:h.get? a=some (PySem.W.methodObj (.ref f) (.ref y)):=x
  show h'.get? a=some (PySem.W.methodObj (.ref f) (.ref y))
  exact k a _ (.inl rfl) e
 | ext φ=>obtain ⟨p,⟨o,e⟩,st⟩:=x;exact ⟨st _ _ p fun o q=>k _ _ (.inl rfl) q,⟨o,k _ _ (.inl rfl) e⟩,st⟩
theorem HOk.lt (x:HOk P w H h) (e:H a=some o):a < h.objs.size:=(x a o e).lt
theorem HOk.fresh (x:HOk P w H h) (e:h.objs.size≤a):H a=none:=by
 cases q:H a with
 | none=>rfl
 | some u=>exact absurd (Nat.lt_of_lt_of_le (x.lt q) e) (Nat.lt_irrefl _)
theorem HOk.kept (x:HOk P w H h) (k:∀ b u,h.get? b=some u→h'.get? b=some u):HOk P w H h':=fun a o e=>
 (x a o e).stay (fun b u _ q=>k b u q) (fun _ q=>q) fun _ _ q=>q
theorem HOk.laid (x:HOk P w H h) (k:∀ b u,h.get? b=some u→h'.get? b=some u) (hp:h.objs.size≤a) (new:ObjOk P w (upd H a o) h' a o):HOk P w (upd H a o) h':=fun b u e=>by
 have hn:=x.fresh hp
 by_cases hb:b=a
 ·subst hb;rw [z9] at e;cases e;exact new
 ·rw [z6 hb] at e
  exact (x b u e).stay (fun c v _ q=>k c v q) (fun c q=>by rw [z6 (zd q hn)];exact q) fun c xs q=>by rw [z6 (zd q hn)];exact q
end
def Rd (H:Hp) (a:Addr) (u:HO):Prop:=H a=some u∨∃ o,H a=some (.frz o u)
theorem Rd.of {H:Hp} {a:Addr} {u:HO} (h:H a=some u):Rd H a u:=.inl h
theorem Rd.ok {P:Program} {w:World} {H:Hp} {h:Heap} {a:Addr} {u:HO} (r:Rd H a u) (x:HOk P w H h):ObjOk P w H h a u:=by
 rcases r with r | ⟨o,r⟩
 ·exact x a u r
 ·obtain ⟨_,q⟩:=x a _ r
  exact q
def Mut:Option HO→Prop
 | some (.lst _)=>True
 | some (.dK _)=>True
 | some (.dT _)=>True
 | some (.set _ _)=>True
 | some (.ins _ _ _)=>True
 | some (.ext _)=>True
 | _=>False
section
variable {P:Program} {w:World} {H:Hp} {h h':Heap} {x e:Addr} {o':HO}
theorem HOk.write (ok:HOk P w H h) (mu:Mut (H x)) (he:e=x∨H e=some (.own x)) (k:∀ b u,b≠e→h.get? b=some u→h'.get? b=some u) (heo:∃ u,h'.get? e=some u)
  (new:ObjOk P w (upd H x o') h' x o'):HOk P w (upd H x o') h':=fun b u q=>by
 have nown:∀ c y,H c=some (.own y)→c≠x:=fun c y r z=>by subst z;rw [r] at mu;exact mu
 have ntup:∀ c xs,H c=some (.tup xs)→c≠x:=fun c xs r z=>by subst z;rw [r] at mu;exact mu
 by_cases hb:b=x
 ·subst hb;rw [z9] at q;cases q;exact new
 ·rw [z6 hb] at q
  by_cases hbe:b=e
  ·have q':H b=some (.own x):=by
    rcases he with z | z
    ·exact absurd (hbe.trans z) hb
    ·rw [hbe];exact z
   rw [q] at q';cases q'
   obtain ⟨v,hv⟩:=heo
   exact ⟨v,by rw [hbe];exact hv⟩
  ·refine (ok b u q).stay (fun c v hc r=>k c v ?_ r) (fun c r=>by rw [z6 (nown c b r)];exact r) fun c xs r=>by rw [z6 (ntup c xs r)];exact r
   rcases hc with rfl | hc
   ·exact hbe
   ·rintro rfl
    rcases he with z | z
    ·exact nown c b hc z
    ·rw [hc] at z;cases z;exact hb rfl
end
structure Un (fs ex:List Addr) (H H':Hp) (h h':Heap):Prop where
 keep:∀ b o,h.get? b=some o→H b=none→b ∉ fs→b ∉ ex→h'.get? b=some o
 slot:∀ b o,h.get? b=some o→H b=none→b∈fs→b ∉ ex→∃ sl,h'.get? b=some { o with slots:=sl }
 free:∀ b o,h.get? b=some o→H b=none→b ∉ ex→H' b=none
 there:∀ b o,h.get? b=some o→b ∉ ex→∃ o',h'.get? b=some o'
 tups:∀ b xs,H b=some (.tup xs)→H' b=some (.tup xs)
 frzs:∀ b o u,H b=some (.frz o u)→H' b=some (.frz o u)
 tbls:∀ b ps,H b=some (.tbl ps)→∃ more,H' b=some (.tbl (ps ++ more))
section
variable {fs fs' ex ex':List Addr} {H H1 H2:Hp} {h h1 h2 h':Heap} {a x e:Addr} {o:HO}
theorem Un.any (u:Un fs ex H H1 h h1) {b:Addr} {ob:Obj} (q:h.get? b=some ob) (n:H b=none) (hx:b ∉ ex):∃ sl,h1.get? b=some { ob with slots:=sl }:=by
 by_cases hb:b∈fs
 ·exact u.slot b ob q n hb hx
 ·exact ⟨ob.slots,u.keep b ob q n hb hx⟩
theorem Un.trans (a:Un fs ex H H1 h h1) (b:Un fs ex H1 H2 h1 h2):Un fs ex H H2 h h2 where
 keep:=fun c ob q n hc hx=>b.keep c ob (a.keep c ob q n hc hx) (a.free c ob q n hx) hc hx
 slot:=fun c ob q n hc hx=>by
  obtain ⟨sl,e1⟩:=a.slot c ob q n hc hx
  obtain ⟨sl',e2⟩:=b.slot c _ e1 (a.free c ob q n hx) hc hx
  exact ⟨sl',e2⟩
 free:=fun c ob q n hx=>by
  obtain ⟨o',e1⟩:=a.there c ob q hx
  exact b.free c o' e1 (a.free c ob q n hx) hx
 there:=fun c ob q hx=>by
  obtain ⟨o',e1⟩:=a.there c ob q hx
  exact b.there c o' e1 hx
 tups:=fun c xs q=>b.tups c xs (a.tups c xs q)
 frzs:=fun c ob xs q=>b.frzs c ob xs (a.frzs c ob xs q)
 tbls:=fun c ps q=>by
  obtain ⟨m1,e1⟩:=a.tbls c ps q
  obtain ⟨m2,e2⟩:=b.tbls c _ e1
  exact ⟨m1 ++ m2,by rw [e2,Array.append_assoc]⟩
theorem Un.kept (k:∀ b u,h.get? b=some u→h'.get? b=some u):Un fs ex H H h h' :=
 ⟨fun b ob q _ _ _=>k b ob q,fun b ob q _ _ _=>⟨ob.slots,k b ob q⟩,fun _ _ _ n _=>n,fun b ob q _=>⟨ob,k b ob q⟩,fun _ _ q=>q,fun _ _ _ q=>q,fun _ ps q=>⟨#[],by rw [q];simp⟩⟩
theorem Un.refl:Un fs ex H H h h:=Un.kept fun _ _ q=>q
theorem Un.laid (k:∀ b u,h.get? b=some u→h'.get? b=some u) (hp:h.objs.size≤a) (hn:H a=none):Un fs ex H (upd H a o) h h' where
 keep:=fun b u q _ _ _=>k b u q
 slot:=fun b u q _ _ _=>⟨u.slots,k b u q⟩
 free:=fun b u q n _=>by rw [z6 (Nat.ne_of_lt (Nat.lt_of_lt_of_le (Heap.lt_size q) hp))];exact n
 there:=fun b u q _=>⟨u,k b u q⟩
 tups:=fun b xs q=>by rw [z6 (zd q hn)];exact q
 frzs:=fun b u xs q=>by rw [z6 (zd q hn)];exact q
 tbls:=fun b ps q=>⟨#[],by rw [z6 (zd q hn),q];simp⟩
theorem Un.write (mu:Mut (H x)) (he:e=x∨H e=some (.own x)) (k:∀ b u,b≠e→h.get? b=some u→h'.get? b=some u) (heo:∃ u,h'.get? e=some u):Un fs ex H (upd H x o) h h':=by
 have hx:∀ b,H b=none→b≠x:=fun b n z=>by subst z;rw [n] at mu;exact mu
 have hb:∀ b,H b=none→b≠e:=fun b n z=>by
  subst z
  rcases he with r | r
  ·exact hx b n r
  ·rw [n] at r;cases r
 have hm:∀ b u,H b=some u→¬ Mut (some u)→b≠x:=fun b u q nm z=>by subst z;rw [q] at mu;exact nm mu
 refine ⟨fun b u q n _ _=>k b u (hb b n) q,fun b u q n _ _=>⟨u.slots,k b u (hb b n) q⟩,fun b u q n _=>by rw [z6 (hx b n)];exact n,fun b u q _=>?_,
  fun b xs q=>by rw [z6 (hm b _ q fun z=>z)];exact q,fun b u xs q=>by rw [z6 (hm b _ q fun z=>z)];exact q,fun b ps q=>⟨#[],by rw [z6 (hm b _ q fun z=>z),q];simp⟩⟩
 by_cases hbe:b=e
 ·subst hbe;exact heo
 ·exact ⟨u,k b u hbe q⟩
theorem Un.mono (u:Un fs ex H H1 h h1) (hs:∀ b∈fs,b∈fs') (hx:∀ b∈ex,b∈ex'):Un fs' ex' H H1 h h1 :=
 ⟨fun b ob q n hb he=>u.keep b ob q n (fun z=>hb (hs b z)) fun z=>he (hx b z),fun _ _ q n _ he=>u.any q n fun z=>he (hx _ z),fun b ob q n he=>u.free b ob q n fun z=>he (hx b z),fun b ob q he=>u.there b ob q fun z=>he (hx b z),u.tups,u.frzs,u.tbls⟩
end
def trk (h:Heap) (H:Hp):List Addr:=(List.range h.objs.size).filter fun a=>(H a).isSome
def Yv (h:Heap) (H:Hp):Heap:=PySem.W.hideAll h (trk h H)
theorem ze2 (h:Heap) (H:Hp):(Yv h H).objs.size=h.objs.size:=PySem.W.hideAll_size _ _
theorem ze1 {h:Heap} {H:Hp} {b:Addr} {o:Obj} (e:h.get? b=some o) (n:H b=none):(Yv h H).get? b=some o :=
 PySem.W.hideAll_get _ e fun hm=>by
  have q:(H b).isSome=true:=(List.mem_filter.mp hm).2
  rw [n] at q;simp at q
theorem zgD {h:Heap} {H:Hp} {b:Addr} {o:Obj} (e:(Yv h H).get? b=some o):h.get? b=some o∧H b=none:=by
 have e':h.get? b=some o:=PySem.W.of_hideAll (trk h H) e
 refine ⟨e',?_⟩
 cases q:H b with
 | none=>rfl
 | some x=>
  have hm:b∈trk h H:=List.mem_filter.mpr ⟨List.mem_range.mpr (Heap.lt_size e'),by simp [q]⟩
  have z:(Yv h H).get? b=none:=PySem.W.hideAll_none (trk h H) hm
  rw [z] at e;cases e
def zc0 (g h:Heap) (L:Addr):List (Addr × Obj):=(List.range h.objs.size).filterMap fun a=>if a=L∨(g.get? a).isSome=true then none else (h.get? a).map fun o=>(a,o)
def Yh (g h:Heap) (L d:Addr):List (Addr × Obj):=(zc0 g h L).filter fun p=>decide (p.1≠d)
end L2
namespace L2
open PySem PySem.Spec PyProof.Rows
structure Mod (K:PySem.W.Frag) (mg:Str→Option Value) (base:Heap):Prop where
 kin:K.In base
 glob:base.Ns mainGlobals mg
 blt:∃ mb,base.Ns builtinsNs mb∧∀ x:Str,x≠"__name__"→mb x=bootBuiltins x
 nolimit:base.NoLimit
structure Cx where
 prog:Program
 w:World
 K:PySem.W.Frag
 mg:Str→Option Value
 base:Heap
 A:Around
 N:List Str
 s_0:Shared
 H_0:Hp
 env:Env
 outer:List Env
 stack:List Env
 ex:List Addr
 fn:Str→Bool
 calm:Bool
 pn:List (Addr × Obj)
 xe:Value→Shared→Prop
def frs (l:List Env):List Addr:=l.filterMap (·.frame)
abbrev Cx.fs (X:Cx):List Addr:=frs X.outer
def Vis (sc:Scope) (x:Str):Prop:=sc.names.lookup x=some .local∨sc.names.lookup x=some .cell∨sc.names.lookup x=some .free
def Loc (sc:Scope) (x:Str):Prop:=sc.names.lookup x=some .local∨sc.names.lookup x=some .cell
def zbG (env:Env) (h:Heap) (m:Str→Option Value) (x:Str) (u:Value):Prop :=
 (env.kindOf x=some .local∧m x=some u)∨((env.kindOf x=some .cell∨env.kindOf x=some .free)∧∃ c,env.cells.lookup x=some c∧h.IsCell c (some u))
structure Cx.Ok (X:Cx):Prop where
 mod:Mod X.K X.mg X.base
 kind:X.env.scope.kind = .function
 glob:X.env.globals=mainGlobals
 blt:X.env.builtins=builtinsNs
 above:X.s_0.heap.objs.size≤X.env.locals
 inj:∀ x y c,X.env.cells.lookup x=some c→X.env.cells.lookup y=some c→x=y
 has:∀ x,(X.env.kindOf x=some .cell∨X.env.kindOf x=some .free)→∃ c,X.env.cells.lookup x=some c
 cab:∀ x c,X.fn x=true→X.env.cells.lookup x=some c→X.s_0.heap.objs.size≤c
 hd:X.calm=true→X.A.handled=none
 frames:X.A.frames=some X.stack
 stk:X.stack=X.outer∨(X.stack=X.env :: X.outer∧X.env.frame=some X.env.locals)
 exf:∀ b∈X.ex,b≠X.env.locals∧∀ x c,X.env.cells.lookup x=some c→c≠b
 bs:∀ b o,X.base.get? b=some o→X.s_0.heap.get? b=some o∧X.H_0 b=none
 bsz:X.base.objs.size≤X.s_0.heap.objs.size
 noex:∀ b o,X.base.get? b=some o→b ∉ X.ex
 exfs:∀ b∈X.ex,b ∉ X.fs
 funs:X.s_0.heap.FunFrames X.base X.outer
 frf:∀ b∈X.fs,X.H_0 b=none
structure Inv (X:Cx) (pins:List (Addr × Obj)) (σ : List (Option V)) (H:Hp) (s:Shared):Prop where
 ok:X.Ok
 os:s.os=X.s_0.os
 bare:AllBare s.gens
 base:Un X.fs X.ex X.H_0 H X.s_0.heap s.heap
 loc:∃ m,s.heap.Ns X.env.locals m∧∀ (i:Nat) (x:Str) (v:V),X.N[i]?=some x→σ[i]?=some (some v)→Vis X.env.scope x→∃ u,RelV v u∧zbG X.env s.heap m x u
 cell:∀ x c,X.env.cells.lookup x=some c→∃ v,s.heap.IsCell c v
 free:H X.env.locals=none
 freeC:∀ x c,X.env.cells.lookup x=some c→H c=none
 pin:∀ p∈X.pn ++ pins,s.heap.get? p.1=some p.2∧H p.1=none∧p.1≠X.env.locals∧p.1 ∉ X.fs∧∀ v,p.2.data≠.cell v
 hok:HOk X.prog X.w H s.heap
 len : σ.length=X.N.length
section
variable {X:Cx} {pins:List (Addr × Obj)} {σ : List (Option V)} {H H':Hp} {s:Shared} {h':Heap}
theorem Cx.Ok.nofr (ok:X.Ok) {b:Addr} {o:Obj} (e:X.base.get? b=some o):b ∉ X.fs:=fun hb=>by
 have:=(ok.funs.mem hb).1
 rw [e] at this;cases this
theorem Inv.bs (I:Inv X pins σ H s):∀ b o,X.base.get? b=some o→s.heap.get? b=some o∧H b=none:=fun b o e=>
 ⟨I.base.keep b o (I.ok.bs b o e).1 (I.ok.bs b o e).2 (I.ok.nofr e) (I.ok.noex b o e),I.base.free b o (I.ok.bs b o e).1 (I.ok.bs b o e).2 (I.ok.noex b o e)⟩
theorem Inv.bk (I:Inv X pins σ H s):∀ b o,X.base.get? b=some o→s.heap.get? b=some o:=fun b o e=>(I.bs b o e).1
theorem Inv.mod (I:Inv X pins σ H s):Mod X.K X.mg X.base:=I.ok.mod
theorem Inv.kIn (I:Inv X pins σ H s):X.K.In s.heap:=I.ok.mod.kin.keeps I.bk
theorem Inv.nolimit (I:Inv X pins σ H s):s.heap.NoLimit:=I.ok.mod.nolimit.keeps I.bk
theorem Inv.fr (I:Inv X pins σ H s):∃ m,Fr X.base X.env.locals s.heap m :=
 let ⟨m,hn,_⟩:=I.loc
 ⟨m,hn,I.bk,Nat.le_trans I.ok.bsz I.ok.above⟩
theorem Inv.lt (I:Inv X pins σ H s):X.env.locals < s.heap.objs.size:=let ⟨_,hn,_⟩:=I.loc;hn.lt
theorem Inv.sz (I:Inv X pins σ H s):X.s_0.heap.objs.size≤s.heap.objs.size:=Nat.le_trans I.ok.above (Nat.le_of_lt I.lt)
theorem Inv.nofs (I:Inv X pins σ H s) {a:Addr} (h:s.heap.objs.size≤a):a ∉ X.fs:=fun hb=>by
 obtain ⟨_,o,ho,_⟩:=I.ok.funs.mem hb
 exact absurd (Nat.lt_of_lt_of_le (Heap.lt_size ho) (Nat.le_trans I.sz h)) (Nat.lt_irrefl _)
theorem Inv.cne (I:Inv X pins σ H s):∀ x c,X.env.cells.lookup x=some c→c≠X.env.locals:=fun x c e z=>by
 obtain ⟨v,o,ho,hd⟩:=I.cell x c e
 obtain ⟨m,⟨o',es,ep,ho',hd',_⟩,_⟩:=I.loc
 rw [z,ho'] at ho;cases ho;rw [hd'] at hd;cases hd
theorem Inv.funs (I:Inv X pins σ H s):s.heap.FunFrames X.base X.outer:=by
 have all:∀ (l:List Env),(∀ b∈frs l,b∈X.fs)→X.s_0.heap.FunFrames X.base l→s.heap.FunFrames X.base l:=by
  intro l
  induction l with
  | nil=>intro _ _;trivial
  | cons env r ih=>
   intro hs hl
   obtain ⟨hk,⟨L,o,hf,hn,ho,hd⟩,hr⟩:=hl
   have hL:L∈X.fs:=hs L (by unfold frs;rw [List.filterMap_cons,hf];exact List.mem_cons_self)
   obtain ⟨sl,e⟩:=I.base.slot L o ho (I.ok.frf L hL) hL fun z=>I.ok.exfs L z hL
   exact ⟨hk,⟨L,_,hf,hn,e,hd⟩,ih (fun b hb=>hs b (by unfold frs;rw [List.filterMap_cons,hf];exact List.mem_cons_of_mem _ hb)) hr⟩
 exact all X.outer (fun _ hb=>hb) I.ok.funs
theorem Inv.stack (I:Inv X pins σ H s):s.heap.FunFrames X.base X.stack:=by
 rcases I.ok.stk with e | ⟨e,hf⟩
 ·rw [e];exact I.funs
 ·rw [e]
  obtain ⟨m,hn,_⟩:=I.loc
  refine .cons (by rw [I.ok.kind];decide) hf hn ?_ I.funs
  exact Heap.get?_none_of_le (Nat.le_trans I.ok.bsz I.ok.above)
theorem Inv.stkSub (I:Inv X pins σ H s):∀ b∈frs X.stack,b∈X.env.locals :: X.fs:=fun b hb=>by
 rcases I.ok.stk with e | ⟨e,hf⟩
 ·rw [e] at hb;exact List.mem_cons_of_mem _ hb
 ·rw [e] at hb
  unfold frs at hb
  rw [List.filterMap_cons,hf] at hb
  exact hb
theorem Inv.stkFree (I:Inv X pins σ H s):∀ b∈frs X.stack,H b=none:=fun b hb=>by
 rcases List.mem_cons.mp (I.stkSub b hb) with e | hb
 ·rw [e];exact I.free
 ·obtain ⟨_,o,ho,_⟩:=I.ok.funs.mem hb
  exact I.base.free b o ho (I.ok.frf b hb) fun z=>I.ok.exfs b z hb
theorem Inv.step {g':Array GenState} {t':Nat} {d':Drawn} {ch:List Addr} (I:Inv X pins σ H s)
  (hch:∀ b∈ch,(b∈X.ex∨X.s_0.heap.objs.size≤b)∧b≠X.env.locals∧(∀ x c,X.env.cells.lookup x=some c→c≠b)∧∀ p∈X.pn ++ pins,p.1≠b)
  (keep:∀ b o,b≠X.env.locals→b ∉ X.fs→b ∉ ch→s.heap.get? b=some o→H b=none→h'.get? b=some o)
  (slot:∀ b o,b≠X.env.locals→b∈X.fs→b ∉ ch→s.heap.get? b=some o→H b=none→∃ sl,h'.get? b=some { o with slots:=sl }) (free:∀ b o,b ∉ ch→s.heap.get? b=some o→H b=none→H' b=none)
  (there:∀ b o,b ∉ ch→s.heap.get? b=some o→∃ o',h'.get? b=some o')
  (tups:∀ b xs,H b=some (.tup xs)→H' b=some (.tup xs)) (frzs:∀ b o u,H b=some (.frz o u)→H' b=some (.frz o u)) (tbls:∀ b ps,H b=some (.tbl ps)→∃ more,H' b=some (.tbl (ps ++ more)))
  (ns:∀ m,s.heap.Ns X.env.locals m→h'.Ns X.env.locals m) (hok:HOk X.prog X.w H' h') (hg:AllBare g') :
  Inv X pins σ H' { s with heap:=h',gens:=g',drawn:=d',toks:=t' }:=by
 have neL:∀ b o,X.s_0.heap.get? b=some o→b≠X.env.locals:=fun b o e=>Nat.ne_of_lt (Nat.lt_of_lt_of_le (Heap.lt_size e) I.ok.above)
 have neC:∀ b o,X.s_0.heap.get? b=some o→b ∉ X.ex→b ∉ ch:=fun b o e hx hb=>by
  rcases (hch b hb).1 with z | z
  ·exact hx z
  ·exact absurd (Nat.lt_of_lt_of_le (Heap.lt_size e) z) (Nat.lt_irrefl _)
 have cellK:∀ x c,X.env.cells.lookup x=some c→∀ v,s.heap.IsCell c v→h'.IsCell c v:=fun x c e v ⟨o,ho,hd⟩=>by
  have nch:c ∉ ch:=fun z=>(hch c z).2.2.1 x c e rfl
  by_cases hc:c∈X.fs
  ·obtain ⟨sl,q⟩:=slot c o (I.cne x c e) hc nch ho (I.freeC x c e)
   exact ⟨_,q,hd⟩
  ·exact ⟨o,keep c o (I.cne x c e) hc nch ho (I.freeC x c e),hd⟩
 refine ⟨I.ok,I.os,hg,⟨fun b o e n hb hx=>?_,fun b o e n hb hx=>?_,fun b o e n hx=>?_,fun b o e hx=>?_,fun b xs e=>tups b xs (I.base.tups b xs e),fun b o xs e=>frzs b o xs (I.base.frzs b o xs e),fun b ps e=>?_⟩,?_,fun x c e=>?_,?_,fun x c e=>?_,fun p hp=>?_,hok,I.len⟩
 ·exact keep b o (neL b o e) hb (neC b o e hx) (I.base.keep b o e n hb hx) (I.base.free b o e n hx)
 ·obtain ⟨sl,e1⟩:=I.base.slot b o e n hb hx
  obtain ⟨sl',e2⟩:=slot b _ (neL b o e) hb (neC b o e hx) e1 (I.base.free b o e n hx)
  exact ⟨sl',e2⟩
 ·obtain ⟨o',e1⟩:=I.base.there b o e hx
  exact free b o' (neC b o e hx) e1 (I.base.free b o e n hx)
 ·obtain ⟨o',e1⟩:=I.base.there b o e hx
  exact there b o' (neC b o e hx) e1
 ·obtain ⟨m1,e1⟩:=I.base.tbls b ps e
  obtain ⟨m2,e2⟩:=tbls b _ e1
  exact ⟨m1 ++ m2,by rw [e2,Array.append_assoc]⟩
 ·obtain ⟨m,hn,hl⟩:=I.loc
  refine ⟨m,ns m hn,fun i x v e1 e2 e3=>?_⟩
  obtain ⟨u,r,l⟩:=hl i x v e1 e2 e3
  refine ⟨u,r,?_⟩
  rcases l with l | ⟨k,c,e,z⟩
  ·exact .inl l
  ·exact .inr ⟨k,c,e,cellK x c e _ z⟩
 ·obtain ⟨v,z⟩:=I.cell x c e
  exact ⟨v,cellK x c e v z⟩
 ·obtain ⟨m,⟨o,_,_,ho,_⟩,_⟩:=I.loc
  exact free _ o (fun z=>(hch _ z).2.1 rfl) ho I.free
 ·obtain ⟨v,o,ho,hd⟩:=I.cell x c e
  exact free c o (fun z=>(hch c z).2.2.1 x c e rfl) ho (I.freeC x c e)
 ·obtain ⟨e,n,ne,nf,d⟩:=I.pin p hp
  have nch:p.1 ∉ ch:=fun z=>(hch p.1 z).2.2.2 p hp rfl
  exact ⟨keep p.1 p.2 ne nf nch e n,free p.1 p.2 nch e n,ne,nf,d⟩
theorem Inv.un {t':Nat} (I:Inv X pins σ H s) (u:Un X.fs [] H H' s.heap h') (hok:HOk X.prog X.w H' h'):Inv X pins σ H' { s with heap:=h',toks:=t' }:=by
 obtain ⟨m,⟨o,es,ep,ho,r⟩,_⟩:=id I.loc
 obtain ⟨sl,hL⟩:=u.any ho I.free (by simp)
 exact I.step (g':=s.gens) (d':=s.drawn) (ch:=[]) (fun _ z=>nomatch z) (fun b o _ hb _ e n=>u.keep b o e n hb (by simp)) (fun b o _ hb _ e n=>u.slot b o e n hb (by simp)) (fun b o _ e n=>u.free b o e n (by simp)) (fun b o _ e=>u.there b o e (by simp)) u.tups u.frzs u.tbls (fun m' hm=>by
  obtain ⟨o',es',ep',ho',r'⟩:=hm
  rw [ho] at ho';cases ho'
  exact ⟨_,es',ep',hL,r'⟩) hok I.bare
theorem Inv.call {g':Array GenState} {t':Nat} {d':Drawn} {ch:List Addr} (I:Inv X pins σ H s) (u:Un (frs X.stack) ch H H' s.heap h') (hok:HOk X.prog X.w H' h') (hg:AllBare g')
  (hch:∀ b∈ch,(b∈X.ex∨X.s_0.heap.objs.size≤b)∧b≠X.env.locals∧(∀ x c,X.env.cells.lookup x=some c→c≠b)∧∀ p∈X.pn ++ pins,p.1≠b) :
  Inv X pins σ H' { s with heap:=h',gens:=g',drawn:=d',toks:=t' }:=by
 obtain ⟨m,⟨o,es,ep,ho,r⟩,_⟩:=id I.loc
 obtain ⟨sl,hL⟩:=u.any ho I.free fun z=>(hch _ z).2.1 rfl
 exact I.step (ch:=ch) hch (fun b o hL hb hc e n=>u.keep b o e n (fun z=>(List.mem_cons.mp (I.stkSub b z)).elim hL hb) hc) (fun b o _ _ hc e n=>u.any e n hc) (fun b o hc e n=>u.free b o e n hc) (fun b o hc e=>u.there b o e hc) u.tups u.frzs u.tbls (fun m' hm=>by
  obtain ⟨o',es',ep',ho',r'⟩:=hm
  rw [ho] at ho';cases ho'
  exact ⟨_,es',ep',hL,r'⟩) hok hg
theorem Inv.turned {t':Nat} {it:Addr} (I:Inv X pins σ H s) (k:∀ b o,b≠it→s.heap.get? b=some o→h'.get? b=some o) (hn:H it=none) (hL:it≠X.env.locals)
  (h1:it∈X.ex∨X.s_0.heap.objs.size≤it) (h2:∀ x c,X.env.cells.lookup x=some c→c≠it) (h3:∀ p∈X.pn ++ pins,p.1≠it):Inv X pins σ H { s with heap:=h',toks:=t' }:=by
 have nit:∀ b u,H b=some u→b≠it:=fun b u e z=>by rw [z,hn] at e;cases e
 refine I.step (g':=s.gens) (d':=s.drawn) (ch:=[it]) (fun b hb=>?_) (fun b o _ _ hc e _=>k b o (fun z=>hc (by simp [z])) e) (fun b o _ _ hc e _=>⟨o.slots,k b o (fun z=>hc (by simp [z])) e⟩) (fun _ _ _ _ n=>n)
  (fun b o hc e=>⟨o,k b o (fun z=>hc (by simp [z])) e⟩) (fun _ _ e=>e) (fun _ _ _ e=>e) (fun b ps e=>⟨#[],by rw [e];simp⟩) (fun m hm=>?_) (fun b u e=>?_) I.bare
 ·have e:b=it:=by simpa using hb
  subst e
  exact ⟨h1,hL,h2,h3⟩
 ·obtain ⟨o,es,ep,ho,r⟩:=hm
  exact ⟨o,es,ep,k _ o (Ne.symm hL) ho,r⟩
 ·refine (I.hok b u e).stay (fun c v hc q=>k c v ?_ q) (fun _ q=>q) fun _ _ q=>q
  rcases hc with z | z
  ·rw [z];exact nit b u e
  ·exact nit c _ z
theorem Inv.tok (I:Inv X pins σ H s) (t:Nat):Inv X pins σ H { s with toks:=t }:=I.un (h':=s.heap) (t':=t) Un.refl I.hok
theorem Inv.kept {t':Nat} (I:Inv X pins σ H s) (k:∀ b u,s.heap.get? b=some u→h'.get? b=some u):Inv X pins σ H { s with heap:=h',toks:=t' }:=I.un (Un.kept k) (I.hok.kept k)
theorem Inv.laid {a:Addr} {o:HO} {t':Nat} (I:Inv X pins σ H s) (k:∀ b u,s.heap.get? b=some u→h'.get? b=some u) (hp:s.heap.objs.size≤a) (new:ObjOk X.prog X.w (upd H a o) h' a o) :
  Inv X pins σ (upd H a o) { s with heap:=h',toks:=t' }:=I.un (Un.laid k hp (I.hok.fresh hp)) (I.hok.laid k hp new)
theorem Inv.write {x e:Addr} {o:HO} {t':Nat} (I:Inv X pins σ H s) (mu:Mut (H x)) (he:e=x∨H e=some (.own x)) (k:∀ b u,b≠e→s.heap.get? b=some u→h'.get? b=some u) (heo:∃ u,h'.get? e=some u)
  (new:ObjOk X.prog X.w (upd H x o) h' x o):Inv X pins σ (upd H x o) { s with heap:=h',toks:=t' }:=I.un (Un.write mu he k heo) (I.hok.write mu he k heo new)
theorem Inv.weak {σ':List (Option V)} (I:Inv X pins σ H s) (hl : σ'.length = σ.length) (w:∀ (i:Nat) v,σ'[i]?=some (some v)→σ[i]?=some (some v)):Inv X pins σ' H s :=
 ⟨I.ok,I.os,I.bare,I.base,let ⟨m,hn,hl'⟩:=I.loc;⟨m,hn,fun i x v e1 e2 e3=>hl' i x v e1 (w i v e2) e3⟩,I.cell,I.free,I.freeC,I.pin,I.hok,hl.trans I.len⟩
theorem Inv.pins_of {pins':List (Addr × Obj)} (I:Inv X pins σ H s) (h:∀ p∈pins',s.heap.get? p.1=some p.2∧H p.1=none∧p.1≠X.env.locals∧p.1 ∉ X.fs∧∀ v,p.2.data≠.cell v):Inv X pins' σ H s :=
 ⟨I.ok,I.os,I.bare,I.base,I.loc,I.cell,I.free,I.freeC,fun p hp=>(List.mem_append.mp hp).elim (fun z=>I.pin p (List.mem_append_left _ z)) (h p),I.hok,I.len⟩
theorem z4y {N:List Str} (hN:N.Nodup) {i j:Nat} {x:Str} (a:N[i]?=some x) (b:N[j]?=some x):i=j:=by
 obtain ⟨h1,e1⟩:=List.getElem?_eq_some_iff.mp a
 obtain ⟨h2,e2⟩:=List.getElem?_eq_some_iff.mp b
 exact (List.getElem_inj hN).mp (e1.trans e2.symm)
theorem zaU {M:Model} {A:Around} {E:Value→Shared→Prop} {i:Nat} {x:Str} {v:V} {u:Value} {Q:Unit→Shared→Prop} (I:Inv X pins σ H s) (hN:X.N.Nodup) (hi:X.N[i]?=some x) (hx:Loc X.env.scope x) (r:RelV v u)
  (h:∀ s',Inv X pins (σ.set i (some v)) H s'→(∃ a,Heap.SameBut a s.heap s'.heap∧(a=X.env.locals∨X.env.cells.lookup x=some a))→Q () s') (hf:X.fn x=true∨X.env.scope.names.lookup x=some .local:=by first | exact .inl rfl | exact .inr rfl | assumption):wpAny M A (storeName X.env x u) Q E s:=by
 obtain ⟨m,hn,hl⟩:=id I.loc
 have hcls:(X.env.scope.kind == .class || (X.env.scope.kind == .module && X.env.locals != X.env.globals))=false:=by rw [I.ok.kind];rfl
 have hiσ : i < σ.length:=by rw [I.len];exact (List.getElem?_eq_some_iff.mp hi).1
 have cne:=I.cne
 have tracked:∀ {a:Addr} {h':Heap},(∃ o,s.heap.get? a=some o∧H a=none)→Heap.SameBut a s.heap h'→HOk X.prog X.w H h':=fun {a h'} ha hs b ob e=>by
  obtain ⟨_,_,hfree⟩:=ha
  refine (I.hok b ob e).stay (fun c w' hc q=>(hs.2 c ?_).trans q) (fun _ q=>q) fun _ _ q=>q
  rintro rfl
  rcases hc with rfl | hc
  ·rw [hfree] at e;cases e
  ·rw [hfree] at hc;cases hc
 rcases hx with hk | hk
 ·refine wpAny_storeName_local hk hn (fun h' hn' hs=>?_) hcls
  obtain ⟨oL,_,_,hoL,_⟩:=id hn
  refine h _ ⟨I.ok,I.os,I.bare,⟨fun b o e n hb hx=>?_,fun b o e n hb hx=>?_,I.base.free,fun b o e hx=>?_,I.base.tups,I.base.frzs,I.base.tbls⟩,⟨_,hn',fun j y v' e1 e2 e3=>?_⟩,fun y c e=>?_,I.free,I.freeC,fun p hp=>?_,tracked ⟨oL,hoL,I.free⟩ hs,by simpa using I.len⟩ ⟨_,hs,.inl rfl⟩
  ·exact (hs.2 b (Nat.ne_of_lt (Nat.lt_of_lt_of_le (Heap.lt_size e) I.ok.above))).trans (I.base.keep b o e n hb hx)
  ·obtain ⟨sl,e1⟩:=I.base.slot b o e n hb hx
   exact ⟨sl,(hs.2 b (Nat.ne_of_lt (Nat.lt_of_lt_of_le (Heap.lt_size e) I.ok.above))).trans e1⟩
  ·obtain ⟨o',e1⟩:=I.base.there b o e hx
   exact ⟨o',(hs.2 b (Nat.ne_of_lt (Nat.lt_of_lt_of_le (Heap.lt_size e) I.ok.above))).trans e1⟩
  ·by_cases hj:j=i
   ·subst hj
    rw [hi] at e1;cases e1
    rw [List.getElem?_set_self hiσ] at e2
    cases e2
    exact ⟨u,r,.inl ⟨hk,by simp⟩⟩
   ·rw [List.getElem?_set_ne (Ne.symm hj)] at e2
    obtain ⟨u',r',q⟩:=hl j y v' e1 e2 e3
    refine ⟨u',r',?_⟩
    rcases q with ⟨k,e⟩ | ⟨k,c,e,z⟩
    ·refine .inl ⟨k,?_⟩
     have:y≠x:=fun e=>hj (z4y hN e1 (e ▸ hi))
     simp [this,e]
    ·exact .inr ⟨k,c,e,z.sameBut hs (cne y c e)⟩
  ·obtain ⟨w',z⟩:=I.cell y c e
   exact ⟨w',z.sameBut hs (cne y c e)⟩
  ·obtain ⟨e,n,ne,nf,d⟩:=I.pin p hp
   exact ⟨(hs.2 p.1 ne).trans e,n,ne,nf,d⟩
 ·have hfn:X.fn x=true:=by
   rcases hf with z | z
   ·exact z
   ·rw [z] at hk;cases hk
  obtain ⟨c,hc⟩:=I.ok.has x (.inl hk)
  obtain ⟨w',z⟩:=I.cell x c hc
  refine wpAny_storeName_cell I.ok.kind hk hc z (fun h' hc' hs=>?_)
  obtain ⟨oc,hoc,hocd⟩:=id z
  refine h { s with heap:=h' } ⟨I.ok,I.os,I.bare,⟨fun b o e n hb hx=>?_,fun b o e n hb hx=>?_,I.base.free,fun b o e hx=>?_,I.base.tups,I.base.frzs,I.base.tbls⟩,⟨m,hn.sameBut hs (Ne.symm (cne x c hc)),fun j y v' e1 e2 e3=>?_⟩,fun y c' e=>?_,I.free,I.freeC,fun p hp=>?_,tracked ⟨oc,hoc,I.freeC x c hc⟩ hs,by simpa using I.len⟩ ⟨c,hs,.inr hc⟩
  ·exact (hs.2 b (Nat.ne_of_lt (Nat.lt_of_lt_of_le (Heap.lt_size e) (I.ok.cab x c hfn hc)))).trans (I.base.keep b o e n hb hx)
  ·obtain ⟨sl,e1⟩:=I.base.slot b o e n hb hx
   exact ⟨sl,(hs.2 b (Nat.ne_of_lt (Nat.lt_of_lt_of_le (Heap.lt_size e) (I.ok.cab x c hfn hc)))).trans e1⟩
  ·obtain ⟨o',e1⟩:=I.base.there b o e hx
   exact ⟨o',(hs.2 b (Nat.ne_of_lt (Nat.lt_of_lt_of_le (Heap.lt_size e) (I.ok.cab x c hfn hc)))).trans e1⟩
  ·by_cases hj:j=i
   ·subst hj
    rw [hi] at e1;cases e1
    rw [List.getElem?_set_self hiσ] at e2
    cases e2
    exact ⟨u,r,.inr ⟨.inl hk,c,hc,hc'⟩⟩
   ·rw [List.getElem?_set_ne (Ne.symm hj)] at e2
    obtain ⟨u',r',q⟩:=hl j y v' e1 e2 e3
    refine ⟨u',r',?_⟩
    rcases q with q | ⟨k,c',e,z'⟩
    ·exact .inl q
    ·refine .inr ⟨k,c',e,z'.sameBut hs ?_⟩
     rintro rfl
     exact hj (z4y hN e1 (I.ok.inj _ _ _ e hc ▸ hi))
  ·by_cases hcc:c'=c
   ·subst hcc;exact ⟨_,hc'⟩
   ·obtain ⟨w2,z2⟩:=I.cell y c' e
    exact ⟨w2,z2.sameBut hs hcc⟩
  ·obtain ⟨e,n,ne,nf,d⟩:=I.pin p hp
   refine ⟨(hs.2 p.1 ?_).trans e,n,ne,nf,d⟩
   intro q
   rw [q,hoc] at e
   have q':oc=p.2:=Option.some.inj e
   exact d w' (by rw [← q'];exact hocd)
theorem z5q {M:Model} {A:Around} {E:Value→Shared→Prop} {i:Nat} {x:Str} {v:V} {u:Value} {Q:Unit→Shared→Prop} (I:Inv X pins σ H s) (hN:X.N.Nodup) (hi:X.N[i]?=some x) (hx:Loc X.env.scope x) (r:RelV v u)
  (h:∀ s',Inv X pins (σ.set i (some v)) H s'→Q () s') (hf:X.fn x=true∨X.env.scope.names.lookup x=some .local:=by first | exact .inl rfl | exact .inr rfl | assumption):wpAny M A (storeName X.env x u) Q E s :=
 zaU I hN hi hx r (fun s' I' _=>h s' I') hf
theorem Inv.call' {s':Shared} {ch:List Addr} (I:Inv X pins σ H s) (ho:s'.os=s.os) (u:Un (frs X.stack) ch H H' s.heap s'.heap) (hok:HOk X.prog X.w H' s'.heap) (hg:AllBare s'.gens)
  (hch:∀ b∈ch,(b∈X.ex∨X.s_0.heap.objs.size≤b)∧b≠X.env.locals∧(∀ x c,X.env.cells.lookup x=some c→c≠b)∧∀ p∈X.pn ++ pins,p.1≠b):Inv X pins σ H' s':=by
 obtain ⟨h',g',d',t',o'⟩:=s'
 have e:o'=s.os:=ho
 subst e
 exact I.call (g':=g') (t':=t') (d':=d') u hok hg hch
end
abbrev XK:=Value→Option Addr→Hp→Prop
abbrev St:=List (Option V)
abbrev VK:=V→Hp→Prop
abbrev TE:=St→Hp→VK→Prop
abbrev TT:=St→Hp→(Bool→Hp→Prop)→Prop
abbrev TA:=St→Hp→(List V→Hp→Prop)→Prop
structure Ends where
 nx:St→Hp→Prop
 rt:VK
 bk:St→Hp→Prop:=fun _ _=>False
 ct:St→Hp→Prop:=fun _ _=>False
abbrev TS:=Ends→St→Hp→Prop
def EP (X:Cx) (pins:List (Addr × Obj)) (σ : St) (Q:VK) (u:Value) (s':Shared):Prop:=∃ v H',Inv X pins σ H' s'∧RelV v u∧Q v H'
def TP (X:Cx) (pins:List (Addr × Obj)) (σ : St) (Q:Bool→Hp→Prop) (b:Bool) (s':Shared):Prop:=∃ H',Inv X pins σ H' s'∧Q b H'
def AP (X:Cx) (pins:List (Addr × Obj)) (σ : St) (Q:List V→Hp→Prop) (us:List Value) (s':Shared):Prop:=∃ vs H',Inv X pins σ H' s'∧Vals vs us∧Q vs H'
def SP (X:Cx) (pins:List (Addr × Obj)) (D:Ends) (f:Flow) (s':Shared):Prop :=
 match f with
 | .next=>∃ σ' H',Inv X pins σ' H' s'∧D.nx σ' H'
 | .brk=>∃ σ' H',Inv X pins σ' H' s'∧D.bk σ' H'
 | .cont=>∃ σ' H',Inv X pins σ' H' s'∧D.ct σ' H'
 | .ret u=>∃ v σ' H',Inv X pins σ' H' s'∧RelV v u∧D.rt v H'
def PE (X:Cx) (e:Expr) (t:TE):Prop :=
 ∀ (pins:List (Addr × Obj)) (s:Shared) (σ : St) (H:Hp) (Q:VK),Inv X pins σ H s→t σ H Q→wpAny (model X.prog X.w) X.A (eval e X.env) (EP X pins σ Q) X.xe s
def PT (X:Cx) (e:Expr) (t:TT):Prop :=
 ∀ (pins:List (Addr × Obj)) (s:Shared) (σ : St) (H:Hp) (Q:Bool→Hp→Prop),Inv X pins σ H s→t σ H Q→wpAny (model X.prog X.w) X.A (isTrue e X.env (eval e X.env)) (TP X pins σ Q) X.xe s
def PW (X:Cx) (e:Expr) (t:TT):Prop :=
 ∀ (whole:Sem Value) (pins:List (Addr × Obj)) (s:Shared) (σ : St) (H:Hp) (Q:Bool→Hp→Prop),Inv X pins σ H s→t σ H Q→wpAny (model X.prog X.w) X.A (isTrue e X.env whole) (TP X pins σ Q) X.xe s
theorem PW.pt {X:Cx} {e:Expr} {t:TT} (h:PW X e t):PT X e t:=h _
def PA (X:Cx) (es:List Expr) (t:TA):Prop :=
 ∀ (pos:Pos) (pins:List (Addr × Obj)) (s:Shared) (σ : St) (H:Hp) (Q:List V→Hp→Prop),Inv X pins σ H s→t σ H Q→wpAny (model X.prog X.w) X.A (spliced (backTo pos (starEach es X.env))) (AP X pins σ Q) X.xe s
def PS (X:Cx) (st:Stmt) (t:TS):Prop :=
 ∀ (pins:List (Addr × Obj)) (s:Shared) (σ : St) (H:Hp) (D:Ends),Inv X pins σ H s→t D σ H→wpAny (model X.prog X.w) X.A (exec st X.env) (SP X pins D) X.xe s
def PSs (X:Cx) (st:List Stmt) (t:TS):Prop :=
 ∀ (pins:List (Addr × Obj)) (s:Shared) (σ : St) (H:Hp) (D:Ends),Inv X pins σ H s→t D σ H→wpAny (model X.prog X.w) X.A (execs st X.env) (SP X pins D) X.xe s
theorem thn {α : Type} {t:Sem α} {Q Q' : α→Shared→Prop} {M:Model} {A:Around} {E:Value→Shared→Prop} {s:Shared} (h:wpAny M A t Q E s) (hQ:∀ a s,Q a s→Q' a s):wpAny M A t Q' E s:=wpAny_mono h hQ fun _ _ x=>x
end L2
namespace L2
open PySem PySem.Spec PyProof.Rows
section
variable {X:Cx}
theorem bin {a b:Expr} {ta tb:TE} (ha:PE X a ta) (hb:PE X b tb) {pins:List (Addr × Obj)} {s:Shared} {σ : St} {H:Hp} {R:V→V→Hp→Prop} (I:Inv X pins σ H s) (h:ta σ H fun x H1=>tb σ H1 fun y H2=>R x y H2)
  {α : Type} {Q : α→Shared→Prop} {f:Value→Value→Sem α}
  (hf:∀ v u s2 x y H2,Inv X pins σ H2 s2→RelV x v→RelV y u→R x y H2→wpAny (model X.prog X.w) X.A (f v u) Q X.xe s2) :
  wpAny (model X.prog X.w) X.A (eval a X.env) (fun v s₁=>wpAny (model X.prog X.w) X.A (eval b X.env) (fun u s₂=>wpAny (model X.prog X.w) X.A (f v u) Q X.xe s₂) X.xe s₁) X.xe s:=by
 refine thn (ha pins s σ H _ I h) fun v s1 ⟨x,H1,I1,r1,q1⟩=>?_
 refine thn (hb pins s1 σ H1 _ I1 q1) fun u s2 ⟨y,H2,I2,r2,q2⟩=>?_
 exact hf v u s2 x y H2 I2 r1 r2 q2
def yg (i:Nat):TE:=fun σ H Q=>∃ v,σ[i]?=some (some v)∧Q v H
def tC (v:V):TE:=fun _ H Q=>Q v H
theorem zib {i:Nat} {x:Str} {pos:Pos} (hN:X.N[i]?=some x) (hv:Vis X.env.scope x) (hd:(x == ("__debug__" : Str))=false:=by decide) (hcd:(x == ("__classdict__" : Str))=false:=by decide):PE X (.Name x pos) (yg i):=by
 intro pins s σ H Q I h
 obtain ⟨v,e,h⟩:=h
 obtain ⟨m,hn,hl⟩:=I.loc
 obtain ⟨u,r,l⟩:=hl i x v hN e hv
 have fin:EP X pins σ Q u s:=⟨v,H,I,r,h⟩
 rcases l with ⟨hk,hm⟩ | ⟨hk,c,hc,hcell⟩
 ·exact wpAny_Name (wpAny_loadName_local I.ok.kind hk hn hm fin) hd
 ·rcases hk with hk | hk
  ·exact wpAny_Name (wpAny_loadName_cell I.ok.kind hk hc hcell fin) hd
  ·exact wpAny_Name (wpAny_loadName_free I.ok.kind hk hc hcell fin hcd) hd
theorem zg {i j pos}:PE X (.Constant (.int i) j pos) (tC (.int i)):=fun _ _ _ H _ I h=>wpAny_Constant_int ⟨.int i,H,I.tok _,⟨_,rfl⟩,h⟩
theorem Yc {b j pos}:PE X (.Constant (.bool b) j pos) (tC (.bl b)):=fun _ _ _ H _ I h=>Constant_bool ⟨.bl b,H,I,rfl,h⟩
def Gl (X:Cx) (x:Str):Prop:=X.env.kindOf x=some .globalImplicit
theorem z0z {E:Value→Shared→Prop} {pins:List (Addr × Obj)} {s:Shared} {σ : St} {H:Hp} {x:Str} {u:Value} {pos:Pos} {Q:Value→Shared→Prop} (I:Inv X pins σ H s) (hg:Gl X x) (hm:X.mg x=some u) (h:Q u s)
  (hd:(x == ("__debug__" : Str))=false:=by decide):wpAny (model X.prog X.w) X.A (eval (.Name x pos) X.env) Q E s :=
 Calls.Name_function_global I.ok.kind hg (Calls.loadGlobal_global (by rw [I.ok.glob];exact I.mod.glob.keeps I.bk) hm h) hd
theorem z0y {E:Value→Shared→Prop} {pins:List (Addr × Obj)} {s:Shared} {σ : St} {H:Hp} {x:Str} {u:Value} {pos:Pos} {Q:Value→Shared→Prop} (I:Inv X pins σ H s) (hg:Gl X x) (hm:X.mg x=none) (hv:bootBuiltins x=some u) (h:Q u s)
  (hn:x≠"__name__":=by decide) (hd:(x == ("__debug__" : Str))=false:=by decide):wpAny (model X.prog X.w) X.A (eval (.Name x pos) X.env) Q E s:=by
 obtain ⟨mb,h1,h2⟩:=I.mod.blt
 exact Calls.Name_function_global I.ok.kind hg (Calls.loadGlobal_builtin (by rw [I.ok.glob];exact I.mod.glob.keeps I.bk) hm (by rw [I.ok.blt];exact h1.keeps I.bk) ((h2 x hn).trans hv) h) hd
theorem z7Z {x:Str} {v:V} {u:Value} {pos:Pos} (hg:Gl X x) (hm:X.mg x=some u) (r:RelV v u) (hd:(x == ("__debug__" : Str))=false:=by decide):PE X (.Name x pos) (tC v) :=
 fun _ _ _ H _ I h=>z0z I hg hm ⟨v,H,I,r,h⟩ hd
variable {a b:Expr} {ta tb:TE} {pos:Pos}
def PC (X:Cx) (op:CmpOp) (a b:Expr) (t:TE):Prop :=
 ∀ (pins:List (Addr × Obj)) (s:Shared) (σ : St) (H:Hp) (Q:VK),Inv X pins σ H s→t σ H Q →
  wpAny (model X.prog X.w) X.A (eval a X.env) (fun v s₁=>wpAny (model X.prog X.w) X.A (eval b X.env) (fun u s₂=>wpAny (model X.prog X.w) X.A (compareOp op v u) (EP X pins σ Q) X.xe s₂) X.xe s₁) X.xe s
theorem zgA (b:Expr) {op:CmpOp} (h:op≠.In) (h2:op≠.NotIn):behindInMarks op b=false:=by
 have e1:(op == CmpOp.In)=false:=by cases op <;> first | rfl | exact absurd rfl h
 have e2:(op == CmpOp.NotIn)=false:=by cases op <;> first | rfl | exact absurd rfl h2
 cases b <;> simp [behindInMarks,e1,e2]
def tB (t:TE):TT:=fun σ H Q=>t σ H fun x H1=>∃ c,x = .bl c∧Q c H1
theorem z1M {op:CmpOp} {t:TE} (h:PC X op a b t) (h1:behindInMarks op b=false:=by first | exact zgA _ (by decide) (by decide) | rfl):PT X (.Compare a [op] [b] pos) (tB t):=by
 intro pins s σ H Q I hw
 refine wpAny_isTrue_Compare1 (thn (h pins s σ H _ I hw) fun v s1 h1=>thn h1 fun u s2 h2=>thn h2 fun c s3 ⟨x,H1,I1,r1,q1⟩=>?_) h1
 obtain ⟨d,rfl,q⟩:=q1
 cases r1
 exact wpAny_truthy_bool ⟨H1,I1,q⟩
theorem zR {e:Expr} {t:TE} (h:PE X e t) (he:∀ whole,isTrue e X.env whole=(do let v ← whole;standAt e.pos;holding [v] (truthy v)):=by intro _;rfl):PT X e (tB t):=by
 intro pins s σ H Q I hw
 refine isTrue_plain (thn (h pins s σ H _ I hw) fun v s1 ⟨x,H1,I1,r1,q1⟩=>?_) (he _)
 obtain ⟨d,rfl,q⟩:=q1
 cases r1
 exact wpAny_truthy_bool ⟨H1,I1,q⟩
variable {tA tB':TT} {Yh:List Expr}
def zb1 (t u:TT):TT:=fun σ H Q=>t σ H fun c H1=>if c=true then u σ H1 Q else Q false H1
def tOr (t u:TT):TT:=fun σ H Q=>t σ H fun c H1=>if c=true then Q true H1 else u σ H1 Q
def z5u (t:TT):TT:=fun σ H Q=>t σ H fun c H1=>Q (!c) H1
theorem z02 (ha:PT X a tA):PW X (.BoolOp .And [a] pos) tA:=by
 intro wh pins s σ H Q I h
 refine isTrue_and (thn (ha pins s σ H Q I h) fun c s1 e=>?_)
 cases c with
 | true=>exact isTrue_and_nil e
 | false=>exact e
theorem z04 (ha:PT X a tA):PW X (.BoolOp .Or [a] pos) tA:=by
 intro wh pins s σ H Q I h
 refine isTrue_or (thn (ha pins s σ H Q I h) fun c s1 e=>?_)
 cases c with
 | false=>exact isTrue_or_nil e
 | true=>exact e
theorem jx (ha:PT X a tA) (hb:PW X (.BoolOp .And (b :: Yh) pos) tB'):PW X (.BoolOp .And (a :: b :: Yh) pos) (zb1 tA tB'):=by
 intro wh pins s σ H Q I h
 refine isTrue_and (thn (ha pins s σ H _ I h) fun c s1 ⟨H1,I1,q1⟩=>?_)
 cases c with
 | true=>exact hb wh pins s1 σ H1 Q I1 q1
 | false=>exact ⟨H1,I1,q1⟩
theorem z03 (ha:PT X a tA) (hb:PW X (.BoolOp .Or (b :: Yh) pos) tB'):PW X (.BoolOp .Or (a :: b :: Yh) pos) (tOr tA tB'):=by
 intro wh pins s σ H Q I h
 refine isTrue_or (thn (ha pins s σ H _ I h) fun c s1 ⟨H1,I1,q1⟩=>?_)
 cases c with
 | true=>exact ⟨H1,I1,q1⟩
 | false=>exact hb wh pins s1 σ H1 Q I1 q1
theorem yY (ha:PT X a tA):PT X (.UnaryOp .Not a pos) (z5u tA):=by
 intro pins s σ H Q I h
 exact isTrue_not (ha pins s σ H (fun c H1=>Q (!c) H1) I h)
def zb2 (ta tb:TE):TE:=fun σ H Q=>ta σ H fun x H1=>∃ c,x = .bl c∧if c=true then tb σ H1 Q else Q (.bl false) H1
def zkC (ta tb:TE):TE:=fun σ H Q=>ta σ H fun x H1=>∃ c,x = .bl c∧if c=true then Q (.bl true) H1 else tb σ H1 Q
def zkB (ta:TE):TE:=fun σ H Q=>ta σ H fun x H1=>∃ c,x = .bl c∧Q (.bl (!c)) H1
theorem z80 {op} {t:TE} (h:PE X a t):PE X (.BoolOp op [a] pos) t:=fun pins s σ H Q I hw=>BoolOp_one (h pins s σ H Q I hw)
theorem z1G (ha:PE X a ta) (hb:PE X (.BoolOp .And (b :: Yh) pos) tb):PE X (.BoolOp .And (a :: b :: Yh) pos) (zb2 ta tb):=by
 intro pins s σ H Q I h
 refine BoolOp_and (thn (ha pins s σ H _ I h) fun v s1 ⟨x,H1,I1,r1,q1⟩=>?_)
 obtain ⟨c,rfl,q1⟩:=q1
 cases r1
 refine wpAny_truthy_bool ?_
 cases c with
 | true=>exact hb pins s1 σ H1 Q I1 q1
 | false=>exact ⟨.bl false,H1,I1,rfl,q1⟩
end
end L2
namespace L2
open PySem PySem.Spec PyProof.Rows
def SqL (K:PySem.W.Frag) (H:Hp) (a:Addr) (xs:List V):Prop :=
 Rd H a (.lst xs) ∨
  ∃ (o:Obj) (its:Array Value) (n:Nat),K.lookup a=some o∧o.cls = .type "list"∧o.dict=none∧o.data = .seq its n∧its.size≤sizeLine∧Vals xs its.toList
def SqT (K:PySem.W.Frag) (H:Hp) (a:Addr) (xs:List V):Prop :=
 Rd H a (.tup xs) ∨
  ∃ (o:Obj) (its:Array Value) (n:Nat),K.lookup a=some o∧o.cls = .type "tuple"∧o.data = .seq its n∧its.size≤sizeLine∧Vals xs its.toList
def zbL:Value→Option V
 | .none=>some .non
 | .bool b=>some (.bl b)
 | .int i _=>some (.int i)
 | .str x _=>some (.str x)
 | .bytes b _=>some (.byt b)
 | .float b _=>some (.flt b)
 | .ref a=>some (.ref a)
 | .type n=>some (.ty n)
 | _=>none
theorem RelV.abs {x:V} {u:Value} (r:RelV x u):zbL u=some x:=by
 cases x with
 | non=>cases r;rfl
 | bl _=>cases r;rfl
 | int _=>obtain ⟨t,rfl⟩:=r;rfl
 | str _=>obtain ⟨t,rfl⟩:=r;rfl
 | byt _=>obtain ⟨t,rfl⟩:=r;rfl
 | flt _=>obtain ⟨t,rfl⟩:=r;rfl
 | ref _=>cases r;rfl
 | ty _=>cases r;rfl
theorem RelV.inj {x y:V} {u:Value} (r:RelV x u) (q:RelV y u):x=y:=Option.some.inj (r.abs.symm.trans q.abs)
theorem Vals.inj:∀ {xs ys:List V} {us:List Value},Vals xs us→Vals ys us→xs=ys
 | _,_,_,.nil,.nil=>rfl
 | _,_,_,.cons r t,.cons r' t'=>by rw [r.inj r',Vals.inj t t']
section
variable {X:Cx} {pins:List (Addr × Obj)} {σ : St} {H:Hp} {s:Shared} {a:Addr} {xs ys:List V}
theorem SqL.of {K:PySem.W.Frag} (h:H a=some (.lst xs)):SqL K H a xs:=.inl (.inl h)
theorem SqT.of {K:PySem.W.Frag} (h:H a=some (.tup xs)):SqT K H a xs:=.inl (.inl h)
theorem Inv.list (I:Inv X pins σ H s) (h:SqL X.K H a xs):∃ its:List Value,Vals xs its∧PlainL s.heap a its.toArray∧xs.length≤sizeLine:=by
 rcases h with h | ⟨o,its,n,hk,hc,hd,hs,hz,r⟩
 ·obtain ⟨z,its,n,r,e⟩:=h.ok I.hok
  exact ⟨its,r,⟨_,n,e,rfl,rfl,rfl⟩,z⟩
 ·refine ⟨its.toList,r,⟨o,n,I.kIn a o hk,hc,hd,by simpa using hs⟩,?_⟩
  have e:=r.length
  simp only [Array.length_toList] at e
  omega
theorem Inv.tuple (I:Inv X pins σ H s) (h:SqT X.K H a xs):∃ its:List Value,Vals xs its∧IsTup s.heap a its.toArray∧xs.length≤sizeLine:=by
 rcases h with h | ⟨o,its,n,hk,hc,hs,hz,r⟩
 ·obtain ⟨z,its,r,p⟩:=h.ok I.hok
  exact ⟨its,r,p,z⟩
 ·refine ⟨its.toList,r,⟨o,I.kIn a o hk,hc,n,by simpa using hs⟩,?_⟩
  have e:=r.length
  simp only [Array.length_toList] at e
  omega
theorem Inv.list_inj (I:Inv X pins σ H s) (h:SqL X.K H a xs) (h':SqL X.K H a ys):xs=ys:=by
 obtain ⟨its,r,⟨o,n,e,_,_,d⟩,_⟩:=I.list h
 obtain ⟨its',r',⟨o',n',e',_,_,d'⟩,_⟩:=I.list h'
 rw [e] at e';cases e'
 rw [d] at d'
 injection d' with d1 _
 have:its=its':=by simpa using congrArg Array.toList d1
 subst this
 exact r.inj r'
end
abbrev Cx.wish (X:Cx) (E:Value→Shared→Prop):Cx:={ X with xe:=E }
abbrev Cx.nox (X:Cx):Cx:=X.wish fun _ _=>False
theorem Cx.Ok.wish {X:Cx} (ok:X.Ok) (E:Value→Shared→Prop):(X.wish E).Ok :=
 ⟨ok.mod,ok.kind,ok.glob,ok.blt,ok.above,ok.inj,ok.has,ok.cab,ok.hd,ok.frames,ok.stk,ok.exf,ok.bs,ok.bsz,ok.noex,ok.exfs,ok.funs,ok.frf⟩
theorem Cx.Ok.unwish {X:Cx} {E:Value→Shared→Prop} (ok:(X.wish E).Ok):X.Ok :=
 ⟨ok.mod,ok.kind,ok.glob,ok.blt,ok.above,ok.inj,ok.has,ok.cab,ok.hd,ok.frames,ok.stk,ok.exf,ok.bs,ok.bsz,ok.noex,ok.exfs,ok.funs,ok.frf⟩
section
variable {X:Cx} {pins:List (Addr × Obj)} {σ : St} {H:Hp} {s:Shared} {E:Value→Shared→Prop}
theorem Inv.wish (I:Inv X pins σ H s) (E:Value→Shared→Prop):Inv (X.wish E) pins σ H s:=⟨I.ok.wish E,I.os,I.bare,I.base,I.loc,I.cell,I.free,I.freeC,I.pin,I.hok,I.len⟩
theorem Inv.unwish (I:Inv (X.wish E) pins σ H s):Inv X pins σ H s:=⟨I.ok.unwish,I.os,I.bare,I.base,I.loc,I.cell,I.free,I.freeC,I.pin,I.hok,I.len⟩
theorem SP.unwish {D:Ends} {f:Flow} {s':Shared} (h:SP (X.wish E) pins D f s'):SP X pins D f s':=by
 cases f with
 | next=>obtain ⟨σ',H',I,q⟩:=h;exact ⟨σ',H',I.unwish,q⟩
 | brk=>obtain ⟨σ',H',I,q⟩:=h;exact ⟨σ',H',I.unwish,q⟩
 | cont=>obtain ⟨σ',H',I,q⟩:=h;exact ⟨σ',H',I.unwish,q⟩
 | ret u=>obtain ⟨v,σ',H',I,r,q⟩:=h;exact ⟨v,σ',H',I.unwish,r,q⟩
theorem PE.nox {e:Expr} {t:TE} (h:PE X.nox e t):PE X e t:=fun pins s σ H Q I hw=>
 wpAny_mono (h pins s σ H Q (I.wish _) hw) (fun _ _ ⟨v,H',I',r,q⟩=>⟨v,H',I'.unwish,r,q⟩) fun _ _ z=>False.elim z
theorem PT.nox {e:Expr} {t:TT} (h:PT X.nox e t):PT X e t:=fun pins s σ H Q I hw=>
 wpAny_mono (h pins s σ H Q (I.wish _) hw) (fun _ _ ⟨H',I',q⟩=>⟨H',I'.unwish,q⟩) fun _ _ z=>False.elim z
theorem PSs.nox {st:List Stmt} {t:TS} (h:PSs X.nox st t):PSs X st t:=fun pins s σ H D I hw=>
 wpAny_mono (h pins s σ H D (I.wish _) hw) (fun _ _ q=>q.unwish) fun _ _ z=>False.elim z
end
section
variable {X:Cx} {st:Stmt} {Yh:List Stmt} {t u:TS} {e:Expr} {te:TE} {pos:Pos}
def jQ:TS:=fun D σ H=>D.nx σ H
def Y0 (t u:TS):TS:=fun D σ H=>t { D with nx:=u D } σ H
theorem zj:PSs X [] jQ:=fun _ _ σ H _ I h=>wpAny_execs_nil ⟨σ,H,I,h⟩
theorem z7 (h1:PS X st t) (h2:PSs X Yh u):PSs X (st :: Yh) (Y0 t u):=by
 intro pins s σ H D I h
 refine wpAny_execs_cons (thn (h1 pins s σ H { D with nx:=u D } I h) fun f s1 q=>?_)
 cases f with
 | next=>
  obtain ⟨σ',H',I',q⟩:=q
  exact h2 pins s1 σ' H' D I' q
 | ret v=>exact q
 | brk=>exact q
 | cont=>exact q
theorem za (h1:PS X st t):PSs X [st] t:=by
 intro pins s σ H D I h
 refine wpAny_execs_cons (thn (h1 pins s σ H D I h) fun f s1 q=>?_)
 cases f with
 | next=>exact wpAny_execs_nil q
 | ret v=>exact q
 | brk=>exact q
 | cont=>exact q
theorem Inv.quiet {pins:List (Addr × Obj)} {σ : St} {H:Hp} {s:Shared} (I:Inv X pins σ H s):interactive X.env=false:=by simp [interactive,I.ok.kind]
def z2b (te:TE):TS:=fun D σ H=>te σ H fun _ H1=>D.nx σ H1
theorem zX (he:PE X e te) (hs:swapsWith e none pos.line X.env=pure false:=by rfl):PS X (.Expr e pos) (z2b te):=by
 intro pins s σ H D I h
 exact wpAny_Expr_any (thn (he pins s σ H _ I h) fun v s1 ⟨x,H1,I1,r1,q1⟩=>⟨σ,H1,I1,q1⟩) I.quiet hs
def z0e (te:TE):TS:=fun D σ H=>te σ H D.rt
theorem ze (he:PE X e te):PS X (.Return (some e) pos) (z0e te):=by
 intro pins s σ H D I h
 exact wpAny_Return_some (thn (he pins s σ H _ I h) fun v s1 ⟨x,H1,I1,r1,q1⟩=>⟨x,σ,H1,I1,r1,q1⟩)
def zkD:TS:=fun D _ H=>D.rt .non H
def jP (c:TT) (t u:TS):TS:=fun D σ H=>c σ H fun b H1=>if b=true then t D σ H1 else u D σ H1
theorem zi {c:Expr} {a b:List Stmt} {tc:TT} (hc:PT X c tc) (ha:PSs X a t) (hb:PSs X b u):PS X (.If c a b pos) (jP tc t u):=by
 intro pins s σ H D I h
 refine wpAny_If (thn (hc pins s σ H _ I h) fun d s1 ⟨H1,I1,q1⟩=>?_)
 cases d with
 | true=>exact ha pins s1 σ H1 D I1 q1
 | false=>exact hb pins s1 σ H1 D I1 q1
end
abbrev TG:=V→St→Hp→(St→Hp→Prop)→Prop
abbrev TGs:=List V→St→Hp→(St→Hp→Prop)→Prop
def PG (X:Cx) (target:Expr) (t:TG):Prop :=
 ∀ (pins:List (Addr × Obj)) (s:Shared) (σ : St) (H:Hp) (v:V) (u:Value) (Q:St→Hp→Prop),Inv X pins σ H s→RelV v u→t v σ H Q →
  wpAny (model X.prog X.w) X.A (assign target X.env u) (fun _ s'=>∃ σ' H',Inv X pins σ' H' s'∧Q σ' H') X.xe s
def PGs (X:Cx) (ts:List Expr) (t:TGs):Prop :=
 ∀ (pins:List (Addr × Obj)) (s:Shared) (σ : St) (H:Hp) (vs:List V) (us:List Value) (Q:St→Hp→Prop),Inv X pins σ H s→Vals vs us→t vs σ H Q →
  wpAny (model X.prog X.w) X.A (assignInOrder ((assignEach ts X.env).map (·.2)) us) (fun _ s'=>∃ σ' H',Inv X pins σ' H' s'∧Q σ' H') X.xe s
abbrev z10:=V→V→V→Hp→(Hp→Prop)→Prop
def z5O (X:Cx) (t:z10):Prop :=
 ∀ (pins:List (Addr × Obj)) (s:Shared) (σ : St) (H:Hp) (o i v:V) (ov iv u:Value) (Q:Hp→Prop),Inv X pins σ H s→RelV o ov→RelV i iv→RelV v u→t o i v H Q →
  wpAny (model X.prog X.w) X.A (setItem ov iv u) (fun _ s'=>∃ H',Inv X pins σ H' s'∧Q H') X.xe s
abbrev TIp:=V→V→Hp→VK→Prop
def PIp (X:Cx) (op:Operator) (t:TIp):Prop :=
 ∀ (pins:List (Addr × Obj)) (s:Shared) (σ : St) (H:Hp) (x y:V) (v u:Value) (Q:VK),Inv X pins σ H s→RelV x v→RelV y u→t x y H Q →
  wpAny (model X.prog X.w) X.A (inplaceOp op v u) (EP X pins σ Q) X.xe s
section
variable {X:Cx} {pos:Pos}
def Y5 (i:Nat):TG:=fun v σ H Q=>Q (σ.set i (some v)) H
theorem y6 {i:Nat} {x:Str} (hN:X.N.Nodup) (hi:X.N[i]?=some x) (hx:Loc X.env.scope x) (hf:X.fn x=true∨X.env.scope.names.lookup x=some .local:=by first | exact .inl rfl | exact .inr rfl | assumption):PG X (.Name x pos) (Y5 i):=by
 intro pins s σ H v u Q I r h
 exact wpAny_assign_Name (z5q I hN hi hx r (fun s' I'=>⟨_,H,I',h⟩) hf)
def z6C:TGs:=fun vs σ H Q=>vs=[]∧Q σ H
def z3z (t:TG) (u:TGs):TGs:=fun vs σ H Q=>∃ v r,vs=v :: r∧t v σ H fun σ' H'=>u r σ' H' Q
theorem jw:PGs X [] z6C:=by
 intro pins s σ H vs us Q I r h
 obtain ⟨e,h⟩:=h
 subst e
 cases r
 exact assignInOrder_nil ⟨σ,H,I,h⟩
theorem Zi {e:Expr} {es:List Expr} {t:TG} {u:TGs} (h1:PG X e t) (h2:PGs X es u)
  (hs:(assignEach (e :: es) X.env).map (·.2)=assign e X.env :: (assignEach es X.env).map (·.2):=by rfl):PGs X (e :: es) (z3z t u):=by
 intro pins s σ H vs us Q I r h
 obtain ⟨v,vr,e1,h⟩:=h
 subst e1
 cases r with
 | cons r rr=>
  rw [hs]
  refine assignInOrder_cons (thn (h1 pins s σ H _ _ _ I r h) fun _ s1 ⟨σ1,H1,I1,q1⟩=>?_)
  exact h2 pins s1 σ1 H1 _ _ Q I1 rr q1
def z3A (K:PySem.W.Frag) (n:Nat) (t:TGs):TG:=fun v σ H Q=>∃ a xs,v = .ref a∧SqT K H a xs∧xs.length=n∧t xs σ H Q
theorem zio {es:List Expr} {k:Nat} {t:TGs} {n:Nat} (hc:X.calm=true) (h:PGs X es t)
  (hn:(assignEach es X.env).length=n:=by rfl) (hst:(assignEach es X.env).findIdx? (·.1)=none:=by rfl):PG X (.Tuple es k pos) (z3A X.K n t):=by
 intro pins s σ H v u Q I r hw
 obtain ⟨a,xs,e1,hq,hl,hw⟩:=hw
 subst e1
 cases r
 obtain ⟨its,rv,ht,hz⟩:=I.tuple hq
 refine assign_Tuple_tuple (I.ok.hd hc) ht (by simp [hn,← hl,rv.length]) hst fun h' hx=>?_
 have I1:Inv X pins σ H { s with heap:=h' }:=I.kept (t':=s.toks) fun b o e=>hx b o (Nat.ne_of_lt (Heap.lt_size e)) e
 exact h pins _ σ H xs _ Q I1 (by simpa using rv) hw
def z0c (te:TE) (g:TG):TS:=fun D σ H=>te σ H fun x H1=>g x σ H1 D.nx
theorem zp {i:Nat} {x:Str} {e:Expr} {te:TE} {pos':Pos} (hN:X.N.Nodup) (hi:X.N[i]?=some x) (hx:Loc X.env.scope x) (he:PE X e te) (hs:swapsWith e (some (.Name x pos')) pos.line X.env=pure false:=by rfl) (hf:X.fn x=true∨X.env.scope.names.lookup x=some .local:=by first | exact .inl rfl | exact .inr rfl | assumption) :
  PS X (.Assign [.Name x pos'] e pos) (z0c te (Y5 i)):=by
 intro pins s σ H D I h
 refine wpAny_Assign_Name (thn (he pins s σ H _ I h) fun v s1 ⟨y,H1,I1,r1,q1⟩=>?_) hs
 exact z5q I1 hN hi hx r1 (fun s2 I2=>⟨_,H1,I2,q1⟩) hf
def zb3 (i:Nat) (te:TE) (ti:TIp):TS:=fun D σ H=>∃ x,σ[i]?=some (some x)∧te σ H fun y H1=>ti x y H1 fun z H2=>D.nx (σ.set i (some z)) H2
theorem ziD {i:Nat} {x:Str} {e:Expr} {te:TE} {op:Operator} {ti:TIp} {pos':Pos} (hN:X.N.Nodup) (hi:X.N[i]?=some x) (hx:Loc X.env.scope x) (he:PE X e te) (ho:PIp X op ti) (hf:X.fn x=true∨X.env.scope.names.lookup x=some .local:=by first | exact .inl rfl | exact .inr rfl | assumption) :
  PS X (.AugAssign (.Name x pos') op e pos) (zb3 i te ti):=by
 intro pins s σ H D I h
 obtain ⟨v,e1,h⟩:=h
 obtain ⟨m,hn,hl⟩:=I.loc
 have vis:Vis X.env.scope x:=by rcases hx with k | k;exact .inl k;exact .inr (.inl k)
 obtain ⟨u,r,l⟩:=hl i x v hi e1 vis
 refine wpAny_AugAssign_Name ?_
 have go:wpAny (model X.prog X.w) X.A (eval e X.env) (fun w s₂=>wpAny (model X.prog X.w) X.A (inplaceOp op u w) (fun r s₃=>wpAny (model X.prog X.w) X.A (storeName X.env x r) (fun _=>SP X pins D .next) X.xe s₃) X.xe s₂) X.xe s:=by
  refine thn (he pins s σ H _ I h) fun w s1 ⟨y,H1,I1,r1,q1⟩=>?_
  refine thn (ho pins s1 σ H1 v y u w _ I1 r r1 q1) fun z s2 ⟨zv,H2,I2,r2,q2⟩=>?_
  exact z5q I2 hN hi hx r2 (fun s3 I3=>⟨_,H2,I3,q2⟩) hf
 rcases l with ⟨hk,hm⟩ | ⟨hk,c,hc,hcell⟩
 ·exact wpAny_loadName_local I.ok.kind hk hn hm go
 ·rcases hk with hk | hk
  ·exact wpAny_loadName_cell I.ok.kind hk hc hcell go
  ·rcases hx with k | k
   ·have:X.env.scope.names.lookup x=some .free:=hk
    rw [k] at this;cases this
   ·have:X.env.scope.names.lookup x=some .free:=hk
    rw [k] at this;cases this
def zb4 (to ti te:TE) (tget:V→V→Hp→VK→Prop) (tip:TIp) (tset:z10):TS:=fun D σ H=>to σ H fun o H1=>ti σ H1 fun i H2=>tget o i H2 fun x H3=>te σ H3 fun y H4=>tip x y H4 fun z H5=>tset o i z H5 fun H6=>D.nx σ H6
def z3e (X:Cx) (t:V→V→Hp→VK→Prop):Prop :=
 ∀ (pins:List (Addr × Obj)) (s:Shared) (σ : St) (H:Hp) (o i:V) (ov iv:Value) (Q:VK),Inv X pins σ H s→RelV o ov→RelV i iv→t o i H Q →
  wpAny (model X.prog X.w) X.A (getItem ov iv) (EP X pins σ Q) X.xe s
theorem z8a {o i e:Expr} {to ti te:TE} {tget:V→V→Hp→VK→Prop} {tip:TIp} {tset:z10} {op:Operator} {tpos:Pos} (ho:PE X o to) (hi:PE X i ti) (hg:z3e X tget) (he:PE X e te) (hp:PIp X op tip) (hs:z5O X tset)
  (ha:∀ ov iv new,augStore i ov iv new=(do holding [new,ov,iv] (setItem ov iv new);release [new,ov,iv] [];pure .next):=by intros;rfl):PS X (.AugAssign (.Subscript o i tpos) op e pos) (zb4 to ti te tget tip tset):=by
 intro pins s σ H D I h
 refine wpAny_AugAssign_SubscriptAny (thn (ho pins s σ H _ I h) fun ov s1 ⟨x1,H1,I1,r1,q1⟩=>?_) ha
 refine thn (hi pins s1 σ H1 _ I1 q1) fun iv s2 ⟨x2,H2,I2,r2,q2⟩=>?_
 refine thn (hg pins s2 σ H2 x1 x2 ov iv _ I2 r1 r2 q2) fun old s3 ⟨x3,H3,I3,r3,q3⟩=>?_
 refine thn (he pins s3 σ H3 _ I3 q3) fun v s4 ⟨x4,H4,I4,r4,q4⟩=>?_
 refine thn (hp pins s4 σ H4 x3 x4 old v _ I4 r3 r4 q4) fun new s5 ⟨x5,H5,I5,r5,q5⟩=>?_
 exact thn (hs pins s5 σ H5 x1 x2 x5 ov iv new _ I5 r1 r2 r5 q5) fun _ s6 ⟨H6,I6,q6⟩=>⟨σ,H6,I6,q6⟩
def ipI (f:Int→Int→Int):TIp:=fun x y H Q=>∃ i j,x = .int i∧y = .int j∧Q (.int (f i j)) H
theorem z74:PIp X .Add (ipI fun i j=>i + j):=by
 intro pins s σ H x y v u Q I r1 r2 h
 obtain ⟨i,j,e1,e2,q⟩:=h
 subst e1;subst e2
 obtain ⟨t,rfl⟩:=r1
 obtain ⟨t',rfl⟩:=r2
 exact iadd_int ⟨.int _,H,I.tok _,⟨_,rfl⟩,q⟩
theorem zeX:PIp X .Sub (ipI fun i j=>i - j):=by
 intro pins s σ H x y v u Q I r1 r2 h
 obtain ⟨i,j,e1,e2,q⟩:=h
 subst e1;subst e2
 obtain ⟨t,rfl⟩:=r1
 obtain ⟨t',rfl⟩:=r2
 exact isub_int ⟨.int _,H,I.tok _,⟨_,rfl⟩,q⟩
end
section
variable {X:Cx} {pos:Pos}
def zbe (c:TT) (tb:TS):TS:=fun D σ H=>∃ W:Nat→St→Hp→Prop,(∃ m,W m σ H)∧∀ m σ H,W m σ H →
 c σ H fun b H1=>if b=true then ∃ N:St→Hp→Prop,(∀ σ' H',N σ' H'→∃ m',m' < m∧W m' σ' H')∧tb { D with nx:=N,ct:=N,bk:=D.nx } σ H1 else D.nx σ H1
theorem ziI {c:Expr} {body:List Stmt} {tc:TT} {tb:TS} (hp:PassesOwn (model X.prog X.w) X.A X.env X.xe) (hc:PT X c tc) (hb:PSs X body tb):PS X (.While c body [] pos) (zbe tc tb):=by
 intro pins s σ H D I h
 obtain ⟨W,⟨m0,w0⟩,turn⟩:=h
 refine wpAny_While (codeAny_whileLoop (fun n s'=>∃ σ' H',Inv X pins σ' H' s'∧W n σ' H') ?_ m0 ⟨σ,H,I,w0⟩)
 rintro n s1 ⟨σ1,H1,I1,w1⟩
 refine wpAny_passesOwn hp (thn (hc pins s1 σ1 H1 _ I1 (turn n σ1 H1 w1)) fun b s2 ⟨H2,I2,q2⟩=>?_)
 cases b with
 | true=>
  obtain ⟨N,hN,q2⟩:=q2
  rw [if_pos rfl]
  refine wpAny_passesOwn hp (thn (hb pins s2 σ1 H2 _ I2 q2) fun f s3 q3=>?_)
  cases f with
  | next=>
   obtain ⟨σ3,H3,I3,n3⟩:=q3
   obtain ⟨m',hm,w3⟩:=hN σ3 H3 n3
   exact ⟨m',hm,σ3,H3,I3,w3⟩
  | cont=>
   obtain ⟨σ3,H3,I3,n3⟩:=q3
   obtain ⟨m',hm,w3⟩:=hN σ3 H3 n3
   exact ⟨m',hm,σ3,H3,I3,w3⟩
  | brk=>exact q3
  | ret v=>exact q3
 | false=>
  rw [if_neg Bool.false_ne_true]
  exact wpAny_execs_nil ⟨σ1,H2,I2,q2⟩
end
structure It where
 go:Nat→Hp→Prop
 yld:Nat→Hp→V→Hp→Prop
 stop:Nat→Hp→Prop
def Zw (X:Cx) (pins:List (Addr × Obj)) (H:Hp) (b:Addr):Prop :=
 H b=none∧b≠X.env.locals∧b ∉ X.fs∧(b∈X.ex∨X.s_0.heap.objs.size≤b)∧(∀ x c,X.env.cells.lookup x=some c→c≠b)∧∀ p∈X.pn ++ pins,p.1≠b
theorem Inv.fpOk {X:Cx} {pins:List (Addr × Obj)} {σ : St} {H H':Hp} {s:Shared} {b:Addr} (I:Inv X pins σ H s) (hb:s.heap.objs.size≤b) (hn:H' b=none):Zw X pins H' b:=by
 refine ⟨hn,Nat.ne_of_gt (Nat.lt_of_lt_of_le I.lt hb),I.nofs hb,.inr (Nat.le_trans I.sz hb),fun x c e z=>?_,fun p hp z=>?_⟩
 ·obtain ⟨v,q⟩:=I.cell x c e
  exact absurd (Nat.lt_of_lt_of_le q.lt (by rw [z];exact hb)) (Nat.lt_irrefl _)
 ·exact absurd (Nat.lt_of_lt_of_le (Heap.lt_size (I.pin p hp).1) (by rw [z];exact hb)) (Nat.lt_irrefl _)
structure Turn (P:Program) (w:World) (K:PySem.W.Frag) (tg:Expr) (J:It) (fp:List Addr) (it:Addr) (tn:Nat→Heap→Prop):Prop where
 mem:it∈fp
 obj:∀ i h,tn i h→∀ b∈fp,∃ o,h.get? b=some o∧∀ v,o.data≠.cell v
 keep:∀ i h h',tn i h→(∀ b∈fp,∀ o,h.get? b=some o→h'.get? b=some o)→tn i h'
 item:∀ (X:Cx),X.prog=P→X.w=w→X.K=K→X.calm=true→∀ (i:Nat) (pins:List (Addr × Obj)) (s:Shared) (σ : St) (H:Hp) (E:Value→Shared→Prop),Inv X pins σ H s→(∀ b∈fp,Zw X pins H b)→tn i s.heap→J.go i H →
  wpAny (model P w) X.A (pyNext (.ref it)) (fun r s1=>∃ u,r=some u ∧
   wpAny (model P w) X.A (letOwnedTupleGo tg (.ref it) u) (fun _ s2=>∃ x H',Inv X pins σ H' s2∧RelV x u∧J.yld i H x H'∧tn (i + 1) s2.heap∧∀ b∈fp,H' b=none) E s1) E s
 done:∀ (X:Cx),X.prog=P→X.w=w→X.K=K→X.calm=true→∀ (i:Nat) (pins:List (Addr × Obj)) (s:Shared) (σ : St) (H:Hp) (E:Value→Shared→Prop),Inv X pins σ H s→(∀ b∈fp,Zw X pins H b)→tn i s.heap→J.stop i H →
  wpAny (model P w) X.A (pyNext (.ref it)) (fun r s1=>r=none∧Inv X pins σ H s1) E s
 self:∀ (A:Around) (i:Nat) (s:Shared) (Q:Value→Shared→Prop) (E:Value→Shared→Prop),tn i s.heap→Q (.ref it) s→wpAny (model P w) A (pyIter (.ref it)) Q E s
abbrev TI:=St→Hp→(It→Hp→Prop)→Prop
def PIE (X:Cx) (pins:List (Addr × Obj)) (σ : St) (tg:Expr) (R:It→Hp→Prop) (itv:Value) (s2:Shared):Prop :=
 ∃ (it:Addr) (fp:List Addr) (tn:Nat→Heap→Prop) (J:It) (H':Hp),itv = .ref it∧Inv X pins σ H' s2∧Turn X.prog X.w X.K tg J fp it tn∧tn 0 s2.heap∧(∀ b∈fp,Zw X pins H' b)∧R J H'
def PI (X:Cx) (tg iter:Expr) (wi:TI):Prop :=
 ∀ (pins:List (Addr × Obj)) (s:Shared) (σ : St) (H:Hp) (R:It→Hp→Prop),Inv X pins σ H s→wi σ H R →
  wpAny (model X.prog X.w) X.A (eval iter X.env) (fun v s1=>wpAny (model X.prog X.w) X.A (pyIter v) (PIE X pins σ tg R) X.xe s1) X.xe s
theorem z0t {M:Model} {A:Around} {E:Value→Shared→Prop} {s:Shared} {tg:Expr} {it:Addr} {u:Value} {o:Obj} {n:String} {vs:Array Value} {Q:Unit→Shared→Prop} (ho:s.heap.get? it=some o) (hc:o.cls = .type n) (hd:o.data = .fields vs)
  (hn:["enumerate", "zip", "dict_itemiterator", "dict_reverseitemiterator", "odict_iterator", "itertools.zip_longest", "itertools.pairwise"].contains n=false) (hQ:Q () s):wpAny M A (letOwnedTupleGo tg (.ref it) u) Q E s:=by
 unfold letOwnedTupleGo
 cases tg <;> first
  | exact wpAny_pure hQ
  | (cases u <;> first
    | exact wpAny_pure hQ
    | (refine wpAny_bind (wpAny_load ho ?_);rw [hc,hd];show wpAny M A (if (["enumerate", "zip", "dict_itemiterator", "dict_reverseitemiterator", "odict_iterator", "itertools.zip_longest", "itertools.pairwise"].contains n && vs[0]? == some (rawInt _))=true then _ else _) Q E s;rw [if_neg (by intro h;rw [hn,Bool.false_and] at h;cases h)];exact wpAny_pure hQ))
def Itl (K:PySem.W.Frag) (a:Addr):It :=
 ⟨fun i H=>∃ xs x,SqL K H a xs∧xs[i]?=some x,fun i H x H'=>H'=H∧∀ xs,SqL K H a xs→xs[i]?=some x,fun i H=>∃ xs,SqL K H a xs∧xs.length≤i⟩
def Itr (lo:Int) (n:Nat):It:=⟨fun i _=>i < n,fun i H x H'=>H'=H∧x = .int (lo + i),fun i _=>n≤i⟩
theorem zkT {P:Program} {w:World} {K:PySem.W.Frag} {tg:Expr} (a it:Addr):Turn P w K tg (Itl K a) [it] it (fun i h=>h.IsListIter it a i) where
 mem:=by simp
 obj:=fun i h st b hb=>by
  have e:b=it:=by simpa using hb
  subst e
  obtain ⟨o,e,c,d⟩:=st
  exact ⟨o,e,fun v z=>by rw [d] at z;cases z⟩
 keep:=fun i h h' st k=>st.at fun o e=>k it (by simp) o e
 item:=by
  intro X hP hw hK hc i pins s σ H E I hf st hg
  subst hP hw hK
  obtain ⟨xs,x,hq,hx⟩:=hg
  obtain ⟨its,rv,p,hz⟩:=I.list hq
  obtain ⟨u,hu,ru⟩:=rv.get hx
  obtain ⟨f0,f1,f2,f3,f4,f5⟩:=hf it (by simp)
  refine wpAny_pyNext_list_item st p.isList (x:=u) (by simpa using hu) fun h' st' sb=>?_
  have I1:Inv X pins σ H { s with heap:=h' }:=I.turned (t':=s.toks) (fun b o hb e=>(sb.2 b hb).trans e) f0 f1 f3 f4 f5
  obtain ⟨o,e,c,d⟩:=id st'
  exact ⟨u,rfl,z0t (s:={ s with heap:=h' }) e c d (by decide) ⟨x,H,I1,ru,⟨rfl,fun ys hy=>by rw [I.list_inj hy hq];exact hx⟩,st',fun b hb=>(hf b hb).1⟩⟩
 done:=by
  intro X hP hw hK hc i pins s σ H E I hf st hg
  subst hP hw hK
  obtain ⟨xs,hq,hx⟩:=hg
  obtain ⟨its,rv,p,hz⟩:=I.list hq
  obtain ⟨f0,f1,f2,f3,f4,f5⟩:=hf it (by simp)
  have hl:=rv.length
  exact wpAny_pyNext_list_end (I.ok.hd hc) st p.isList (by simp;omega) fun h' eb=>⟨rfl,I.turned (t':=s.toks) (fun b o hb e=>eb b o hb e) f0 f1 f3 f4 f5⟩
 self:=fun _ _ _ _ _ st h=>wpAny_pyIter_listiter st h
theorem zkU {P:Program} {w:World} {K:PySem.W.Frag} {tg:Expr} (it:Addr) (lo:Int) (n:Nat):Turn P w K tg (Itr lo n) [it] it (fun i h=>IsRangeIter h it (lo + (i:Nat) * 1) ((n:Int) - (i:Nat)) 1) where
 mem:=by simp
 obj:=fun i h st b hb=>by
  have e:b=it:=by simpa using hb
  subst e
  exact ⟨_,st,fun v z=>by
   have z':Data.fields _=Data.cell v:=z
   cases z'⟩
 keep:=fun i h h' st k=>k it (by simp) _ st
 item:=by
  intro X hP hw hK hc i pins s σ H E I hf st hg
  subst hP hw hK
  obtain ⟨f0,f1,f2,f3,f4,f5⟩:=hf it (by simp)
  have W:=Walks.range (prog:=X.prog) (w:=X.w) (I.ok.hd hc) it lo 1 n
  refine W.item i s _ _ hg st fun v h' tk hv st' kk=>?_
  obtain ⟨t,rfl⟩:=hv
  have I1:Inv X pins σ H { s with heap:=h',toks:=tk }:=I.turned (fun b o hb e=>kk b o (by simpa using hb) e) f0 f1 f3 f4 f5
  refine ⟨_,rfl,z0t (s:={ s with heap:=h',toks:=tk }) (n:="range_iterator") st' rfl rfl (by decide) ⟨.int (lo + i),H,I1,⟨t,?_⟩,⟨rfl,rfl⟩,st',fun b hb=>(hf b hb).1⟩⟩
  rw [Int.mul_one]
 done:=by
  intro X hP hw hK hc i pins s σ H E I hf st hg
  subst hP hw hK
  obtain ⟨f0,f1,f2,f3,f4,f5⟩:=hf it (by simp)
  exact wpAny_pyNext_range_end (I.ok.hd hc) st (by have:n≤i:=hg;omega) fun h' eb=>⟨rfl,I.turned (t':=s.toks) (fun b o hb e=>eb b o hb e) f0 f1 f3 f4 f5⟩
 self:=fun _ _ _ _ _ st h=>wpAny_pyIter_rangeiter st h
end L2
namespace L2
open PySem PySem.Spec PyProof.Rows
section
variable {X:Cx} {tg:Expr}
def z3F (K:PySem.W.Frag) (tl:TE):TI:=fun σ H R=>tl σ H fun x H1=>∃ a,x = .ref a∧(∃ xs,SqL K H1 a xs)∧R (Itl K a) H1
theorem ziu {l:Expr} {tl:TE} (hl:PE X l tl):PI X tg l (z3F X.K tl):=by
 intro pins s σ H R I h
 refine thn (hl pins s σ H _ I h) fun v s1 ⟨x,H1,I1,r1,q1⟩=>?_
 obtain ⟨a,e,⟨xs,hq⟩,q⟩:=q1
 subst e
 cases r1
 obtain ⟨its,rv,p,hz⟩:=I1.list hq
 refine wpAny_pyIter_list p.isList ?_
 refine ⟨s1.heap.objs.size,[s1.heap.objs.size],_,_,H1,rfl,I1.kept (t':=s1.toks) fun b o e=>Heap.get?_push_of_some _ e,zkT a _,⟨_,Heap.get?_push_size _ rfl,rfl,rfl⟩,fun b hb=>?_,q⟩
 have e:b=s1.heap.objs.size:=by simpa using hb
 subst e
 exact I1.fpOk (Nat.le_refl _) (I1.hok.fresh (Nat.le_refl _))
theorem z8q {pins:List (Addr × Obj)} {σ : St} {H:Hp} {s:Shared} {R:It→Hp→Prop} {E:Value→Shared→Prop} {lo hi:Int} {t u v:Tok} {tk:Nat} (I:Inv X pins σ H s) (h1:-(2 ^ 62)≤lo) (h2:lo < 2 ^ 62) (h3:-(2 ^ 62)≤hi) (h4:hi < 2 ^ 62)
  (q:R (Itr lo (hi - lo).toNat) H):wpAny (model X.prog X.w) X.A (pyIter (.ref s.heap.objs.size)) (PIE X pins σ tg R) E { s with heap:=s.heap.push { cls:=.type "range",data:=.fields #[.int lo t,.int hi u,.int 1 v] },toks:=tk }:=by
 refine wpAny_pyIter_range (IsRange.new ..) (small_one h1 h2 h3 h4) ?_
 have I1:Inv X pins σ H { s with heap:=s.heap.push { cls:=.type "range",data:=.fields #[.int lo t,.int hi u,.int 1 v] },toks:=tk }:=I.kept fun b o e=>Heap.get?_push_of_some _ e
 refine ⟨(s.heap.push { cls:=.type "range",data:=.fields #[.int lo t,.int hi u,.int 1 v] }).objs.size,[(s.heap.push { cls:=.type "range",data:=.fields #[.int lo t,.int hi u,.int 1 v] }).objs.size],_,_,H,rfl,
  I1.kept (t':=tk) fun b o e=>Heap.get?_push_of_some _ e,zkU _ lo (hi - lo).toNat,?_,fun b hb=>?_,q⟩
 ·have e1:lo + ((0:Nat):Int) * 1=lo:=by simp
  have e2:(((hi - lo).toNat:Nat):Int) - ((0:Nat):Int)=Builtin.Range.rangeSize lo hi 1:=by rw [rangeSize_one];split <;> omega
  show IsRangeIter _ _ (lo + ((0:Nat):Int) * 1) ((((hi - lo).toNat:Nat):Int) - ((0:Nat):Int)) 1
  rw [e1,e2]
  exact Heap.get?_push_size _ rfl
 ·have e:b=(s.heap.push { cls:=.type "range",data:=.fields #[.int lo t,.int hi u,.int 1 v] }).objs.size:=by simpa using hb
  subst e
  exact I1.fpOk (Nat.le_refl _) (I1.hok.fresh (Nat.le_refl _))
def z6T (ta:TA):TI:=fun σ H R=>ta σ H fun vs H1=>∃ j:Int,vs=[.int j]∧-(2 ^ 62)≤j∧j < 2 ^ 62∧R (Itr 0 j.toNat) H1
def z6U (ta:TA):TI:=fun σ H R=>ta σ H fun vs H1=>∃ i j:Int,vs=[.int i,.int j]∧(-(2 ^ 62)≤i∧i < 2 ^ 62∧-(2 ^ 62)≤j∧j < 2 ^ 62)∧R (Itr i (j - i).toNat) H1
theorem ziv {a:Expr} {ta:TA} {p pos:Pos} (hg:Gl X "range") (hm:X.mg "range" = none) (ha:PA X [a] ta) (hs:starEach [a] X.env=[(false,eval a X.env)]:=by rfl):PI X tg (.Call (.Name "range" p) [a] [] pos) (z6T ta):=by
 intro pins s σ H R I h
 refine Call_ (z0y I hg hm boot_range (PyProof.Rows.callWith_type1 (thn (ha pos pins s σ H _ I h) fun us s1 ⟨vs,H1,I1,r1,q1⟩=>?_) hs rfl))
 obtain ⟨j,e,q1,q2,q⟩:=q1
 subst e
 cases r1 with
 | cons r rr=>
  cases rr
  obtain ⟨t,rfl⟩:=r
  exact call_range_1 (z8q I1 (by omega) (by omega) q1 q2 (by simpa using q))
theorem ziw {a b:Expr} {ta:TA} {p pos:Pos} (hg:Gl X "range") (hm:X.mg "range" = none) (ha:PA X [a,b] ta) (hs:starEach [a,b] X.env=[(false,eval a X.env),(false,eval b X.env)]:=by rfl) (hs2:starEach [b] X.env=[(false,eval b X.env)]:=by rfl) :
  PI X tg (.Call (.Name "range" p) [a,b] [] pos) (z6U ta):=by
 intro pins s σ H R I h
 refine Call_ (z0y I hg hm boot_range (PyProof.Rows.callWith_type1 (thn (ha pos pins s σ H _ I h) fun us s1 ⟨vs,H1,I1,r1,q1⟩=>?_) (by rw [hs,hs2]) (by rw [hs2];rfl)))
 obtain ⟨i,j,e,⟨q1,q2,q3,q4⟩,q⟩:=q1
 subst e
 cases r1 with
 | cons r rr=>
  cases rr with
  | cons r' rr=>
   cases rr
   obtain ⟨t,rfl⟩:=r
   obtain ⟨t',rfl⟩:=r'
   exact call_range_2 (z8q I1 q1 q2 q3 q4 q)
def zba (wi:TI) (g:TG) (tb:TS):TS:=fun D σ H=>wi σ H fun J H1=>∃ W:Nat→Nat→St→Hp→Prop,(∃ m,W 0 m σ H1)∧∀ i m σ H,W i m σ H →
 (J.stop i H∧D.nx σ H)∨(J.go i H∧∃ N:St→Hp→Prop,(∀ σ' H',N σ' H'→∃ m',m' < m∧W (i + 1) m' σ' H')∧∀ x H',J.yld i H x H'→g x σ H' fun σ2 H2=>tb { D with nx:=N,ct:=N,bk:=D.nx } σ2 H2)
def z0M (fp:List Addr) (h:Heap):List (Addr × Obj):=fp.filterMap fun b=>(h.get? b).map fun o=>(b,o)
theorem z4g {fp:List Addr} {h:Heap} {b:Addr} {o:Obj} (hb:b∈fp) (e:h.get? b=some o):(b,o)∈z0M fp h:=List.mem_filterMap.mpr ⟨b,hb,by rw [e];rfl⟩
theorem zgE {fp:List Addr} {h:Heap} {p:Addr × Obj} (hp:p∈z0M fp h):p.1∈fp∧h.get? p.1=some p.2:=by
 obtain ⟨b,hb,e⟩:=List.mem_filterMap.mp hp
 cases q:h.get? b with
 | none=>rw [q] at e;cases e
 | some o=>
  rw [q] at e
  have e':(b,o)=p:=Option.some.inj e
  subst e'
  exact ⟨hb,q⟩
theorem Inv.pinned {pins:List (Addr × Obj)} {σ : St} {H:Hp} {s:Shared} {fp:List Addr} (I:Inv X pins σ H s) (hf:∀ b∈fp,Zw X pins H b) (ho:∀ b∈fp,∃ o,s.heap.get? b=some o∧∀ v,o.data≠.cell v):Inv X (pins ++ z0M fp s.heap) σ H s :=
 I.pins_of fun p hp=>(List.mem_append.mp hp).elim (fun z=>I.pin p (List.mem_append_right _ z)) fun z=>by
  obtain ⟨hb,e⟩:=zgE z
  obtain ⟨f0,f1,f2,_⟩:=hf p.1 hb
  obtain ⟨o,e',d⟩:=ho p.1 hb
  rw [e] at e';cases e'
  exact ⟨e,f0,f1,f2,d⟩
theorem Inv.unpinned {pins pl:List (Addr × Obj)} {σ : St} {H:Hp} {s:Shared} (I:Inv X (pins ++ pl) σ H s):Inv X pins σ H s:=I.pins_of fun p hp=>I.pin p (List.mem_append_right _ (List.mem_append_left _ hp))
theorem yK {iter:Expr} {body:List Stmt} {wi:TI} {g:TG} {tb:TS} {pos:Pos} (hp:PassesOwn (model X.prog X.w) X.A X.env X.xe) (hc:X.calm=true) (hi:PI X tg iter wi) (hg:PG X tg g) (hb:PSs X body tb)
  (hs:∀ x,foldedSetIterable iter X.env x=pure x:=by intro _;rfl):PS X (.For tg iter body [] pos) (zba wi g tb):=by
 intro pins s σ H D I h
 refine wpAny_For (thn (hi pins s σ H _ I h) fun v s1 h1=>thn h1 fun itv s2 h2=>?_) hs
 obtain ⟨it,fp,tn,J,H2,e,I2,T,st2,f2,W,⟨m0,w0⟩,turn⟩:=h2
 subst e
 have stat:∀ {H':Hp},(∀ b∈fp,H' b=none)→∀ b∈fp,Zw X pins H' b:=fun hn b hb=>⟨hn b hb,(f2 b hb).2⟩
 refine codeAny_forLoop_any (fun n s'=>∃ i σ' H',Inv X pins σ' H' s'∧tn i s'.heap∧(∀ b∈fp,H' b=none)∧W i n σ' H') ?_ m0 ⟨0,σ,H2,I2,st2,fun b hb=>(f2 b hb).1,w0⟩
 rintro n s3 ⟨i,σ3,H3,I3,st3,fr3,w3⟩
 rcases turn i n σ3 H3 w3 with ⟨stop,qn⟩ | ⟨go,N,hN,step⟩
 ·refine wpAny_passesOwn hp (thn (T.done X rfl rfl rfl hc i pins s3 σ3 H3 X.xe I3 (stat fr3) st3 stop) fun r s4 ⟨hr,I4⟩=>?_)
  subst hr
  exact wpAny_execs_nil ⟨σ3,H3,I4,qn⟩
 ·refine wpAny_passesOwn hp (thn (T.item X rfl rfl rfl hc i pins s3 σ3 H3 X.xe I3 (stat fr3) st3 go) fun r s4 ⟨u,hr,h4⟩=>?_)
  subst hr
  refine wpAny_passesOwn hp (thn h4 fun _ s5 ⟨x,H5,I5,r5,y5,st5,fr5⟩=>?_)
  have I5':=I5.pinned (stat fr5) (T.obj _ _ st5)
  refine wpAny_passesOwn hp (thn (hg _ s5 σ3 H5 x u _ I5' r5 (step x H5 y5)) fun _ s6 ⟨σ6,H6,I6,q6⟩=>?_)
  refine wpAny_passesOwn hp (thn (hb _ s6 σ6 H6 _ I6 q6) fun f s7 q7=>?_)
  have again:∀ {σ7:St} {H7:Hp},Inv X (pins ++ z0M fp s5.heap) σ7 H7 s7→N σ7 H7→∃ m,m < n∧∃ i σ' H',Inv X pins σ' H' s7∧tn i s7.heap∧(∀ b∈fp,H' b=none)∧W i m σ' H':=fun {σ7 H7} I7 n7=>by
   obtain ⟨m',hm,w7⟩:=hN σ7 H7 n7
   refine ⟨m',hm,i + 1,σ7,H7,I7.unpinned,T.keep _ _ _ st5 fun b hb o e=>(I7.pin (b,o) (List.mem_append_right _ (List.mem_append_right _ (z4g hb e)))).1,fun b hb=>?_,w7⟩
   obtain ⟨o,e,d⟩:=T.obj _ _ st5 b hb
   exact (I7.pin (b,o) (List.mem_append_right _ (List.mem_append_right _ (z4g hb e)))).2.1
  cases f with
  | next=>obtain ⟨σ7,H7,I7,n7⟩:=q7;exact again I7 n7
  | cont=>obtain ⟨σ7,H7,I7,n7⟩:=q7;exact again I7 n7
  | brk=>obtain ⟨σ7,H7,I7,q7⟩:=q7;exact ⟨σ7,H7,I7.unpinned,q7⟩
  | ret v=>obtain ⟨x7,σ7,H7,I7,r7,q7⟩:=q7;exact ⟨x7,σ7,H7,I7.unpinned,r7,q7⟩
end
theorem zd8 {K:PySem.W.Frag} {a:Addr} {xs:List V} {g:TG} {tb:TS} {D:Ends} {σ : St} {H:Hp} (Pv:Nat→St→Hp→Prop) (h0:Pv 0 σ H) (hl:∀ i σ H,i≤xs.length→Pv i σ H→SqL K H a xs)
  (hs:∀ i x σ H,xs[i]?=some x→Pv i σ H→g x σ H fun σ2 H2=>tb { D with nx:=Pv (i + 1),ct:=Pv (i + 1),bk:=D.nx } σ2 H2) (hd:∀ σ H,Pv xs.length σ H→D.nx σ H) :
  ∃ W:Nat→Nat→St→Hp→Prop,(∃ m,W 0 m σ H)∧∀ i m σ H,W i m σ H →
   ((Itl K a).stop i H∧D.nx σ H)∨((Itl K a).go i H∧∃ N:St→Hp→Prop,(∀ σ' H',N σ' H'→∃ m',m' < m∧W (i + 1) m' σ' H')∧∀ x H',(Itl K a).yld i H x H'→g x σ H' fun σ2 H2=>tb { D with nx:=N,ct:=N,bk:=D.nx } σ2 H2):=by
 refine ⟨fun i m σ H=>m=xs.length - i∧i≤xs.length∧Pv i σ H,⟨xs.length,by simp,Nat.zero_le _,h0⟩,?_⟩
 rintro i m σ H ⟨rfl,hi,p⟩
 have q:=hl i σ H hi p
 by_cases hlt:i < xs.length
 ·refine .inr ⟨⟨xs,xs[i],q,by simp [hlt]⟩,Pv (i + 1),fun σ' H' p'=>⟨xs.length - (i + 1),by omega,rfl,hlt,p'⟩,fun x H' y=>?_⟩
  obtain ⟨e,y⟩:=y
  subst e
  exact hs i x σ _ (y xs q) p
 ·have e:i=xs.length:=by omega
  subst e
  exact .inl ⟨⟨xs,q,Nat.le_refl _⟩,hd σ H p⟩
theorem zd9 {lo:Int} {n:Nat} {g:TG} {tb:TS} {D:Ends} {σ : St} {H:Hp} (Pv:Nat→St→Hp→Prop) (h0:Pv 0 σ H)
  (hs:∀ i σ H,i < n→Pv i σ H→g (.int (lo + i)) σ H fun σ2 H2=>tb { D with nx:=Pv (i + 1),ct:=Pv (i + 1),bk:=D.nx } σ2 H2) (hd:∀ σ H,Pv n σ H→D.nx σ H) :
  ∃ W:Nat→Nat→St→Hp→Prop,(∃ m,W 0 m σ H)∧∀ i m σ H,W i m σ H →
   ((Itr lo n).stop i H∧D.nx σ H)∨((Itr lo n).go i H∧∃ N:St→Hp→Prop,(∀ σ' H',N σ' H'→∃ m',m' < m∧W (i + 1) m' σ' H')∧∀ x H',(Itr lo n).yld i H x H'→g x σ H' fun σ2 H2=>tb { D with nx:=N,ct:=N,bk:=D.nx } σ2 H2):=by
 refine ⟨fun i m σ H=>m=n - i∧i≤n∧Pv i σ H,⟨n,by simp,Nat.zero_le _,h0⟩,?_⟩
 rintro i m σ H ⟨rfl,hi,p⟩
 by_cases hlt:i < n
 ·refine .inr ⟨hlt,Pv (i + 1),fun σ' H' p'=>⟨n - (i + 1),by omega,rfl,hlt,p'⟩,fun x H' y=>?_⟩
  obtain ⟨e,y⟩:=y
  subst e y
  exact hs i σ _ hlt p
 ·have e:i=n:=by omega
  subst e
  exact .inl ⟨Nat.le_refl _,hd σ H p⟩
end L2
namespace L2
open PySem PySem.Spec PyProof.Rows
abbrev R2:=V→V→Hp→VK→Prop
def OpR (X:Cx) (f:Value→Value→Sem Value) (r:R2):Prop :=
 ∀ (pins:List (Addr × Obj)) (s:Shared) (σ : St) (H:Hp) (x y:V) (v u:Value) (Q:VK),Inv X pins σ H s→RelV x v→RelV y u→r x y H Q →
  wpAny (model X.prog X.w) X.A (f v u) (EP X pins σ Q) X.xe s
def UnR (X:Cx) (f:Value→Sem Value) (r:V→Hp→VK→Prop):Prop :=
 ∀ (pins:List (Addr × Obj)) (s:Shared) (σ : St) (H:Hp) (x:V) (v:Value) (Q:VK),Inv X pins σ H s→RelV x v→r x H Q →
  wpAny (model X.prog X.w) X.A (f v) (EP X pins σ Q) X.xe s
def Z7 (X:Cx) (f:Value) (r:List V→Hp→VK→Prop):Prop :=
 ∀ (pins:List (Addr × Obj)) (s:Shared) (σ : St) (H:Hp) (xs:List V) (us:List Value) (Q:VK),Inv X pins σ H s→Vals xs us→r xs H Q →
  wpAny (model X.prog X.w) X.A (call f us) (EP X pins σ Q) X.xe s
def tOp (r:R2) (ta tb:TE):TE:=fun σ H Q=>ta σ H fun x H1=>tb σ H1 fun y H2=>r x y H2 Q
def tUn (r:V→Hp→VK→Prop) (ta:TE):TE:=fun σ H Q=>ta σ H fun x H1=>r x H1 Q
def rI (C:Int→Int→Prop) (g:Int→Int→V):R2:=fun x y H Q=>∃ i j,x = .int i∧y = .int j∧C i j∧Q (g i j) H
def rI0 (g:Int→Int→V):R2:=fun x y H Q=>∃ i j,x = .int i∧y = .int j∧Q (g i j) H
def rU (g:Int→V):V→Hp→VK→Prop:=fun x H Q=>∃ i,x = .int i∧Q (g i) H
section
variable {X:Cx} {a b c:Expr} {ta tb tc:TE} {pos:Pos}
theorem z3n (ha:PE X a ta) (hb:PE X b tb) {pins:List (Addr × Obj)} {s:Shared} {σ : St} {H:Hp} {R:V→V→Hp→Prop} (I:Inv X pins σ H s)
  (h:ta σ H fun x H1=>tb σ H1 fun y H2=>R x y H2) {Q:Value→Shared→Prop} {f:Value→Value→Sem Value}
  (hf:∀ v u s2 x y H2,Inv X pins σ H2 s2→RelV x v→RelV y u→R x y H2→wpAny (model X.prog X.w) X.A (f v u) Q X.xe s2) :
  wpAny (model X.prog X.w) X.A (eval a X.env) (fun v s₁=>wpAny (model X.prog X.w) X.A (eval b X.env) (fun u s₂=>wpAny (model X.prog X.w) X.A (f v u) Q X.xe s₂) X.xe s₁) X.xe s:=by
 refine thn (ha pins s σ H _ I h) fun v s1 ⟨x,H1,I1,r1,q1⟩=>?_
 refine thn (hb pins s1 σ H1 _ I1 q1) fun u s2 ⟨y,H2,I2,r2,q2⟩=>?_
 exact hf v u s2 x y H2 I2 r1 r2 q2
theorem zz {op:Operator} {r:R2} (ho:OpR X (binaryOp op) r) (ha:PE X a ta) (hb:PE X b tb):PE X (.BinOp a op b pos) (tOp r ta tb):=by
 intro pins s σ H Q I h
 exact wpAny_BinOp (z3n ha hb I h fun v u s2 x y H2 I2 rx ry q=>ho pins s2 σ H2 x y v u Q I2 rx ry q)
theorem ZY {op:UnaryOp} {r:V→Hp→VK→Prop} (ho:UnR X (unaryOp op) r) (ha:PE X a ta):PE X (.UnaryOp op a pos) (tUn r ta):=by
 intro pins s σ H Q I h
 exact UnaryOp_ (thn (ha pins s σ H _ I h) fun v s1 ⟨x,H1,I1,r1,q1⟩=>ho pins s1 σ H1 x v Q I1 r1 q1)
theorem opI {f:Value→Value→Sem Value} {C:Int→Int→Prop} {g:Int→Int→Int}
  (rule:∀ (i j:Int) (t u:Tok) (s:Shared) (Q:Value→Shared→Prop) (E:Value→Shared→Prop),C i j→Q (.int (g i j) s.toks) { s with toks:=s.toks + 1 }→wpAny (model X.prog X.w) X.A (f (.int i t) (.int j u)) Q E s) :
  OpR X f (rI C fun i j=>.int (g i j)):=by
 intro pins s σ H x y v u Q I rx ry h
 obtain ⟨i,j,rfl,rfl,hc,q⟩:=h
 obtain ⟨t,rfl⟩:=rx
 obtain ⟨t',rfl⟩:=ry
 exact rule i j t t' s _ _ hc ⟨.int (g i j),H,I.tok _,⟨_,rfl⟩,q⟩
theorem z7U {f:Value→Value→Sem Value} {g:Int→Int→Int}
  (rule:∀ (i j:Int) (t u:Tok) (s:Shared) (Q:Value→Shared→Prop) (E:Value→Shared→Prop),Q (.int (g i j) s.toks) { s with toks:=s.toks + 1 }→wpAny (model X.prog X.w) X.A (f (.int i t) (.int j u)) Q E s) :
  OpR X f (rI0 fun i j=>.int (g i j)):=by
 intro pins s σ H x y v u Q I rx ry h
 obtain ⟨i,j,rfl,rfl,q⟩:=h
 obtain ⟨t,rfl⟩:=rx
 obtain ⟨t',rfl⟩:=ry
 exact rule i j t t' s _ _ ⟨.int (g i j),H,I.tok _,⟨_,rfl⟩,q⟩
theorem z4C {f:Value→Value→Sem Value} {g:Int→Int→Bool}
  (rule:∀ (i j:Int) (t u:Tok) (s:Shared) (Q:Value→Shared→Prop) (E:Value→Shared→Prop),Q (.bool (g i j)) s→wpAny (model X.prog X.w) X.A (f (.int i t) (.int j u)) Q E s) :
  OpR X f (rI0 fun i j=>.bl (g i j)):=by
 intro pins s σ H x y v u Q I rx ry h
 obtain ⟨i,j,rfl,rfl,q⟩:=h
 obtain ⟨t,rfl⟩:=rx
 obtain ⟨t',rfl⟩:=ry
 exact rule i j t t' s _ _ ⟨.bl (g i j),H,I,rfl,q⟩
def zbD (i j:Int):Prop:=0 < j∧j < 1073741824
def CMul (i j:Int):Prop:=(-(2 ^ 64) < i∧i < 2 ^ 64)∨(-(2 ^ 64) < j∧j < 2 ^ 64)
theorem CMul.ok {i j:Int} (h:CMul i j):IntMulOk i j:=by
 rcases h with ⟨h1,h2⟩ | ⟨h1,h2⟩
 ·exact .of_left (intBits_le_64 h1 h2)
 ·exact .of_right (intBits_le_64 h1 h2)
theorem Zh:OpR X (binaryOp .Add) (rI0 fun i j=>.int (i + j)):=z7U fun _ _ _ _ _ _ _ q=>add_int q
theorem yE:OpR X (binaryOp .Sub) (rI0 fun i j=>.int (i - j)):=z7U fun _ _ _ _ _ _ _ q=>sub_int q
theorem ZK:OpR X (binaryOp .Mult) (rI CMul fun i j=>.int (i * j)):=opI fun _ _ _ _ _ _ _ hc q=>mul_int q hc.ok
theorem zhO:OpR X (binaryOp .FloorDiv) (rI zbD fun i j=>.int (i / j)):=opI fun i j _ _ _ _ _ hc q=>by
 have h1:(0:Int) < j:=hc.1
 have h2:j < 1073741824:=hc.2
 exact floordiv_int (by omega) (by rw [Int.fdiv_eq_ediv_of_nonneg i (by omega)];exact q) (.inl (PyProof.noPylong_small (by omega)))
theorem unI {f:Value→Sem Value} {g:Int→Int}
  (rule:∀ (i:Int) (t:Tok) (s:Shared) (Q:Value→Shared→Prop) (E:Value→Shared→Prop),Q (.int (g i) s.toks) { s with toks:=s.toks + 1 }→wpAny (model X.prog X.w) X.A (f (.int i t)) Q E s) :
  UnR X f (rU fun i=>.int (g i)):=by
 intro pins s σ H x v Q I rx h
 obtain ⟨i,rfl,q⟩:=h
 obtain ⟨t,rfl⟩:=rx
 exact rule i t s _ _ ⟨.int (g i),H,I.tok _,⟨_,rfl⟩,q⟩
theorem Y2:UnR X (unaryOp .USub) (rU fun i=>.int (-i)):=unI fun _ _ _ _ _ q=>neg_int q
end
def za1:V→V→Bool
 | .non,.non=>true | .non,.int _=>true | .int _,.non=>true | .non,.bl _=>true | .bl _,.non=>true | .non,.str _=>true | .str _,.non=>true
 | .int _,.int _=>true | .bl _,.bl _=>true | .str _,.str _=>true | .byt _,.byt _=>true
 | .int _,.str _=>true | .str _,.int _=>true | .bl _,.str _=>true | .str _,.bl _=>true
 | _,_=>false
def rEq:R2:=fun x y H Q=>za1 x y=true∧Q (.bl (decide (x=y))) H
def rNe:R2:=fun x y H Q=>za1 x y=true∧Q (.bl (!decide (x=y))) H
theorem z6p {i j:Int}:decide (V.int i=V.int j)=(i == j):=by
 rw [Bool.eq_iff_iff]
 simp
theorem z6n {i j:Bool}:decide (V.bl i=V.bl j)=(i == j):=by
 rw [Bool.eq_iff_iff]
 simp
theorem z6q {i j:Str}:decide (V.str i=V.str j)=(i == j):=by
 rw [Bool.eq_iff_iff]
 simp
theorem z6o {i j:Array UInt8}:decide (V.byt i=V.byt j)=(i.toList == j.toList):=by
 rw [Bool.eq_iff_iff]
 cases i
 cases j
 simp
section
variable {X:Cx} {a b c:Expr} {ta tb tc:TE} {pos:Pos}
theorem y3 {pins:List (Addr × Obj)} {σ : St} {H:Hp} {s:Shared} {Q:VK} {k k':Bool} (I:Inv X pins σ H s) (q:Q (.bl k) H) (e:k=k'):EP X pins σ Q (.bool k') s:=by
 subst e
 exact ⟨.bl k,H,I,rfl,q⟩
theorem zL:OpR X (compareOp .Eq) rEq:=by
 intro pins s σ H x y v u Q I rx ry h
 obtain ⟨hs,q⟩:=h
 cases x with
 | non=>
  cases rx
  cases y with
  | non=>cases ry;exact PySem.EqNone.eq_none_none (y3 I q (by simp))
  | bl j=>cases ry;exact PySem.EqNone.eq_none_bool (y3 I q (by simp))
  | int j=>obtain ⟨t',rfl⟩:=ry;exact PySem.EqNone.eq_none_int (y3 I q (by simp))
  | str j=>obtain ⟨t',rfl⟩:=ry;exact PySem.EqNone.eq_none_str (y3 I q (by simp))
  | _=>exact absurd (show false=true from hs) Bool.false_ne_true
 | bl i=>
  cases rx
  cases y with
  | non=>cases ry;exact PySem.EqNone.eq_bool_none (y3 I q (by simp))
  | bl j=>cases ry;exact eq_bool (y3 I q z6n)
  | str j=>obtain ⟨t',rfl⟩:=ry;exact PySem.EqMixed.eq_bool_str (y3 I q (by simp))
  | _=>exact absurd (show false=true from hs) Bool.false_ne_true
 | int i=>
  obtain ⟨t,rfl⟩:=rx
  cases y with
  | non=>cases ry;exact PySem.EqNone.eq_int_none (y3 I q (by simp))
  | int j=>obtain ⟨t',rfl⟩:=ry;exact eq_int (y3 I q z6p)
  | str j=>obtain ⟨t',rfl⟩:=ry;exact PySem.EqMixed.eq_int_str (y3 I q (by simp))
  | _=>exact absurd (show false=true from hs) Bool.false_ne_true
 | str i=>
  obtain ⟨t,rfl⟩:=rx
  cases y with
  | non=>cases ry;exact PySem.EqNone.eq_str_none (y3 I q (by simp))
  | bl j=>cases ry;exact PySem.EqMixed.eq_str_bool (y3 I q (by simp))
  | int j=>obtain ⟨t',rfl⟩:=ry;exact PySem.EqMixed.eq_str_int (y3 I q (by simp))
  | str j=>obtain ⟨t',rfl⟩:=ry;exact eq_str (y3 I q z6q)
  | _=>exact absurd (show false=true from hs) Bool.false_ne_true
 | byt i=>
  obtain ⟨t,rfl⟩:=rx
  cases y with
  | byt j=>obtain ⟨t',rfl⟩:=ry;exact PySem.W.eq_bytes (y3 I q z6o)
  | _=>exact absurd (show false=true from hs) Bool.false_ne_true
 | _=>cases y <;> exact absurd (show false=true from hs) Bool.false_ne_true
theorem Zd:OpR X (compareOp .NotEq) rNe:=by
 intro pins s σ H x y v u Q I rx ry h
 obtain ⟨hs,q⟩:=h
 cases x with
 | non=>
  cases rx
  cases y with
  | non=>cases ry;exact PySem.EqNone.ne_none_none (y3 I q (by simp))
  | bl j=>cases ry;exact PySem.EqNone.ne_none_bool (y3 I q (by simp))
  | int j=>obtain ⟨t',rfl⟩:=ry;exact PySem.EqNone.ne_none_int (y3 I q (by simp))
  | str j=>obtain ⟨t',rfl⟩:=ry;exact PySem.EqNone.ne_none_str (y3 I q (by simp))
  | _=>exact absurd (show false=true from hs) Bool.false_ne_true
 | bl i=>
  cases rx
  cases y with
  | non=>cases ry;exact PySem.EqNone.ne_bool_none (y3 I q (by simp))
  | bl j=>cases ry;exact ne_bool (y3 I q (congrArg not z6n))
  | str j=>obtain ⟨t',rfl⟩:=ry;exact PySem.EqMixed.ne_bool_str (y3 I q (by simp))
  | _=>exact absurd (show false=true from hs) Bool.false_ne_true
 | int i=>
  obtain ⟨t,rfl⟩:=rx
  cases y with
  | non=>cases ry;exact PySem.EqNone.ne_int_none (y3 I q (by simp))
  | int j=>obtain ⟨t',rfl⟩:=ry;exact ne_int (y3 I q (congrArg not z6p))
  | str j=>obtain ⟨t',rfl⟩:=ry;exact PySem.EqMixed.ne_int_str (y3 I q (by simp))
  | _=>exact absurd (show false=true from hs) Bool.false_ne_true
 | str i=>
  obtain ⟨t,rfl⟩:=rx
  cases y with
  | non=>cases ry;exact PySem.EqNone.ne_str_none (y3 I q (by simp))
  | bl j=>cases ry;exact PySem.EqMixed.ne_str_bool (y3 I q (by simp))
  | int j=>obtain ⟨t',rfl⟩:=ry;exact PySem.EqMixed.ne_str_int (y3 I q (by simp))
  | str j=>obtain ⟨t',rfl⟩:=ry;exact ne_str (y3 I q (congrArg not z6q))
  | _=>exact absurd (show false=true from hs) Bool.false_ne_true
 | byt i=>
  obtain ⟨t,rfl⟩:=rx
  cases y with
  | byt j=>obtain ⟨t',rfl⟩:=ry;exact PySem.W.ne_bytes (y3 I q (congrArg not z6o))
  | _=>exact absurd (show false=true from hs) Bool.false_ne_true
 | _=>cases y <;> exact absurd (show false=true from hs) Bool.false_ne_true
theorem jv:OpR X (compareOp .Lt) (rI0 fun i j=>.bl (decide (i < j))):=z4C fun _ _ _ _ _ _ _ q=>lt_int q
theorem yz:OpR X (compareOp .LtE) (rI0 fun i j=>.bl (decide (i≤j))):=z4C fun _ _ _ _ _ _ _ q=>le_int q
theorem z1F:OpR X (compareOp .Gt) (rI0 fun i j=>.bl (decide (j < i))):=z4C fun _ _ _ _ _ _ _ q=>gt_int q
theorem zo (b:Expr) {op:CmpOp} (h:op≠.In:=by decide) (h2:op≠.NotIn:=by decide):behindInMarks op b=false:=by
 have e1:(op == CmpOp.In)=false:=by cases op <;> first | rfl | exact absurd rfl h
 have e2:(op == CmpOp.NotIn)=false:=by cases op <;> first | rfl | exact absurd rfl h2
 cases b <;> simp [behindInMarks,e1,e2]
theorem z1I {op:CmpOp} {r:R2} (ho:OpR X (compareOp op) r) (ha:PE X a ta) (hb:PE X b tb) (hm:behindInMarks op b=false):PE X (.Compare a [op] [b] pos) (tOp r ta tb):=by
 intro pins s σ H Q I h
 exact wpAny_Compare1 (z3n ha hb I h fun v u s2 x y H2 I2 rx ry q=>ho pins s2 σ H2 x y v u Q I2 rx ry q) hm
def YD (t:TE):TT:=fun σ H Q=>t σ H fun x H'=>∃ k,x = .bl k∧Q k H'
theorem zq {op:CmpOp} {r:R2} (ho:OpR X (compareOp op) r) (ha:PE X a ta) (hb:PE X b tb) (hm:behindInMarks op b=false):PT X (.Compare a [op] [b] pos) (YD (tOp r ta tb)):=by
 intro pins s σ H Q I h
 refine wpAny_isTrue_Compare1 (thn (ha pins s σ H _ I h) fun v s1 ⟨x,H1,I1,r1,q1⟩=>thn (hb pins s1 σ H1 _ I1 q1) fun u s2 ⟨y,H2,I2,r2,q2⟩=>
  thn (ho pins s2 σ H2 x y v u _ I2 r1 r2 q2) fun c s3 ⟨z,H3,I3,r3,k,e,q3⟩=>?_) hm
 subst e
 cases r3
 exact wpAny_truthy_bool ⟨H3,I3,q3⟩
def z2a (r r':R2) (ta tb tc:TE):TE:=fun σ H Q=>ta σ H fun x H1=>tb σ H1 fun y H2=>r x y H2 fun z H3=>∃ k,z = .bl k ∧
 (if k=true then tc σ H3 fun w' H4=>r' y w' H4 Q else Q (.bl false) H3)
theorem j8 {op op':CmpOp} {r r':R2} (ho:OpR X (compareOp op) r) (ho':OpR X (compareOp op') r') (ha:PE X a ta) (hb:PE X b tb) (hc:PE X c tc)
  (hm:lastMarks [op,op'] [b,c]=false:=by with_unfolding_all rfl):PE X (.Compare a [op,op'] [b,c] pos) (z2a r r' ta tb tc):=by
 intro pins s σ H Q I h
 refine Compare_chain (thn (ha pins s σ H _ I h) fun v s1 ⟨x,H1,I1,r1,q1⟩=>chain_link (thn (hb pins s1 σ H1 _ I1 q1) fun u s2 ⟨y,H2,I2,r2,q2⟩=>
  thn (ho pins s2 σ H2 x y v u _ I2 r1 r2 q2) fun d s3 ⟨z,H3,I3,r3,k,e,q3⟩=>?_)) hm
 subst e
 cases r3
 refine wpAny_truthy_bool ?_
 cases k with
 | false=>exact ite_ff ⟨.bl false,H3,I3,rfl,q3⟩
 | true=>exact ite_tt (chain_last (thn (hc pins s3 σ H3 _ I3 q3) fun w' s4 ⟨z',H4,I4,r4,q4⟩=>ho' pins s4 σ H4 y z' u w' Q I4 r2 r4 q4))
theorem z8b {op op':CmpOp} {r r':R2} (ho:OpR X (compareOp op) r) (ho':OpR X (compareOp op') r') (ha:PE X a ta) (hb:PE X b tb) (hc:PE X c tc)
  (hm:lastMarks [op,op'] [b,c]=false:=by with_unfolding_all rfl):PT X (.Compare a [op,op'] [b,c] pos) (YD (z2a r r' ta tb tc)):=by
 intro pins s σ H Q I h
 refine isTrue_chain (thn (ha pins s σ H _ I h) fun v s1 ⟨x,H1,I1,r1,q1⟩=>test_link (thn (hb pins s1 σ H1 _ I1 q1) fun u s2 ⟨y,H2,I2,r2,q2⟩=>
  thn (ho pins s2 σ H2 x y v u _ I2 r1 r2 q2) fun d s3 ⟨z,H3,I3,r3,k,e,q3⟩=>?_)) hm
 subst e
 cases r3
 refine wpAny_truthy_bool ?_
 cases k with
 | false=>
  obtain ⟨k',e',q'⟩:=q3
  cases e'
  exact ite_ff ⟨H3,I3,q'⟩
 | true=>
  refine ite_tt (test_last (thn (hc pins s3 σ H3 _ I3 q3) fun w' s4 ⟨z',H4,I4,r4,q4⟩=>thn (ho' pins s4 σ H4 y z' u w' _ I4 r2 r4 q4) fun d' s5 ⟨z2,H5,I5,r5,k2,e2,q5⟩=>?_))
  subst e2
  cases r5
  exact wpAny_truthy_bool ⟨H5,I5,q5⟩
theorem z0B:(sizeLine:Nat) < 2 ^ 63:=by rw [sizeLine_eq];decide
theorem jR {x:V} {us:List Value} (r:Vals [x] us):∃ u,us=[u]∧RelV x u:=by
 cases r with
 | cons r1 r2=>cases r2;exact ⟨_,rfl,r1⟩
theorem zm9 {x y:V} {us:List Value} (r:Vals [x,y] us):∃ u w',us=[u,w']∧RelV x u∧RelV y w':=by
 cases r with
 | cons r1 r2=>
  cases r2 with
  | cons r3 r4=>cases r4;exact ⟨_,_,rfl,r1,r3⟩
theorem zcs:Z7 X (.builtin "abs") (fun xs H Q=>∃ i,xs=[.int i]∧Q (.int (if i < 0 then -i else i)) H):=by
 intro pins s σ H xs us Q I r h
 obtain ⟨i,rfl,q⟩:=h
 obtain ⟨u,rfl,t,rfl⟩:=jR r
 exact call_abs_int fun u tk=>⟨.int (if i < 0 then -i else i),H,I.tok _,⟨_,rfl⟩,q⟩
theorem zcw (hc:X.calm=true):Z7 X (.builtin "max") (fun xs H Q=>∃ i j,xs=[.int i,.int j]∧Q (.int (if j > i then j else i)) H):=by
 intro pins s σ H xs us Q I r h
 obtain ⟨i,j,rfl,q⟩:=h
 obtain ⟨u,w',rfl,⟨t,rfl⟩,⟨t',rfl⟩⟩:=zm9 r
 refine max_two_ints (I.ok.hd hc) fun h' tk k=>⟨_,H,I.kept k,?_,q⟩
 by_cases hj:j > i
 ·rw [if_pos hj,if_pos hj];exact ⟨_,rfl⟩
 ·rw [if_neg hj,if_neg hj];exact ⟨_,rfl⟩
end
end L2
namespace L2
open PySem PySem.Spec PyProof.Rows
structure ObjM (h:Heap) (x dx C:Addr) (mA:Str→Option Value):Prop where
 obj:h.get? x=some (PySem.W.instObj C dx)
 ns:h.Ns1 dx mA
 ne:dx≠x
theorem zfT {h:Heap} {dx:Addr} {mA:Str→Option Value} (n:h.Ns1 dx mA):∃ od,h.get? dx=some od∧∀ name,PySem.W.lookIn name od=some (mA name):=by
 obtain ⟨o,es,ep,ho,hd,hk,_,hm⟩:=n
 refine ⟨o,ho,fun name=>?_⟩
 have e:=hm name
 unfold nsFind findBy at e
 rw [← Array.find?_toList] at e
 unfold PySem.W.lookIn
 rw [hd]
 dsimp only
 split
 ·rename_i y q
  rw [q] at e
  exact congrArg some e
 ·rename_i q
  rw [q] at e
  have a:es.toList.any (·.refKey)=false:=by
   rw [List.any_eq_false]
   intro y hy
   obtain ⟨z,t,hkey⟩:=hk y (Array.mem_toList_iff.mp hy)
   simp [DictEntry.refKey,hkey]
  have a':¬ es.toList.any (·.refKey)=true:=by rw [a];exact Bool.false_ne_true
  rw [if_neg a']
  exact congrArg some e
theorem ObjM.look {h:Heap} {x dx C:Addr} {mA:Str→Option Value} (I:ObjM h x dx C mA):∃ od,PySem.W.InstAt h x (PySem.W.instObj C dx) C (some od)∧∀ name,PySem.W.lookIn name od=some (mA name) :=
 let ⟨od,ho,hl⟩:=zfT I.ns
 ⟨od,⟨I.obj,rfl,rfl,ho⟩,hl⟩
section
variable {prog:Program} {w:World} {A:Around} {E:Value→Shared→Prop} {s:Shared} {K:PySem.W.Frag} {x dx C f:Addr} {mA:Str→Option Value} {name:Str} {v:Value}
theorem zdV {expr:Bool} {Q:Value→Shared→Prop} (X:K.In s.heap) (I:ObjM s.heap x dx C mA) (hg:PySem.W.plainGet K C name=true) (hh:PySem.W.hasDictIn K C=true)
  (ha:PySem.W.findIn K (.ref C) name=some none) (hv:mA name=some v) (hv':PySem.W.handedIn v=true) (h:Q v { s with toks:=s.toks + 1 }) :
  wpAny (model prog w) A (getAttr (.ref x) name expr) Q E s:=by
 obtain ⟨od,J,hl⟩:=I.look
 exact PySem.W.get_value X J (PySem.W.plainGet_of hg).1 (PySem.W.findObj_own hh ha rfl (by rw [hl,hv])) hv' h
theorem zdW {pl:Sem Bool} {Q:Value × List Value→Shared→Prop} (X:K.In s.heap) (I:ObjM s.heap x dx C mA) (hg:PySem.W.plainGet K C name=true)
  (hf:PySem.W.findIn K (.ref C) name=some (some (.ref f))) (ht:PySem.W.isFn K (.ref f)=true) (hv:mA name=none) (h:Q (.ref f,[.ref x]) s) :
  wpAny (model prog w) A (getMethod (.ref x) name pl) Q E s:=by
 obtain ⟨od,J,hl⟩:=I.look
 exact PySem.W.method_fn X J (PySem.W.plainGet_of hg).1 (PySem.W.plainGet_of hg).2 hf (beq_iff_eq.mp ht) (by show (PySem.W.lookIn name od).map (·.isSome)=some false;rw [hl,hv];rfl) h
theorem zkl {ns:List Str} {Q:Unit→Shared→Prop} (X:K.In s.heap) (I:ObjM s.heap x dx C mA)
  (hs:PySem.W.findIn K (.ref C) "__setattr__" = some (some (.builtin "object.__setattr__"))) (hp:PySem.W.plainOver K C=true) (ht:PySem.W.takerIn K C name=some none) (hh:PySem.W.hasDictIn K C=true)
  (hw:PySem.Within mA ns) (hsz:ns.length≤sizeLine)
  (h:∀ h',ObjM h' x dx C (fun y=>if y=name then some v else mA y)→Heap.SameBut dx s.heap h'→Q () { s with heap:=h',toks:=s.toks + 2 }) :
  wpAny (model prog w) A (setAttr (.ref x) name v) Q E s:=by
 obtain ⟨od,J,hl⟩:=I.look
 refine PySem.W.set_plain X J hs (PySem.W.osa_open (s:={ s with toks:=s.toks + 1 }) (r:=none) X J hp ht fun b=>?_)
 obtain ⟨cd,hc,hd'⟩:=PySem.W.any_some hh
 have hx:s.heap.get? x=some ⟨.ref C,some dx,.plain,#[]⟩:=I.obj
 refine wpAny_bind (wpAny_pure (wpAny_bind (wpAny_bind (wpAny_loadPart hx (wpAny_bind (PySem.W.Looks.here (s:={ s with toks:=s.toks + 1 }) (PySem.W.looks_clsIn X hc) ?_))))))
 rw [hd']
 refine wpAny_pure (a:=some dx) (wpAny_bind (wpAny_pure (wpAny_bind ?_)))
 refine wpAny_nsSet1 (s:={ s with toks:=s.toks + 1 }) I.ns fun h' hn2 hs2=>?_
 obtain ⟨oD,esD,epD,hoD,hdD,hcD⟩:=hn2.count (PySem.Within.cons name v hw)
 refine wpAny_bind (wpAny_lookBehind hoD (by rw [hdD];exact pastItsLine_dict (Nat.le_trans hcD (by rw [List.length_cons];omega))) ?_)
 exact wpAny_pure (h _ ⟨(hs2.2 _ (Ne.symm I.ne)).trans I.obj,hn2,I.ne⟩ hs2)
theorem zg1 {R:Result→Shared→Prop} {vs:List Value} {kw:List (Str × Value)} (X:K.In s.heap) (hm:PySem.W.makesIn K C=true)
  (hi:PySem.W.findIn K (.ref C) "__init__" = some (some (.ref f))) (hf:PySem.W.typeIn K (.ref f)=some (.type "function"))
  (h:codeAny (model prog w) (A.under (.builtin "type.__call__" ⟨.ref C :: vs,kw⟩)) (.call (.ref f) ⟨.ref (s.heap.objs.size + 1) :: vs,kw⟩) (PySem.W.InitBack (s.heap.objs.size + 1) R)
   { s with heap:=(s.heap.push PySem.W.emptyDict).push (PySem.W.instObj C s.heap.objs.size) }) :
  codeAny (model prog w) A (.call (.ref C) ⟨vs,kw⟩) R s:=by
 obtain ⟨hh,g,d,t,os⟩:=s
 exact PySem.W.make_core (PySem.W.makes_of X hm) (PySem.W.looks_findIn X hi) (fun self=>PySem.W.bind_fn X self hf) (.inl rfl) h
end
def zh (f:Str) (v:V):List (Str × V)→List (Str × V)
 | []=>[(f,v)]
 | (g,x) :: r=>if g=f then (g,v) :: r else (g,x) :: zh f v r
theorem z7l (f g:Str) (v:V):∀ fs:List (Str × V),(zh f v fs).lookup g=if g=f then some v else fs.lookup g
 | []=>by
  show List.lookup g [(f,v)]=_
  by_cases h:g=f
  ·have hb:(g == f)=true:=beq_iff_eq.mpr h
   simp only [List.lookup,hb,if_pos h]
  ·have hb:(g == f)=false:=beq_eq_false_iff_ne.mpr h
   simp only [List.lookup,hb,if_neg h]
 | (k,x) :: r=>by
  have ih:=z7l f g v r
  rw [show zh f v ((k,x) :: r)=(if k=f then (k,v) :: r else (k,x) :: zh f v r) from rfl]
  by_cases hk:k=f
  ·rw [if_pos hk]
   by_cases h:g=k
   ·have hb:(g == k)=true:=beq_iff_eq.mpr h
    simp only [List.lookup,hb,if_pos (h.trans hk)]
   ·have hb:(g == k)=false:=beq_eq_false_iff_ne.mpr h
    simp only [List.lookup,hb,if_neg (fun e:g=f=>h (e.trans hk.symm))]
  ·rw [if_neg hk]
   by_cases h:g=k
   ·have hb:(g == k)=true:=beq_iff_eq.mpr h
    simp only [List.lookup,hb,if_neg (fun e:g=f=>hk (h.symm.trans e))]
   ·have hb:(g == k)=false:=beq_eq_false_iff_ne.mpr h
    simp only [List.lookup,hb]
    exact ih
theorem z40 (f:Str) (v:V):∀ fs:List (Str × V),f∈(zh f v fs).map (·.1)∧∀ g,g∈fs.map (·.1)→g∈(zh f v fs).map (·.1)
 | []=>⟨by simp [zh],fun g h=>by simp at h⟩
 | (k,x) :: r=>by
  obtain ⟨i1,i2⟩:=z40 f v r
  rw [show zh f v ((k,x) :: r)=(if k=f then (k,v) :: r else (k,x) :: zh f v r) from rfl]
  by_cases hk:k=f
  ·rw [if_pos hk]
   subst hk
   exact ⟨by simp,fun g h=>by simpa using h⟩
  ·rw [if_neg hk]
   refine ⟨?_,fun g h=>?_⟩
   ·rw [List.map_cons]
    exact List.mem_cons_of_mem _ i1
   ·rw [List.map_cons] at h ⊢
    rcases List.mem_cons.mp h with e | e
    ·exact List.mem_cons.mpr (.inl e)
    ·exact List.mem_cons_of_mem _ (i2 g e)
theorem z1s (f:Str) (v:V):∀ fs:List (Str × V),(zh f v fs).length≤fs.length + 1
 | []=>by simp [zh]
 | (k,x) :: r=>by
  have ih:=z1s f v r
  rw [show zh f v ((k,x) :: r)=(if k=f then (k,v) :: r else (k,x) :: zh f v r) from rfl]
  by_cases hk:k=f
  ·rw [if_pos hk,List.length_cons,List.length_cons];omega
  ·rw [if_neg hk,List.length_cons,List.length_cons];omega
theorem RelO.some_of {v:V} {o:Option Value} (r:RelO (some v) o):∃ u,o=some u∧RelV v u:=by
 cases o with
 | none=>exact (show False from r).elim
 | some u=>exact ⟨u,rfl,r⟩
theorem RelO.none_of {o:Option Value} (r:RelO none o):o=none:=by
 cases o with
 | none=>rfl
 | some u=>exact (show False from r).elim
theorem ze0 {v:V} {u:Value} (r:RelV v u):PySem.W.handedIn u=true:=by
 cases v with
 | non=>cases (show u=Value.none from r);rfl
 | bl b=>cases (show u=Value.bool b from r);rfl
 | int i=>obtain ⟨t,e⟩:=(show ∃ t,u=Value.int i t from r);cases e;rfl
 | str x=>obtain ⟨t,e⟩:=(show ∃ t,u=Value.str x t from r);cases e;rfl
 | byt b=>obtain ⟨t,e⟩:=(show ∃ t,u=Value.bytes b t from r);cases e;rfl
 | flt b=>obtain ⟨t,e⟩:=(show ∃ t,u=Value.float b t from r);cases e;rfl
 | ref a=>cases (show u=Value.ref a from r);rfl
 | ty n=>cases (show u=Value.type n from r);rfl
section
variable {P:Program} {w:World} {H H':Hp} {h h':Heap} {a C dx:Addr} {fs fs':List (Str × V)}
theorem z3V (hok:HOk P w H h) (e:H a=some (.ins C dx fs)):∃ mA,ObjM h a dx C mA∧(∀ f,RelO (fs.lookup f) (mA f))∧PySem.Within mA (fs.map (·.1))∧fs.length≤1000∧H dx=some (.own a):=by
 obtain ⟨d,z,ne,ob,mA,n,r,q⟩:=(show ObjOk P w H h a (.ins C dx fs) from hok a _ e)
 exact ⟨mA,⟨ob,n,ne⟩,r,q,z,d⟩
end
structure Cls (K:PySem.W.Frag) (C:Addr):Prop where
 pg:PySem.W.plainGet K C Str.empty=true
 hd:PySem.W.hasDictIn K C=true
 po:PySem.W.plainOver K C=true
 sa:PySem.W.findIn K (.ref C) "__setattr__" = some (some (.builtin "object.__setattr__"))
theorem Cls.get {K:PySem.W.Frag} {C:Addr} (c:Cls K C) (f:Str):PySem.W.plainGet K C f=true:=c.pg
def NoAttr (K:PySem.W.Frag) (C:Addr) (f:Str):Prop:=PySem.W.findIn K (.ref C) f=some none
theorem NoAttr.taker {K:PySem.W.Frag} {C:Addr} {f:Str} (n:NoAttr K C f):PySem.W.takerIn K C f=some none:=by
 unfold PySem.W.takerIn
 rw [show PySem.W.findIn K (.ref C) f=some none from n]
 rfl
structure Meth (K:PySem.W.Frag) (C:Addr) (m:Str) (f:Addr):Prop where
 at_:PySem.W.findIn K (.ref C) m=some (some (.ref f))
 fn:PySem.W.isFn K (.ref f)=true
 kp:PySem.W.keepIn K (.ref f)=true
section
variable {X:Cx} {pins:List (Addr × Obj)} {σ : St} {H:Hp} {s:Shared} {a C dx:Addr} {fs:List (Str × V)} {f:Str} {v:V} {A:Around} {E:Value→Shared→Prop}
theorem z6L {b:Bool} {Q:Value→Shared→Prop} (I:Inv X pins σ H s) (e:H a=some (.ins C dx fs)) (c:Cls X.K C) (n:NoAttr X.K C f) (l:fs.lookup f=some v)
  (h:∀ u s',Inv X pins σ H s'→RelV v u→Q u s'):wpAny (model X.prog X.w) A (getAttr (.ref a) f b) Q E s:=by
 obtain ⟨mA,O,r,_,_,_⟩:=z3V I.hok e
 obtain ⟨u,hu,ru⟩:=RelO.some_of (v:=v) (o:=mA f) (by rw [← l];exact r f)
 exact zdV I.kIn O (c.get f) c.hd n hu (ze0 ru) (h u _ (I.tok _) ru)
theorem z6M {m:Str} {g:Addr} {pl:Sem Bool} {Q:Value × List Value→Shared→Prop} (I:Inv X pins σ H s) (e:H a=some (.ins C dx fs)) (c:Cls X.K C) (k:Meth X.K C m g) (l:fs.lookup m=none)
  (h:Q (.ref g,[.ref a]) s):wpAny (model X.prog X.w) A (getMethod (.ref a) m pl) Q E s:=by
 obtain ⟨mA,O,r,_,_,_⟩:=z3V I.hok e
 have hn:mA m=none:=RelO.none_of (by rw [← l];exact r m)
 exact zdW I.kIn O (c.get m) k.at_ k.fn hn h
theorem za3 {y:V} {u:Value} {Q:Unit→Shared→Prop} (I:Inv X pins σ H s) (e:H a=some (.ins C dx fs)) (c:Cls X.K C) (n:NoAttr X.K C f) (hl:fs.length < 1000) (ry:RelV y u)
  (h:∀ s',Inv X pins σ (upd H a (.ins C dx (zh f y fs))) s'→Q () s'):wpAny (model X.prog X.w) A (setAttr (.ref a) f u) Q E s:=by
 obtain ⟨mA,O,r,wi,_,ho⟩:=z3V I.hok e
 have hz:(fs.map (·.1)).length≤sizeLine:=by rw [List.length_map,sizeLine_eq];omega
 refine zkl I.kIn O c.sa c.po n.taker c.hd wi hz fun h' O' sb=>h _ ?_
 have hd:∃ o,h'.get? dx=some o:=let ⟨o,_,_,e',_⟩:=O'.ns;⟨o,e'⟩
 refine I.write (x:=a) (e:=dx) (by rw [e];exact True.intro) (.inr ho) (fun b q hb z=>(sb.2 b hb).trans z) hd ?_
 refine ⟨by rw [z6 O.ne];exact ho,?_,O.ne,O'.obj,_,O'.ns,fun g=>?_,fun g hg=>?_⟩
 ·have:=z1s f y fs;omega
 ·show RelO ((zh f y fs).lookup g) (if g=f then some u else mA g)
  rw [z7l]
  by_cases q:g=f
  ·rw [if_pos q,if_pos q];exact ry
  ·rw [if_neg q,if_neg q];exact r g
 ·by_cases q:g=f
  ·rw [q];exact (z40 f y fs).1
  ·refine (z40 f y fs).2 g (wi g fun z=>hg ?_)
   show (if g=f then some u else mA g)=none
   rw [if_neg q];exact z
theorem Inv.made (I:Inv X pins σ H s):Inv X pins σ (upd (upd H s.heap.objs.size (.own (s.heap.objs.size + 1))) (s.heap.objs.size + 1) (.ins C s.heap.objs.size []))
  { s with heap:=(s.heap.push PySem.W.emptyDict).push (PySem.W.instObj C s.heap.objs.size) }:=by
 have e1:(s.heap.push PySem.W.emptyDict).get? s.heap.objs.size=some PySem.W.emptyDict:=Heap.get?_push_size s.heap rfl
 have e2:((s.heap.push PySem.W.emptyDict).push (PySem.W.instObj C s.heap.objs.size)).get? (s.heap.objs.size + 1)=some (PySem.W.instObj C s.heap.objs.size):=by
  have:=Heap.get?_push_size (s.heap.push PySem.W.emptyDict) (o:=PySem.W.instObj C s.heap.objs.size) rfl
  rwa [Heap.size_push] at this
 have e3:(s.heap.push PySem.W.emptyDict).Ns s.heap.objs.size (fun _=>none):=⟨PySem.W.emptyDict,#[],_,e1,rfl,(fun e he=>absurd he (by simp)),fun _=>rfl⟩
 have I1:=I.laid (a:=s.heap.objs.size) (o:=.own (s.heap.objs.size + 1)) (h':=s.heap.push PySem.W.emptyDict) (t':=s.toks) (fun b u q=>Heap.get?_push_of_some _ q) (Nat.le_refl _) ⟨_,e1⟩
 refine I1.laid (a:=s.heap.objs.size + 1) (o:=.ins C s.heap.objs.size []) (t':=s.toks) (fun b u q=>Heap.get?_push_of_some _ q) (Nat.le_of_eq (Heap.size_push _ _)) ?_
 have ne:s.heap.objs.size≠s.heap.objs.size + 1:=Nat.ne_of_lt (Nat.lt_succ_self _)
 refine ⟨by rw [z6 ne,z9],Nat.zero_le _,ne,e2,fun _=>none,(Heap.Ns1.of_empty e3).at fun o q=>Heap.get?_push_of_some _ q,fun _=>True.intro,fun y hy=>absurd rfl hy⟩
theorem zcf {prog:Program} {w:World} {env:Env} {e:Expr} {f:Str} {pos:Pos} {s:Shared} {Q:Value→Shared→Prop} (hb:attributeBase e f env (eval e env)=eval e env)
  (h:wpAny (model prog w) A (eval e env) (fun o s₁=>wpAny (model prog w) A (getAttr o f true) Q E s₁) E s):wpAny (model prog w) A (eval (.Attribute e f pos) env) Q E s :=
 Attribute_any_ h (by rw [arm_eval_Attribute,hb])
end
def jO (K:PySem.W.Frag) (ta:TE) (f:Str):TE:=fun σ H Q=>ta σ H fun x H1=>∃ a C dx fs v,x = .ref a∧H1 a=some (.ins C dx fs)∧Cls K C∧NoAttr K C f∧fs.lookup f=some v∧Q v H1
def z4V (K:PySem.W.Frag) (ta tv:TE) (f:Str):TS:=fun D σ H=>tv σ H fun y H1=>ta σ H1 fun x H2=>∃ a C dx fs,x = .ref a∧H2 a=some (.ins C dx fs)∧Cls K C∧NoAttr K C f∧fs.length < 1000 ∧
 D.nx σ (upd H2 a (.ins C dx (zh f y fs)))
def z0Y (X:Cx) (op:Operator) (rd:V→V→Hp→VK→Prop):Prop :=
 ∀ (pins:List (Addr × Obj)) (s:Shared) (σ : St) (H:Hp) (x y:V) (u v:Value) (Q:VK),Inv X pins σ H s→RelV x u→RelV y v→rd x y H Q→wpAny (model X.prog X.w) X.A (inplaceOp op u v) (EP X pins σ Q) X.xe s
def z4W (K:PySem.W.Frag) (ta tv:TE) (rd:V→V→Hp→VK→Prop) (f:Str):TS:=fun D σ H=>ta σ H fun x H1=>∃ a C dx fs v,x = .ref a∧H1 a=some (.ins C dx fs)∧Cls K C∧NoAttr K C f∧fs.lookup f=some v ∧
 tv σ H1 fun y H2=>rd v y H2 fun z H3=>∃ dx' fs',H3 a=some (.ins C dx' fs')∧fs'.length < 1000∧D.nx σ (upd H3 a (.ins C dx' (zh f z fs')))
section
variable {X:Cx} {o e value:Expr} {f:Str} {pos pos' tpos:Pos} {ta tv:TE}
theorem zi4 (he:PE X e ta) (hb:attributeBase e f X.env (eval e X.env)=eval e X.env):PE X (.Attribute e f pos) (jO X.K ta f):=by
 intro pins s σ H Q I h
 refine zcf hb (thn (he pins s σ H _ I h) fun u s1 ⟨x,H1,I1,rx,a,C,dx,fs,v,ex,ea,c,n,l,q⟩=>?_)
 subst ex
 obtain rfl:u=Value.ref a:=rx
 exact z6L I1 ea c n l fun u' s2 I2 ru=>⟨v,H1,I2,ru,q⟩
theorem ziF (ha:PE X o ta) (hv:PE X value tv) (hs:swapsWith value (some (.Attribute o f pos')) pos.line X.env=pure false):PS X (.Assign [.Attribute o f pos'] value pos) (z4V X.K ta tv f):=by
 intro pins s σ H D I h
 refine plainObj_wpAny_Assign_Attribute (thn (hv pins s σ H _ I h) fun u s1 ⟨y,H1,I1,ry,q⟩=>thn (ha pins s1 σ H1 _ I1 q) fun ov s2 ⟨x,H2,I2,rx,a,C,dx,fs,ex,ea,c,n,l,q2⟩=>?_) hs
 subst ex
 obtain rfl:ov=Value.ref a:=rx
 exact za3 I2 ea c n l ry fun s3 I3=>⟨σ,_,I3,q2⟩
theorem ziG {op:Operator} {rd:V→V→Hp→VK→Prop} (ha:PE X o ta) (hv:PE X value tv) (hop:z0Y X op rd):PS X (.AugAssign (.Attribute o f tpos) op value pos) (z4W X.K ta tv rd f):=by
 intro pins s σ H D I h
 refine wpAny_AugAssign_AttributeAny (thn (ha pins s σ H _ I h) fun ov s1 ⟨x,H1,I1,rx,a,C,dx,fs,v,ex,ea,c,n,l,q⟩=>?_)
 subst ex
 obtain rfl:ov=Value.ref a:=rx
 refine z6L I1 ea c n l fun u s2 I2 ru=>thn (hv pins s2 σ H1 _ I2 q) fun w3 s3 ⟨y,H2,I3,ry,q3⟩=>thn (hop pins s3 σ H2 v y u w3 _ I3 ru ry q3) fun w4 s4 ⟨z,H3,I4,rz,dx',fs',ea',l',q4⟩=>?_
 exact za3 I4 ea' c n l' rz fun s5 I5=>⟨σ,_,I5,q4⟩
def z8j:V→V→Hp→VK→Prop:=fun x y H Q=>∃ i j,x = .int i∧y = .int j∧Q (.int (i + j)) H
def zj1:V→V→Hp→VK→Prop:=fun x y H Q=>∃ i j,x = .int i∧y = .int j∧Q (.int (i - j)) H
theorem z1r:z0Y X .Add z8j:=by
 rintro pins s σ H x y u v Q I rx ry ⟨i,j,rfl,rfl,q⟩
 obtain ⟨t,rfl⟩:=(show ∃ t,u=Value.int i t from rx)
 obtain ⟨t',rfl⟩:=(show ∃ t',v=Value.int j t' from ry)
 exact PyProof.Rows.iadd_int ⟨.int (i + j),H,I.tok _,⟨_,rfl⟩,q⟩
theorem zmr {pl:Sem Bool} {m:Str} {apos:Pos} {args:List Expr} {pins:List (Addr × Obj)} {s:Shared} {σ : St} {H:Hp} {Q:Value→Shared→Prop} {te:TE} (he:PE X e te) (I:Inv X pins σ H s)
  (h:te σ H fun x H1=>∃ a C dx fs g,x = .ref a∧H1 a=some (.ins C dx fs)∧Cls X.K C∧Meth X.K C m g∧fs.lookup m=none ∧
   ∀ s1,Inv X pins σ H1 s1→wpAny (model X.prog X.w) X.A (callWith pos (.ref g) [.ref a] (backTo pos (starEach args X.env)) (backToKw pos (keywordEach [] X.env))) Q X.xe s1)
  (ht:eval (.Call (.Attribute e m apos) args [] pos) X.env=(do
   let ov ← eval e X.env
   standAt apos.atName
   let (f,first) ← holding [ov] (getMethod ov m pl)
   callWith pos f first (backTo pos (starEach args X.env)) (backToKw pos (keywordEach [] X.env)))) :
  wpAny (model X.prog X.w) X.A (eval (.Call (.Attribute e m apos) args [] pos) X.env) Q X.xe s:=by
 refine PySem.W.methodCall_KW (pl:=pl) (thn (he pins s σ H _ I h) fun u s1 ⟨x,H1,I1,rx,a,C,dx,fs,g,ex,ea,c,k,l,q⟩=>?_) ht
 subst ex
 obtain rfl:u=Value.ref a:=rx
 exact z6M I1 ea c k l (q s1 I1)
end
end L2
namespace L2
open PySem PySem.Spec PyProof.Rows
structure Room (k:Nat) (A:Around):Prop where
 hd:A.handled=none
 dp:A.depth + 3 * k + 5 < recursionLimit
 un:A.units + 16 * k + 200 < cLine
theorem Room.mono {j k:Nat} {A:Around} (r:Room k A) (h:j≤k):Room j A:=⟨r.hd,by have:=r.dp;omega,by have:=r.un;omega⟩
theorem Room.deeper {k:Nat} {A:Around} (r:Room (k + 1) A) (env:Env):Room k (A.deeper env) :=
 ⟨r.hd,by have:=r.dp;show A.depth + 1 + 3 * k + 5 < _;omega,by have:=r.un;show A.units + 3 + 16 * k + 200 < _;omega⟩
theorem Room.in1 {k:Nat} {A:Around} (r:Room (k + 1) A):Room k A.in1 :=
 ⟨r.hd,by have:=r.dp;show A.depth + 3 * k + 5 < _;omega,by have:=r.un;show A.units + 1 + 16 * k + 200 < _;omega⟩
theorem zg0 {A:Around} {C:Addr} {us:List Value} {kw:List (Str × Value)}:(A.under (.builtin "type.__call__" ⟨.ref C :: us,kw⟩)).depth=A.depth + 1:=by
 first | rfl | simp [Around.under,Code.weight,Code.isCreation,Code.isGuard,Code.isCaller,Code.frames,Code.isFrame,guardIds]
theorem zg2 {A:Around} {C:Addr} {us:List Value} {kw:List (Str × Value)}:(A.under (.builtin "type.__call__" ⟨.ref C :: us,kw⟩)).units=A.units + 1:=by
 first | rfl | simp [Around.under,Code.cUnits,Code.frames,Code.isFrame]
theorem Room.make {k:Nat} {A:Around} (r:Room (k + 1) A) (C:Addr) (us:List Value) (kw:List (Str × Value)):Room k (A.under (.builtin "type.__call__" ⟨.ref C :: us,kw⟩)) :=
 ⟨r.hd,by have:=r.dp;rw [zg0];omega,by have:=r.un;rw [zg2];omega⟩
theorem Room.depth {k:Nat} {A:Around} (r:Room k A):A.depth < recursionLimit:=by have:=r.dp;omega
theorem Room.units {k:Nat} {A:Around} (r:Room k A):A.units + 64 < cLine:=by have:=r.un;omega
def ZO:TA:=fun _ H Q=>Q [] H
def Yj (ta:TE) (tr:TA):TA:=fun σ H Q=>ta σ H fun x H1=>tr σ H1 fun xs H2=>Q (x :: xs) H2
section
variable {X:Cx} {e:Expr} {es:List Expr} {te:TE} {t:TA} {pos:Pos}
theorem z8:PA X [] ZO:=fun _ _ _ _ H Q I h=>Calls.spliced_nil ⟨[],H,I,.nil,h⟩
theorem z0 (ha:PE X e te) (hr:PA X es t) (hs:starEach (e :: es) X.env=(false,eval e X.env) :: starEach es X.env:=by rfl):PA X (e :: es) (Yj te t):=by
 intro pos pins s σ H Q I h
 rw [hs]
 show wpAny _ _ (spliced ((false,eval e X.env) :: backTo pos (starEach es X.env))) _ _ s
 refine Calls.spliced_cons (thn (ha pins s σ H _ I h) fun u s1 ⟨x,H1,I1,r1,q1⟩=>?_)
 exact thn (hr pos pins s1 σ H1 _ I1 q1) fun us s2 ⟨xs,H2,I2,r2,q2⟩=>⟨x :: xs,H2,I2,.cons r1 r2,q2⟩
def zbd (t:TA):TE:=fun σ H Q=>t σ H fun xs H1=>xs.length≤sizeLine∧∀ p,H1 p=none→Q (.ref p) (upd H1 p (.tup xs))
def zbc (t:TA):TE:=fun σ H Q=>t σ H fun xs H1=>xs.length≤sizeLine∧∀ p,H1 p=none→Q (.ref p) (upd H1 p (.lst xs))
theorem z81 {x1} (h:PA X es t):PE X (.Tuple es x1 pos) (zbd t):=by
 intro pins s σ H Q I hq
 refine wpAny_Tuple_spliced (thn (h pos pins s σ H _ I hq) fun us s1 ⟨xs,H1,I1,r,z,q⟩=>⟨by rw [← r.length];exact z,?_⟩)
 have hf:H1 s1.heap.objs.size=none:=I1.hok.fresh (Nat.le_refl _)
 refine ⟨.ref s1.heap.objs.size,upd H1 s1.heap.objs.size (.tup xs),I1.laid (t':=s1.toks) (fun b u e=>Heap.get?_push_of_some _ e) (Nat.le_refl _) ?_,rfl,q _ hf⟩
 exact ⟨z,us,r,⟨_,Heap.get?_push_size _ rfl,rfl,_,rfl⟩⟩
theorem zA (h:PA X es t):PE X (.List es pos) (zbc t):=by
 intro pins s σ H Q I hq
 refine wpAny_List_spliced (thn (h pos pins s σ H _ I hq) fun us s1 ⟨xs,H1,I1,r,z,q⟩=>⟨by rw [← r.length];exact z,?_⟩)
 have hf:H1 s1.heap.objs.size=none:=I1.hok.fresh (Nat.le_refl _)
 refine ⟨.ref s1.heap.objs.size,upd H1 s1.heap.objs.size (.lst xs),I1.laid (t':=s1.toks) (fun b u e=>Heap.get?_push_of_some _ e) (Nat.le_refl _) ?_,rfl,q _ hf⟩
 exact ⟨z,us,0,r,Heap.get?_push_size _ rfl⟩
end
abbrev Sp:=List V→Hp→VK→XK→Prop
abbrev CXT:=List Env→Hp→Shared→XK→Value→Shared→Prop
structure Env0 (P:Program) (w:World) (K:PySem.W.Frag) (mg:Str→Option Value) (base:Heap) (A:Around) (outer:List Env) (s:Shared) (H:Hp):Prop where
 frames:A.frames=some outer
 mod:Mod K mg base
 bs:∀ b o,base.get? b=some o→s.heap.get? b=some o∧H b=none
 bsz:base.objs.size≤s.heap.objs.size
 funs:s.heap.FunFrames base outer
 frf:∀ b∈frs outer,H b=none
 hok:HOk P w H s.heap
 bare:AllBare s.gens
def CE (outer:List Env) (P:Program) (w:World) (H:Hp) (s:Shared) (Q:VK) (u:Value) (s':Shared):Prop :=
 ∃ v H',s'.os=s.os∧AllBare s'.gens∧Un (frs outer) [] H H' s.heap s'.heap∧HOk P w H' s'.heap∧RelV v u∧Q v H'
def CR (CX:CXT) (outer:List Env) (P:Program) (w:World) (H:Hp) (s:Shared) (Q:VK) (E:XK) (r:Result) (s':Shared):Prop :=
 match r with
 | .ok (.ret u)=>CE outer P w H s Q u s'
 | .ok _=>False
 | .error e=>CX outer H s E e s'
structure FnOk (P:Program) (w:World) (K:PySem.W.Frag) (mg:Str→Option Value) (base:Heap) (CX:CXT) (k:Nat) (f:Addr) (fd:FuncData) (ps:List Str) (sp:Sp):Prop where
 len:∀ vs H Q E,sp vs H Q E→vs.length=ps.length
 run:∀ (A:Around) (outer:List Env) (s:Shared) (H:Hp) (args:Args) (us:List Value) (vs:List V) (Q:VK) (E:XK),Room k A→Env0 P w K mg base A outer s H→BindsTo s fd args (ps.zip us)→Vals vs us→sp vs H Q E →
  codeAny (model P w) A (.call (.ref f) args) (CR CX outer P w H s Q E) s
theorem FnOk.mono {P:Program} {w:World} {K:PySem.W.Frag} {mg:Str→Option Value} {base:Heap} {CX:CXT} {j k:Nat} {f:Addr} {fd:FuncData} {ps:List Str} {sp:Sp} (F:FnOk P w K mg base CX j f fd ps sp) (h:j≤k) :
  FnOk P w K mg base CX k f fd ps sp:=⟨F.len,fun A outer s H args us vs Q E hr=>F.run A outer s H args us vs Q E (hr.mono h)⟩
theorem FnOk.imp {P:Program} {w:World} {K:PySem.W.Frag} {mg:Str→Option Value} {base:Heap} {CX:CXT} {k:Nat} {f:Addr} {fd:FuncData} {ps:List Str} {sp sp':Sp} (F:FnOk P w K mg base CX k f fd ps sp)
  (h:∀ vs H Q E,sp' vs H Q E→sp vs H Q E):FnOk P w K mg base CX k f fd ps sp' :=
 ⟨fun vs H Q E q=>F.len vs H Q E (h _ _ _ _ q),fun A outer s H args us vs Q E hr he hb hv hs=>F.run A outer s H args us vs Q E hr he hb hv (h _ _ _ _ hs)⟩
theorem Env0.make {P:Program} {w:World} {K:PySem.W.Frag} {mg:Str→Option Value} {base:Heap} {A:Around} {outer:List Env} {s:Shared} {H:Hp} (e:Env0 P w K mg base A outer s H) (C:Addr) (us:List Value) (kw:List (Str × Value)) :
  Env0 P w K mg base (A.under (.builtin "type.__call__" ⟨.ref C :: us,kw⟩)) outer s H:=⟨by first | exact e.frames | (simpa [Around.under,Code.envs,Code.isFrame,pushEnvs] using e.frames),e.mod,e.bs,e.bsz,e.funs,e.frf,e.hok,e.bare⟩
theorem Env0.in1 {P:Program} {w:World} {K:PySem.W.Frag} {mg:Str→Option Value} {base:Heap} {A:Around} {outer:List Env} {s:Shared} {H:Hp} (e:Env0 P w K mg base A outer s H) :
  Env0 P w K mg base A.in1 outer s H:=⟨e.frames,e.mod,e.bs,e.bsz,e.funs,e.frf,e.hok,e.bare⟩
section
variable {X:Cx} {pins:List (Addr × Obj)} {σ : St} {H:Hp} {s s':Shared}
theorem Inv.env0 (I:Inv X pins σ H s):Env0 X.prog X.w X.K X.mg X.base X.A X.stack s H :=
 ⟨I.ok.frames,I.ok.mod,I.bs,Nat.le_trans I.ok.bsz I.sz,I.stack,I.stkFree,I.hok,I.bare⟩
theorem Inv.after {Q:VK} {u:Value} (I:Inv X pins σ H s) (h:CE X.stack X.prog X.w H s Q u s'):EP X pins σ Q u s':=by
 obtain ⟨v,H',os,bare,un,hok,r,q⟩:=h
 obtain ⟨hh,g,d,t,os'⟩:=s'
 obtain rfl:os'=s.os:=os
 exact ⟨v,H',I.call (h':=hh) (g':=g) (d':=d) (t':=t) (ch:=[]) un hok bare (fun b z=>absurd z (by simp)),r,q⟩
end
def z0d (sp:Sp) (dvs:List V) (E:XK) (t:TA):TE:=fun σ H Q=>t σ H fun vs H1=>sp (vs ++ dvs) H1 Q E
def z2c (C:Addr) (m:Str) (sp:Sp) (dvs:List V) (E:XK) (ta:TE) (t:TA):TE:=fun σ H Q=>ta σ H fun x H1=>∃ a dx fs,x = .ref a∧H1 a=some (.ins C dx fs)∧fs.lookup m=none ∧
 t σ H1 fun vs H2=>sp (x :: (vs ++ dvs)) H2 Q E
def z0V (C:Addr) (sp:Sp) (dvs:List V) (E:XK) (t:TA):TE:=fun σ H Q=>t σ H fun vs H1=>∀ x dx,H1 x=none→H1 dx=none→dx≠x →
 sp (.ref x :: (vs ++ dvs)) (upd (upd H1 dx (.own x)) x (.ins C dx [])) (fun v H2=>v = .non∧Q (.ref x) H2) E
def Binds (K:PySem.W.Frag) (fd:FuncData) (ps:List Str) (ds:List Value):Prop :=
 ∀ (s:Shared) (us:List Value),K.In s.heap→(us ++ ds).length=ps.length→BindsTo s fd ⟨us,[]⟩ (ps.zip (us ++ ds))
theorem Binds.all {K:PySem.W.Frag} {fd:FuncData} {ps:List Str} (h:∀ us:List Value,us.length=ps.length→bindArgs fd ⟨us,[]⟩=pure (ps.zip us)):Binds K fd ps []:=fun s us _ hl=>by
 rw [List.append_nil] at hl ⊢
 exact .of_eq (h us hl)
def YG (CX:CXT) (X:Cx) (E:XK):Prop:=∀ (pins:List (Addr × Obj)) (σ : St) (H:Hp) (s:Shared) (e:Value) (s':Shared),Inv X pins σ H s→CX X.stack H s E e s'→X.xe e s'
section
variable {X:Cx} {CX:CXT} {k:Nat} {f C:Addr} {fd:FuncData} {ps:List Str} {sp:Sp} {dvs:List V} {ds:List Value} {E:XK} {x m:Str} {p pos apos:Pos} {e o:Expr} {es:List Expr} {ta:TE} {t:TA}
theorem z4U {pins:List (Addr × Obj)} {σ : St} {H:Hp} {s:Shared} {Q:VK} {us:List Value} {vs:List V} (F:FnOk X.prog X.w X.K X.mg X.base CX k f fd ps sp) (hr:Room k X.A) (hb:Binds X.K fd ps ds) (hd:Vals dvs ds) (hx:YG CX X E)
  (I:Inv X pins σ H s) (r:Vals vs us) (h:sp (vs ++ dvs) H Q E):wpAny (model X.prog X.w) X.A (call (.ref f) us) (EP X pins σ Q) X.xe s:=by
 have r2:Vals (vs ++ dvs) (us ++ ds):=r.append hd
 have hl:(us ++ ds).length=ps.length:=by rw [← r2.length];exact F.len _ _ _ _ h
 refine wpAny_call (codeAny_mono (F.run X.A X.stack s H ⟨us,[]⟩ (us ++ ds) (vs ++ dvs) Q E hr I.env0 (hb s us I.kIn hl) r2 h) fun r s' hq=>?_)
 cases r with
 | error e=>exact hx pins σ H s e s' I hq
 | ok fl=>
  cases fl with
  | ret u=>exact I.after hq
  | next=>exact False.elim hq
  | brk=>exact False.elim hq
  | cont=>exact False.elim hq
theorem zhZ (F:FnOk X.prog X.w X.K X.mg X.base CX k f fd ps sp) (hr:Room k X.A) (hg:Gl X x) (hm:X.mg x=some (.ref f)) (hk:PySem.W.keepIn X.K (.ref f)=true) (hb:Binds X.K fd ps ds) (hd:Vals dvs ds) (hx:YG CX X E)
  (ha:PA X (e :: es) t) (hdb:(x == ("__debug__" : Str))=false:=by decide) (he:starEach (e :: es) X.env=(false,eval e X.env) :: starEach es X.env:=by rfl) (hpl:(backTo pos (starEach es X.env)).any (·.1)=false:=by rfl) :
  PE X (.Call (.Name x p) (e :: es) [] pos) (z0d sp dvs E t):=by
 intro pins s σ H Q I h
 refine wpAny_Call_Name_kw (z0z I hg hm ?_ hdb)
 refine PySem.W.callWith_K (h₀:=X.base) I.ok.mod.kin hk (thn (ha pos pins s σ H _ I h) fun us s1 ⟨vs,H1,I1,r,q⟩=>⟨I1.kIn,?_⟩) he hpl
 exact z4U F hr hb hd hx I1 r q
theorem zi0 (F:FnOk X.prog X.w X.K X.mg X.base CX k f fd ps sp) (hr:Room k X.A) (hg:Gl X x) (hm:X.mg x=some (.ref f)) (hk:PySem.W.keepIn X.K (.ref f)=true) (hb:Binds X.K fd ps ds) (hd:Vals dvs ds) (hx:YG CX X E)
  (hdb:(x == ("__debug__" : Str))=false:=by decide):PE X (.Call (.Name x p) [] [] pos) (z0d sp dvs E ZO):=by
 intro pins s σ H Q I h
 refine wpAny_Call_Name_kw (z0z I hg hm ?_ hdb)
 exact PySem.W.callWith_K0 I.kIn hk (z4U (us:=[]) F hr hb hd hx I .nil h)
theorem zi8 {pl:Sem Bool} (he:PE X o ta) (c:Cls X.K C) (hm:Meth X.K C m f) (F:FnOk X.prog X.w X.K X.mg X.base CX k f fd ps sp) (hr:Room k X.A) (hb:Binds X.K fd ps ds) (hd:Vals dvs ds) (hx:YG CX X E) (ha:PA X (e :: es) t)
  (hst:starEach (e :: es) X.env=(false,eval e X.env) :: starEach es X.env:=by rfl) (hpl:(backTo pos (starEach es X.env)).any (·.1)=false:=by rfl)
  (ht:eval (.Call (.Attribute o m apos) (e :: es) [] pos) X.env=(do
   let ov ← eval o X.env
   standAt apos.atName
   let (f,first) ← holding [ov] (getMethod ov m pl)
   callWith pos f first (backTo pos (starEach (e :: es) X.env)) (backToKw pos (keywordEach [] X.env))):=by rfl) :
  PE X (.Call (.Attribute o m apos) (e :: es) [] pos) (z2c C m sp dvs E ta t):=by
 intro pins s σ H Q I h
 refine PySem.W.methodCall_KW (pl:=pl) (thn (he pins s σ H _ I h) fun u s1 ⟨x,H1,I1,rx,a,dx,fs,ex,ea,l,q⟩=>?_) ht
 subst ex
 obtain rfl:u=Value.ref a:=rx
 refine z6M I1 ea c hm l ?_
 refine PySem.W.callWith_K (first:=[.ref a]) (h₀:=X.base) I.ok.mod.kin hm.kp (thn (ha pos pins s1 σ H1 _ I1 q) fun us s2 ⟨vs,H2,I2,r,q2⟩=>⟨I2.kIn,?_⟩) hst hpl
 exact z4U (us:=.ref a :: us) (vs:=.ref a :: vs) F hr hb hd hx I2 (.cons rfl r) q2
structure Mk (K:PySem.W.Frag) (C f:Addr):Prop where
 makes:PySem.W.makesIn K C=true
 init:PySem.W.findIn K (.ref C) "__init__" = some (some (.ref f))
 fn:PySem.W.isFn K (.ref f)=true
 kp:PySem.W.keepIn K (.ref C)=true
theorem z8E {pins:List (Addr × Obj)} {σ : St} {H:Hp} {s:Shared} {Q:VK} {us:List Value} {vs:List V} (M:Mk X.K C f) (F:FnOk X.prog X.w X.K X.mg X.base CX k f fd ps sp) (hr:Room (k + 1) X.A) (hb:Binds X.K fd ps ds) (hd:Vals dvs ds)
  (hx:YG CX X E) (I:Inv X pins σ H s) (r:Vals vs us)
  (h:∀ x dx,H x=none→H dx=none→dx≠x→sp (.ref x :: (vs ++ dvs)) (upd (upd H dx (.own x)) x (.ins C dx [])) (fun v H2=>v = .non∧Q (.ref x) H2) E) :
  wpAny (model X.prog X.w) X.A (call (.ref C) us) (EP X pins σ Q) X.xe s:=by
 have hq:=h (s.heap.objs.size + 1) s.heap.objs.size (I.hok.fresh (Nat.le_succ _)) (I.hok.fresh (Nat.le_refl _)) (Nat.ne_of_lt (Nat.lt_succ_self _))
 have I2:=Inv.made (C:=C) I
 have r2:Vals (V.ref (s.heap.objs.size + 1) :: (vs ++ dvs)) (Value.ref (s.heap.objs.size + 1) :: (us ++ ds)):=.cons rfl (r.append hd)
 have hl:(Value.ref (s.heap.objs.size + 1) :: us ++ ds).length=ps.length:=by
  have e:=r2.length
  rw [F.len _ _ _ _ hq] at e
  exact e.symm
 refine wpAny_call (zg1 (f:=f) I.kIn M.makes M.init (beq_iff_eq.mp M.fn) (codeAny_mono (F.run _ X.stack _ _ ⟨Value.ref (s.heap.objs.size + 1) :: us,[]⟩ (Value.ref (s.heap.objs.size + 1) :: (us ++ ds)) _ _ E (hr.make C us [])
  (I2.env0.make C us []) (hb _ (Value.ref (s.heap.objs.size + 1) :: us) I2.kIn hl) r2 hq) fun r s' hq'=>?_))
 cases r with
 | error e=>exact hx pins σ _ _ e s' I2 hq'
 | ok fl=>
  cases fl with
  | ret u=>
   obtain ⟨v,H',I3,rv,ev,q3⟩:=I2.after hq'
   subst ev
   exact ⟨rv,⟨V.ref (s.heap.objs.size + 1),H',I3,rfl,q3⟩⟩
  | next=>exact False.elim hq'
  | brk=>exact False.elim hq'
  | cont=>exact False.elim hq'
theorem zi6 (M:Mk X.K C f) (F:FnOk X.prog X.w X.K X.mg X.base CX k f fd ps sp) (hr:Room (k + 1) X.A) (hg:Gl X x) (hm:X.mg x=some (.ref C)) (hb:Binds X.K fd ps ds) (hd:Vals dvs ds) (hx:YG CX X E)
  (ha:PA X (e :: es) t) (hdb:(x == ("__debug__" : Str))=false:=by decide) (he:starEach (e :: es) X.env=(false,eval e X.env) :: starEach es X.env:=by rfl) (hpl:(backTo pos (starEach es X.env)).any (·.1)=false:=by rfl) :
  PE X (.Call (.Name x p) (e :: es) [] pos) (z0V C sp dvs E t):=by
 intro pins s σ H Q I h
 refine wpAny_Call_Name_kw (z0z I hg hm ?_ hdb)
 refine PySem.W.callWith_K (h₀:=X.base) I.ok.mod.kin M.kp (thn (ha pos pins s σ H _ I h) fun us s1 ⟨vs,H1,I1,r,q⟩=>⟨I1.kIn,?_⟩) he hpl
 exact z8E M F hr hb hd hx I1 r q
theorem zi7 (M:Mk X.K C f) (F:FnOk X.prog X.w X.K X.mg X.base CX k f fd ps sp) (hr:Room (k + 1) X.A) (hg:Gl X x) (hm:X.mg x=some (.ref C)) (hb:Binds X.K fd ps ds) (hd:Vals dvs ds) (hx:YG CX X E)
  (hdb:(x == ("__debug__" : Str))=false:=by decide):PE X (.Call (.Name x p) [] [] pos) (z0V C sp dvs E ZO):=by
 intro pins s σ H Q I h
 refine wpAny_Call_Name_kw (z0z I hg hm ?_ hdb)
 exact PySem.W.callWith_K0 I.kIn M.kp (z8E (us:=[]) M F hr hb hd hx I .nil h)
end
structure FnScope (N P:List Str) (sc:Scope):Prop where
 kind:sc.kind = .function
 co:sc.isCoroutine=false
 gen:sc.isGenerator=false
 nd:N.Nodup
 pre:N.take P.length=P
 par:∀ x∈P,sc.names.lookup x=some .local∨sc.names.lookup x=some .cell
 nofree:∀ y∈sc.names,y.2≠.free
theorem z64 {kindOf:Str→Option NameKind} {x:Str}:∀ {binds:List (Str × Value)} {m:Str→Option Value},(∀ v,(x,v) ∉ binds)→bindL kindOf binds m x=m x
 | [],_,_=>rfl
 | (n,v) :: r,m,h=>by
  unfold bindL
  rw [z64 fun w hw=>h w (List.mem_cons_of_mem _ hw)]
  split
  ·have:x≠n:=by rintro rfl;exact h v List.mem_cons_self
   simp [this]
  ·rfl
theorem z62 {kindOf:Str→Option NameKind} {x:Str}:∀ {binds:List (Str × Value)} {m:Str→Option Value},(∀ v,(x,v) ∉ binds)→bindC kindOf binds m x=m x
 | [],_,_=>rfl
 | (n,v) :: r,m,h=>by
  unfold bindC
  rw [z62 fun w hw=>h w (List.mem_cons_of_mem _ hw)]
  split
  ·rfl
  ·have:x≠n:=by rintro rfl;exact h v List.mem_cons_self
   simp [this]
theorem z63 {kindOf:Str→Option NameKind} {x:Str} {v:Value}:∀ {P:List Str} {vs:List Value} {i:Nat} {m:Str→Option Value},P.Nodup→P[i]?=some x→vs[i]?=some v→kindOf x=some .local →
  bindL kindOf (P.zip vs) m x=some v
 | [],_,_,_,_,h,_,_=>by simp at h
 | _ :: _,[],_,_,_,_,h,_=>by simp at h
 | p :: P,w :: vs,0,m,nd,h1,h2,hk=>by
  simp at h1 h2;subst h1;subst h2
  show bindL kindOf ((p,w) :: P.zip vs) m p=_
  unfold bindL
  rw [z64 fun v hv=>(List.nodup_cons.mp nd).1 (List.of_mem_zip hv).1,if_pos hk]
  simp
 | p :: P,w :: vs,i + 1,m,nd,h1,h2,hk=>by
  show bindL kindOf ((p,w) :: P.zip vs) m x=_
  unfold bindL
  exact z63 (i:=i) (List.nodup_cons.mp nd).2 (by simpa using h1) (by simpa using h2) hk
theorem z61 {kindOf:Str→Option NameKind} {x:Str} {v:Value}:∀ {P:List Str} {vs:List Value} {i:Nat} {m:Str→Option Value},P.Nodup→P[i]?=some x→vs[i]?=some v→kindOf x≠some .local →
  bindC kindOf (P.zip vs) m x=some v
 | [],_,_,_,_,h,_,_=>by simp at h
 | _ :: _,[],_,_,_,_,h,_=>by simp at h
 | p :: P,w :: vs,0,m,nd,h1,h2,hk=>by
  simp at h1 h2;subst h1;subst h2
  show bindC kindOf ((p,w) :: P.zip vs) m p=_
  unfold bindC
  rw [z62 fun v hv=>(List.nodup_cons.mp nd).1 (List.of_mem_zip hv).1,if_neg hk]
  simp
 | p :: P,w :: vs,i + 1,m,nd,h1,h2,hk=>by
  show bindC kindOf ((p,w) :: P.zip vs) m x=_
  unfold bindC
  exact z61 (i:=i) (List.nodup_cons.mp nd).2 (by simpa using h1) (by simpa using h2) hk
def start (N:List Str) (vs:List V):St:=vs.map some ++ List.replicate (N.length - vs.length) none
def jh (CX:CXT) (P:Program) (w:World) (K:PySem.W.Frag) (mg:Str→Option Value) (base:Heap) (N:List Str) (qual:Str) (scope:Scope) (f:Addr) (cd:Value) (A:Around) (outer:List Env) (s:Shared) (H:Hp) (E:XK):Cx where
 prog:=P
 w:=w
 K:=K
 mg:=mg
 base:=base
 A:=A.deeper (envOfC qual scope s.heap.objs.size f cd)
 N:=N
 s_0:=s
 H_0:=H
 env:=envOfC qual scope s.heap.objs.size f cd
 outer:=outer
 stack:=envOfC qual scope s.heap.objs.size f cd :: outer
 ex:=[]
 calm:=true
 fn:=fun _=>true
 pn:=[]
 xe:=fun e s'=>wpAny (model P w) (A.deeper (envOfC qual scope s.heap.objs.size f cd)) (leaving (envOfC qual scope s.heap.objs.size f cd) e) (fun _ s''=>CX outer H s E e s'') (fun e' s''=>CX outer H s E e' s'') s'
theorem z6c {sc:Scope} {n:Nat} {x:Str} (h:sc.names.lookup x=some .cell):∃ c,(cellsFrom n sc.names []).lookup x=some c:=by
 have q:=PySem.W.cellsFrom_some sc.names n [] (.inl h)
 exact Option.isSome_iff_exists.mp q
theorem zeW {CX:CXT} {P:Program} {w:World} {K:PySem.W.Frag} {mg:Str→Option Value} {base:Heap} {N ps:List Str} {qual:Str} {scope:Scope} {f:Addr} {cd:Value} {A:Around} {outer:List Env} {s s1:Shared} {H:Hp} {E:XK} {us:List Value} {vs:List V}
  (S:FnScope N ps scope) (hd:A.handled=none) (e0:Env0 P w K mg base A outer s H) (hl:vs.length=ps.length) (r:Vals vs us)
  (x:InCallC s s.heap.objs.size (bindL (envOfC qual scope s.heap.objs.size f cd).kindOf (ps.zip us) fun _=>none) (cellsFrom (s.heap.objs.size + 1) scope.names []) (bindC (envOfC qual scope s.heap.objs.size f cd).kindOf (ps.zip us) fun _=>none) s1) :
  Inv (jh CX P w K mg base N qual scope f cd A outer s H E) [] (start N vs) H s1:=by
 have hpl:ps.length≤N.length:=by have:=congrArg List.length S.pre;rw [List.length_take] at this;omega
 obtain ⟨h1,tk,rfl,hk⟩:=x.done
 have noA:∀ b:Addr,b ∉ (jh CX P w K mg base N qual scope f cd A outer s H E).ex:=fun b z=>absurd (show b∈([]:List Addr) from z) (by simp)
 refine ⟨⟨e0.mod,S.kind,rfl,rfl,Nat.le_refl _,fun y z c h1 h2=>?_,fun y hy=>?_,fun y c _ h=>?_,fun _=>hd,Around.frames_deeper e0.frames,.inr ⟨rfl,rfl⟩,fun b z=>absurd z (noA b),e0.bs,e0.bsz,fun b _ _=>noA b,fun b z=>absurd z (noA b),e0.funs,e0.frf⟩,
  rfl,e0.bare,Un.kept hk,⟨_,x.toInCall.ns,fun i y v h1 h2 h3=>?_⟩,fun y c h=>⟨_,x.cell y c h⟩,e0.hok.fresh (Nat.le_refl _),fun y c h=>?_,fun p hp=>absurd (show p∈([]:List (Addr × Obj)) from hp) (by simp),e0.hok.kept hk,?_⟩
 ·exact name_of_addr x.apart (PySem.mem_of_lookup h1) (PySem.mem_of_lookup h2)
 ·have hy:scope.names.lookup y=some .cell∨scope.names.lookup y=some .free:=hy
  rcases hy with hy | hy
  ·exact z6c hy
  ·exact absurd rfl (S.nofree _ (PySem.mem_of_lookup hy))
 ·exact Nat.le_of_lt (x.above y c (PySem.mem_of_lookup h))
 ·have hi:i < vs.length:=by
   unfold start at h2
   by_cases hi:i < vs.length
   ·exact hi
   ·rw [List.getElem?_append_right (by simpa using hi)] at h2
    rw [List.getElem?_replicate] at h2
    split at h2 <;> cases h2
  have ha:vs[i]?=some v:=by
   unfold start at h2
   rw [List.getElem?_append_left (by simpa using hi),List.getElem?_map] at h2
   cases e:vs[i]? with
   | none=>rw [e] at h2;cases h2
   | some a=>rw [e] at h2;cases h2;rfl
  obtain ⟨u,hu,rv⟩:=r.get ha
  have hp:ps[i]?=some y:=by
   rw [← S.pre,List.getElem?_take_of_lt (by omega)];exact h1
  have ndP:ps.Nodup:=by rw [← S.pre];exact S.nd.sublist (List.take_sublist _ _)
  refine ⟨u,rv,?_⟩
  rcases S.par y (List.mem_of_getElem? hp) with k | k
  ·exact .inl ⟨k,z63 ndP hp hu k⟩
  ·obtain ⟨c,e⟩:=z6c (n:=s.heap.objs.size + 1) k
   refine .inr ⟨.inl k,c,e,?_⟩
   have q:=x.cell y c e
   rw [z61 ndP hp hu (by show scope.names.lookup y≠_;rw [k];decide)] at q
   exact q
 ·exact e0.hok.fresh (Nat.le_of_lt (x.above y c (PySem.mem_of_lookup h)))
 ·unfold start
  show _=N.length
  rw [List.length_append,List.length_map,List.length_replicate]
  omega
theorem zd7 {CX:CXT} {P:Program} {w:World} {K:PySem.W.Frag} {mg:Str→Option Value} {base:Heap} {k:Nat} {f:Addr} {name qual:Str} {params:Arguments} {body:List Stmt} {scope:Scope} {dV kV doc pm cdv ct oc:Value} {an od:Option Addr}
  {osl:Array (Option Value)} {N ps:List Str} {sp:Sp} (lk:K.lookup f=some ⟨oc,od,.func (PySem.W.fnOf name qual params body scope dV kV doc pm an cdv ct),osl⟩) (hcd:PySem.W.codeIn K cdv qual=true) (S:FnScope N ps scope)
  (len:∀ vs H Q E,sp vs H Q E→vs.length=ps.length)
  (hbody:∀ (A:Around) (outer:List Env) (s:Shared) (H:Hp) (vs:List V) (Q:VK) (E:XK),Room k (A.deeper (envOfC qual scope s.heap.objs.size f cdv))→sp vs H Q E →
   ∃ t,PSs (jh CX P w K mg base N qual scope f cdv A outer s H E) body t∧t { nx:=fun _ H'=>Q .non H',rt:=Q } (start N vs) H) :
  FnOk P w K mg base CX (k + 1) f (PySem.W.fnOf name qual params body scope dV kV doc pm an cdv ct) ps sp:=by
 refine ⟨len,fun A outer s H args us vs Q E hr e0 hb r hsp=>?_⟩
 have hl:=len _ _ _ _ hsp
 have KX:K.In s.heap:=e0.mod.kin.keeps fun b o e=>(e0.bs b o e).1
 have lim:s.heap.NoLimit:=e0.mod.nolimit.keeps fun b o e=>(e0.bs b o e).1
 have hkind:∀ y∈ps.zip us,scope.names.lookup y.1=some .local∨(scope.names.lookup y.1=some .cell∧((cellsFrom (s.heap.objs.size + 1) scope.names []).lookup y.1).isSome=true):=fun ⟨n,v⟩ hy=>by
  rcases S.par n (List.of_mem_zip hy).1 with q | q
  ·exact .inl q
  ·exact .inr ⟨q,PySem.W.cellsFrom_some _ _ _ (.inl q)⟩
 refine codeAny_call_function hr.depth (KX _ _ lk) rfl S.co S.gen rfl (PySem.W.codeRec_of KX hcd) (hb _ _ _ _ ?_)
 refine wpAny_newFunctionEnv_cells S.kind hkind fun env he s1 x=>?_
 subst he
 refine ⟨lim.keeps x.toInCall.keep,codeAny_func ?_⟩
 obtain ⟨t,ht,hq⟩:=hbody A outer s H vs Q E (hr.deeper _) hsp
 have I:Inv (jh CX P w K mg base N qual scope f cdv A outer s H E) [] (start N vs) H s1:=zeW S hr.hd e0 hl r x
 refine wpAny_mono (ht [] s1 (start N vs) H _ I hq) (fun fl s' hs=>?_) fun e s' hs=>hs
 have fin:∀ {σ':St} {H':Hp} {v:V} {u:Value},Inv (jh CX P w K mg base N qual scope f cdv A outer s H E) [] σ' H' s'→RelV v u→Q v H'→CE outer P w H s Q u s' :=
  fun {σ' H' v u} J rv q=>⟨v,H',J.os,J.bare,J.base,J.hok,rv,q⟩
 cases fl with
 | ret u=>
  obtain ⟨v,σ',H',J,rv,q⟩:=hs
  exact fin J rv q
 | next=>
  obtain ⟨σ',H',J,q⟩:=hs
  exact fin (v:=V.non) (u:=Value.none) J rfl q
 | brk=>
  obtain ⟨_,_,_,q⟩:=hs
  exact False.elim q
 | cont=>
  obtain ⟨_,_,_,q⟩:=hs
  exact False.elim q
end L2
namespace L2
open PySem PySem.Spec PyProof.Rows
section
variable {X:Cx} {x:Str} {p pos:Pos} {e:Expr} {es:List Expr} {t:TA} {id T:String} {r:List V→Hp→VK→Prop}
def tCB (r:List V→Hp→VK→Prop) (t:TA):TE:=fun σ H Q=>t σ H fun vs H1=>r vs H1 Q
theorem yn (hc:Z7 X (.builtin id) r) (hg:Gl X x) (hm:X.mg x=none) (hv:bootBuiltins x=some (.builtin id)) (ha:PA X (e :: es) t) (hn:x≠"__name__":=by decide) (hdb:(x == ("__debug__" : Str))=false:=by decide)
  (he:starEach (e :: es) X.env=(false,eval e X.env) :: starEach es X.env:=by rfl) (hpl:(backTo pos (starEach es X.env)).any (·.1)=false:=by rfl):PE X (.Call (.Name x p) (e :: es) [] pos) (tCB r t):=by
 intro pins s σ H Q I h
 refine wpAny_Call_Name_kw (z0y I hg hm hv ?_ hn hdb)
 exact PyProof.Rows.callWith_builtin1 (thn (ha pos pins s σ H _ I h) fun us s1 ⟨vs,H1,I1,r1,q1⟩=>hc pins s1 σ H1 vs us Q I1 r1 q1) he hpl
theorem z1H (hc:Z7 X (.type T) r) (hg:Gl X x) (hm:X.mg x=none) (hv:bootBuiltins x=some (.type T)) (ha:PA X (e :: es) t) (hn:x≠"__name__":=by decide) (hdb:(x == ("__debug__" : Str))=false:=by decide)
  (he:starEach (e :: es) X.env=(false,eval e X.env) :: starEach es X.env:=by rfl) (hpl:(backTo pos (starEach es X.env)).any (·.1)=false:=by rfl):PE X (.Call (.Name x p) (e :: es) [] pos) (tCB r t):=by
 intro pins s σ H Q I h
 refine wpAny_Call_Name_kw (z0y I hg hm hv ?_ hn hdb)
 exact PyProof.Rows.callWith_type1 (thn (ha pos pins s σ H _ I h) fun us s1 ⟨vs,H1,I1,r1,q1⟩=>hc pins s1 σ H1 vs us Q I1 r1 q1) he hpl
end
end L2
namespace HT
open PySem PyProof.Rows
section
variable {prog:Program} {w:World} {A:Around} {E:Value→Shared→Prop} {s:Shared}
def sIx (n d:Nat):Option Int→Nat
 | none=>d
 | some v=>if v < 0 then (v + (n:Int)).toNat else min v.toNat n
theorem sIx_nat (n d k:Nat):sIx n d (some (k:Int))=min k n:=by
 show (if (k:Int) < 0 then ((k:Int) + (n:Int)).toNat else min (k:Int).toNat n)=min k n
 rw [if_neg (by omega),Int.toNat_natCast]
end
end HT
namespace L2
open PySem PySem.Spec PyProof.Rows
abbrev TO:=St→Hp→(Option Int→Hp→Prop)→Prop
def PO (X:Cx) (e:Option Expr) (t:TO):Prop :=
 ∀ (pins:List (Addr × Obj)) (s:Shared) (σ : St) (H:Hp) (Q:Option Int→Hp→Prop),Inv X pins σ H s→t σ H Q →
  wpAny (model X.prog X.w) X.A (evalPart e X.env) (fun u s'=>∃ o H',Inv X pins σ H' s'∧IsPart u o∧Q o H') X.xe s
def z0W (t:TE):TO:=fun σ H Q=>t σ H fun x H1=>∃ i,x = .int i∧Q (some i) H1
section
variable {X:Cx} {e:Expr} {te:TE} {lo hi:Option Expr} {tl th:TO} {pos p2:Pos}
theorem z88 (h:PE X e te):PO X (some e) (z0W te):=by
 intro pins s σ H Q I hw
 rw [evalPart_some]
 refine thn (h pins s σ H _ I hw) fun u s1 ⟨x,H1,I1,r1,q1⟩=>?_
 obtain ⟨i,rfl,q⟩:=q1
 obtain ⟨t,rfl⟩:=r1
 exact ⟨some i,H1,I1,.int i t,q⟩
def SlR (X:Cx) (r:V→Option Int→Option Int→Hp→VK→Prop):Prop :=
 ∀ (pins:List (Addr × Obj)) (s:Shared) (σ : St) (H:Hp) (x:V) (v vl vu:Value) (lo hi:Option Int) (sl:Addr) (Q:VK),Inv X pins σ H s→RelV x v→s.heap.IsSliceOf sl vl vu .none→IsPart vl lo→IsPart vu hi→r x lo hi H Q →
  ∃ T id,typeLookup (.type T) "__getitem__" = pure (some (.builtin id))∧s.TypeIs v T∧wpAny (model X.prog X.w) X.A (getItem v (.ref sl)) (EP X pins σ Q) X.xe s
def tSl (r:V→Option Int→Option Int→Hp→VK→Prop) (te:TE) (tl th:TO):TE:=fun σ H Q=>te σ H fun x H1=>tl σ H1 fun l H2=>th σ H2 fun u H3=>r x l u H3 Q
theorem zi9 {r:V→Option Int→Option Int→Hp→VK→Prop} (hr:SlR X r) (he:PE X e te) (hl:PO X lo tl) (hu:PO X hi th):PE X (.Subscript e (.Slice lo hi none p2) pos) (tSl r te tl th):=by
 intro pins s σ H Q I h
 refine Subscript_ (thn (he pins s σ H _ I h) fun v s1 ⟨x,H1,I1,r1,q1⟩=>?_)
 refine wpAny_Slice (thn (hl pins s1 σ H1 _ I1 q1) fun vl s2 ⟨l,H2,I2,pl,q2⟩=>thn (hu pins s2 σ H2 _ I2 q2) fun vu s3 ⟨u,H3,I3,pu,q3⟩=>?_)
 rw [evalPart_none]
 refine wpAny_pure ?_
 have I4:Inv X pins σ H3 { s3 with heap:=s3.heap.push { cls:=.type "slice",data:=.fields #[vl,vu,.none] } }:=I3.kept (t':=s3.toks) fun b ob q=>Heap.get?_push_of_some _ q
 obtain ⟨T,id,hT,ht,hg⟩:=hr pins { s3 with heap:=s3.heap.push { cls:=.type "slice",data:=.fields #[vl,vu,.none] } } σ H3 x v vl vu l u s3.heap.objs.size Q I4 r1 (Heap.IsSliceOf.new ..) pl pu q3
 show wpAny (model X.prog X.w) X.A (subscriptTail e (.Slice lo hi none p2) v (.ref s3.heap.objs.size)) (EP X pins σ Q) X.xe { s3 with heap:=s3.heap.push { cls:=.type "slice",data:=.fields #[vl,vu,.none] } }
 exact tail_any (ops:=[.ref s3.heap.objs.size,v]) ht hT hg (by with_unfolding_all rfl)
def J3 (xs:List V) (lo hi:Option Int):List V:=(xs.drop (HT.sIx xs.length 0 lo)).take (HT.sIx xs.length xs.length hi - HT.sIx xs.length 0 lo)
theorem zcI (xs:List V) (lo hi:Option Int):(J3 xs lo hi).length≤xs.length:=by
 unfold J3
 rw [List.length_take,List.length_drop]
 omega
end
end L2
namespace L2
open PySem PySem.Spec PyProof.Rows
def ixN (n:Nat) (i:Int):Option Nat:=if 0≤i then (if i < n then some i.toNat else none) else if -(n:Int)≤i then some (i + n).toNat else none
def atI {α : Type} (xs:List α) (i:Int):Option α:=(ixN xs.length i).bind fun j=>xs[j]?
theorem z79 {n:Nat} {i:Int} {j:Nat} (h:ixN n i=some j):seqIndex? i n=some j∧j < n∧-(n:Int)≤i∧i < n:=by
 unfold ixN at h
 by_cases h0:0≤i
 ·rw [if_pos h0] at h
  by_cases h1:i < n
  ·rw [if_pos h1] at h
   have e:i.toNat=j:=Option.some.inj h
   exact ⟨by rw [seqIndex_of h0 h1,e],by omega,by omega,h1⟩
  ·rw [if_neg h1] at h;cases h
 ·rw [if_neg h0] at h
  by_cases h1:-(n:Int)≤i
  ·rw [if_pos h1] at h
   have e:(i + n).toNat=j:=Option.some.inj h
   exact ⟨by rw [seqIndex_neg (by omega) h1,e],by omega,h1,by omega⟩
  ·rw [if_neg h1] at h;cases h
theorem z5W {α : Type} {xs:List α} {i:Int} {v : α} (h:atI xs i=some v):∃ j,seqIndex? i xs.length=some j∧xs[j]?=some v∧j < xs.length∧-(xs.length:Int)≤i∧i < xs.length:=by
 unfold atI at h
 cases e:ixN xs.length i with
 | none=>rw [e] at h;cases h
 | some j=>
  rw [e] at h
  obtain ⟨h1,h2,h3,h4⟩:=z79 e
  exact ⟨j,h1,h,h2,h3,h4⟩
theorem zcd {α : Type} {xs:List α} {j:Nat} {v : α} (h:xs[j]?=some v):atI xs (j:Int)=some v:=by
 have hj:j < xs.length:=(List.getElem?_eq_some_iff.mp h).1
 have e:ixN xs.length (j:Int)=some j:=by
  unfold ixN
  rw [if_pos (by omega),if_pos (by omega)];simp
 unfold atI;rw [e];exact h
def zbH (b:Expr):Prop:=∀ o i,subscripted b false o i=operate [o,i] (getItem o i)
def IxR (X:Cx) (r:R2):Prop :=
 ∀ (value slice:Expr) (pins:List (Addr × Obj)) (s:Shared) (σ : St) (H:Hp) (x y:V) (v u:Value) (Q:VK),Inv X pins σ H s→RelV x v→RelV y u→r x y H Q →
  subscripted slice false v u=operate [v,u] (getItem v u)→wpAny (model X.prog X.w) X.A (subscriptTail value slice v u) (EP X pins σ Q) X.xe s
def MtR (X:Cx) (id:String) (r:V→List V→Hp→VK→Prop):Prop :=
 ∀ (pins:List (Addr × Obj)) (s:Shared) (σ : St) (H:Hp) (x:V) (xs:List V) (v:Value) (us:List Value) (Q:VK),Inv X pins σ H s→RelV x v→Vals xs us→r x xs H Q →
  wpAny (model X.prog X.w) X.A (call (.builtin id) (v :: us)) (EP X pins σ Q) X.xe s
section
variable {X:Cx} {a b:Expr} {ta tb:TE} {pos:Pos}
theorem zD {r:R2} (hr:IxR X r) (ha:PE X a ta) (hb:PE X b tb) (hs:zbH b):PE X (.Subscript a b pos) (tOp r ta tb):=by
 intro pins s σ H Q I h
 exact Subscript_ (z3n ha hb I h fun v u s2 x y H2 I2 rx ry q=>hr a b pins s2 σ H2 x y v u Q I2 rx ry q (hs _ _))
def z0N (K:PySem.W.Frag):R2:=fun x y H Q=>∃ p xs i v,x = .ref p∧y = .int i∧SqL K H p xs∧atI xs i=some v∧Q v H
def z8l (K:PySem.W.Frag):R2:=fun x y H Q=>∃ p xs i v,x = .ref p∧y = .int i∧SqT K H p xs∧atI xs i=some v∧Q v H
theorem zf0:IxR X (z0N X.K):=by
 intro value slice pins s σ H x y v u Q I rx ry h hs
 obtain ⟨p,xs,i,z,rfl,rfl,hq,he,q⟩:=h
 cases rx
 obtain ⟨t,rfl⟩:=ry
 obtain ⟨its,r,pl,hz⟩:=I.list hq
 obtain ⟨j,h1,h2,h3,h4,h5⟩:=z5W he
 obtain ⟨w,ew,rw'⟩:=r.get h2
 have hl:=r.length
 have hn:=z0B
 have fin:EP X pins σ Q w s:=⟨z,H,I,rw',q⟩
 by_cases h0:0≤i
 ·have hj:i.toNat=j:=by
   rw [seqIndex_of h0 h5] at h1
   exact Option.some.inj h1
  exact item_listR pl.isList h0 (by omega) (by rw [hj];simpa using ew) fin hs
 ·have hj:(i + (its.toArray.size:Int)).toNat=j:=by
   rw [seqIndex_neg (by omega) h4] at h1
   rw [List.size_toArray,← hl]
   exact Option.some.inj h1
  exact subscriptTail_builtinR (x:=w) pl.isList.typeIs slot_list_getitem.lookup
   (wpAny_getItem_list_neg (Q:=fun r s'=>r=w∧EP X pins σ Q r s') pl.isList (by omega) (by rw [List.size_toArray] <;> omega) (by omega) (by rw [hj];simpa using ew) ⟨rfl,fin⟩) hs
theorem zf1:IxR X (z8l X.K):=by
 intro value slice pins s σ H x y v u Q I rx ry h hs
 obtain ⟨p,xs,i,z,rfl,rfl,hq,he,q⟩:=h
 cases rx
 obtain ⟨t,rfl⟩:=ry
 obtain ⟨its,r,pl,hz⟩:=I.tuple hq
 obtain ⟨j,h1,h2,h3,h4,h5⟩:=z5W he
 obtain ⟨w,ew,rw'⟩:=r.get h2
 have hl:=r.length
 have hn:=z0B
 have fin:EP X pins σ Q w s:=⟨z,H,I,rw',q⟩
 exact subscriptTail_builtinR (x:=w) pl.typeIs slot_tuple_getitem.lookup
  (getItem_tuple (j:=j) (Q:=fun r s'=>r=w∧EP X pins σ Q r s') pl (by omega) (by omega) (by rw [List.size_toArray,← hl];exact h1) (by simpa using ew) ⟨rfl,fin⟩) hs
theorem zg3 (its:List Value) (n j:Nat) (u:Value):Obj.mapSeq (·.setIfInBounds j u) { cls:=.type "list",data:=.seq its.toArray n } = { cls:=.type "list",data:=.seq (its.set j u).toArray n }:=by
 simp [Obj.mapSeq]
theorem Inv.lst {pins:List (Addr × Obj)} {σ : St} {H:Hp} {s:Shared} {p:Addr} {xs:List V} (I:Inv X pins σ H s) (h:H p=some (.lst xs)) :
  ∃ (its:List Value) (n:Nat),Vals xs its∧s.heap.get? p=some { cls:=.type "list",data:=.seq its.toArray n }∧xs.length≤sizeLine:=by
 obtain ⟨z,its,n,r,e⟩:=I.hok p _ h
 exact ⟨its,n,r,e,z⟩
theorem Inv.lstUpd {pins:List (Addr × Obj)} {σ : St} {H:Hp} {s:Shared} {p:Addr} {xs ys:List V} {its its':List Value} {n n':Nat} {f:Obj→Obj} (I:Inv X pins σ H s) (h:H p=some (.lst xs))
  (ho:s.heap.get? p=some { cls:=.type "list",data:=.seq its.toArray n }) (hf:f { cls:=.type "list",data:=.seq its.toArray n } = { cls:=.type "list",data:=.seq its'.toArray n' }) (r:Vals ys its') (hz:ys.length≤sizeLine) (t:Nat) :
  Inv X pins σ (upd H p (.lst ys)) { s with heap:=s.heap.update p f,toks:=t }:=by
 have e:(s.heap.update p f).get? p=some { cls:=.type "list",data:=.seq its'.toArray n' }:=by
  rw [Heap.get?_update_self f ho (by rw [hf] <;> rfl),hf]
 refine I.write (x:=p) (e:=p) (by rw [h];trivial) (.inl rfl) (fun b u hb q=>(Heap.get?_update_other _ _ (Ne.symm hb)).trans q) ⟨_,e⟩ ?_
 exact ⟨hz,its',n',r,e⟩
def z8n:V→V→V→Hp→(Hp→Prop)→Prop:=fun o i v H Q=>∃ p xs k j,o = .ref p∧i = .int k∧H p=some (.lst xs)∧ixN xs.length k=some j∧Q (upd H p (.lst (xs.set j v)))
theorem za2:z5O X z8n:=by
 intro pins s σ H o i v ov iv u Q I ro ri rv h
 obtain ⟨p,xs,k,j,rfl,rfl,hp,hj,q⟩:=h
 cases ro
 obtain ⟨t,rfl⟩:=ri
 obtain ⟨its,n,r,ho,hz⟩:=I.lst hp
 obtain ⟨h1,h2,h3,h4⟩:=z79 hj
 have hl:=r.length
 have hn:=z0B
 have I':Inv X pins σ (upd H p (.lst (xs.set j v))) { s with heap:=s.heap.update p (Obj.mapSeq (·.setIfInBounds j u)) } :=
  I.lstUpd hp ho (zg3 its n j u) (r.set rv j) (by rw [List.length_set];exact hz) s.toks
 by_cases h0:0≤k
 ·have hk:k.toNat=j:=by
   rw [seqIndex_of h0 h4] at h1
   exact Option.some.inj h1
  exact PySem.W.ki_setAt ho h0 (by omega) (by rw [List.size_toArray,← hl];exact h4) (by rw [hk];exact ⟨_,I',q⟩)
 ·have hk:(k + (its.toArray.size:Int)).toNat=j:=by
   rw [seqIndex_neg (by omega) h3] at h1
   rw [List.size_toArray,← hl]
   exact Option.some.inj h1
  exact PySem.W.ki_setBack ho (by omega) (by rw [List.size_toArray,← hl];exact h3) (by omega) (by rw [hk];exact ⟨_,I',q⟩)
theorem zkp (lo hi:Option Int) (n:Nat):(sliceBounds lo hi none n).1=((HT.sIx n 0 lo:Nat):Int)∧(sliceBounds lo hi none n).2.1=((HT.sIx n n hi:Nat):Int)∧(sliceBounds lo hi none n).2.2=1:=by
 refine ⟨?_,?_,rfl⟩
 ·cases lo with
  | none=>simp [sliceBounds,HT.sIx]
  | some i=>
   simp only [sliceBounds,HT.sIx,Option.getD_none,show (1:Int) > 0 by decide,if_true]
   by_cases h:i < 0
   ·simp only [h,if_true] <;> omega
   ·simp only [h,if_false] <;> omega
 ·cases hi with
  | none=>simp [sliceBounds,HT.sIx]
  | some i=>
   simp only [sliceBounds,HT.sIx,Option.getD_none,show (1:Int) > 0 by decide,if_true]
   by_cases h:i < 0
   ·simp only [h,if_true] <;> omega
   ·simp only [h,if_false] <;> omega
theorem zko (its:List Value) (lo hi:Option Int):slicePick its.toArray lo hi none=((its.drop (HT.sIx its.length 0 lo)).take (HT.sIx its.length its.length hi - HT.sIx its.length 0 lo)).toArray:=by
 obtain ⟨h1,h2,h3⟩:=zkp lo hi its.toArray.size
 unfold slicePick
 rw [h1,h2,h3]
 simp only [sliceRange_one,pick_run,List.size_toArray] <;> rfl
def z0O (K:PySem.W.Frag):V→Option Int→Option Int→Hp→VK→Prop:=fun x lo hi H Q=>∃ a xs,x = .ref a∧SqL K H a xs∧∀ p,H p=none→Q (.ref p) (upd H p (.lst (J3 xs lo hi)))
theorem zkn:SlR X (z0O X.K):=by
 intro pins s σ H x v vl vu lo hi sl Q I rx hs pl pu h
 obtain ⟨a,xs,rfl,hx,q⟩:=h
 cases rx
 obtain ⟨its,r,ht,hz⟩:=I.list hx
 have hlen:=r.length
 refine ⟨"list",_,slot_list_getitem.lookup,ht.isList.typeIs,?_⟩
 refine wpAny_getItem_list_slice ht.isList hs pl pu .none (by simp) ?_ (by rw [List.size_toArray] <;> omega)
 rw [zko,← hlen]
 refine ⟨.ref s.heap.objs.size,_,I.laid (t':=s.toks) (o:=.lst (J3 xs lo hi)) (fun b ob q=>Heap.get?_push_of_some _ q) (Nat.le_refl _) ?_,rfl,q _ (I.hok.fresh (Nat.le_refl _))⟩
 exact ⟨Nat.le_trans (zcI xs lo hi) hz,_,0,(r.drop (HT.sIx xs.length 0 lo)).take (HT.sIx xs.length xs.length hi - HT.sIx xs.length 0 lo),Heap.get?_push_size _ rfl⟩
def YW:V→Bool
 | .non=>true
 | .bl _=>true
 | .int _=>true
 | .str _=>true
 | _=>false
def eqV:V→V→Bool
 | .non,.non=>true
 | .bl a,.bl b=>a == b
 | .bl a,.int b=>(if a then 1 else 0) == b
 | .int a,.bl b=>a == (if b then 1 else 0)
 | .int a,.int b=>a == b
 | .str a,.str b=>a == b
 | _,_=>false
theorem zd3 {A:Around} {s:Shared} {y x:V} {u v:Value} (ry:RelV y u) (rx:RelV x v) (fy:YW y=true) (fx:YW x=true):SeqAt.EqAt A s u v (eqV y x):=by
 cases y with
 | non=>
  cases ry
  cases x with
  | non=>cases rx;exact SeqAt.EqAt.same _
  | bl b=>cases rx;exact SeqAt.EqAt.none_bool b
  | int b=>obtain ⟨t,rfl⟩:=rx;exact SeqAt.EqAt.none_int b t
  | str b=>obtain ⟨t,rfl⟩:=rx;exact SeqAt.EqAt.none_str b t
  | _=>exact absurd (show false=true from fx) Bool.false_ne_true
 | bl a=>
  cases ry
  cases x with
  | non=>cases rx;exact SeqAt.EqAt.bool_none a
  | bl b=>cases rx;exact SeqAt.EqAt.bool_bool a b
  | int b=>obtain ⟨t,rfl⟩:=rx;exact SeqAt.EqAt.bool_int a b t
  | str b=>obtain ⟨t,rfl⟩:=rx;exact SeqAt.EqAt.bool_str a b t
  | _=>exact absurd (show false=true from fx) Bool.false_ne_true
 | int a=>
  obtain ⟨t',rfl⟩:=ry
  cases x with
  | non=>cases rx;exact SeqAt.EqAt.int_none a t'
  | bl b=>cases rx;exact SeqAt.EqAt.int_bool a t' b
  | int b=>obtain ⟨t,rfl⟩:=rx;exact SeqAt.EqAt.int_int a t' b t
  | str b=>obtain ⟨t,rfl⟩:=rx;exact SeqAt.EqAt.int_str a t' b t
  | _=>exact absurd (show false=true from fx) Bool.false_ne_true
 | str a=>
  obtain ⟨t',rfl⟩:=ry
  cases x with
  | non=>cases rx;exact SeqAt.EqAt.str_none a t'
  | bl b=>cases rx;exact SeqAt.EqAt.str_bool a t' b
  | int b=>obtain ⟨t,rfl⟩:=rx;exact SeqAt.EqAt.str_int a t' b t
  | str b=>obtain ⟨t,rfl⟩:=rx;exact SeqAt.EqAt.str_str a t' b t
  | _=>exact absurd (show false=true from fx) Bool.false_ne_true
 | _=>exact absurd (show false=true from fy) Bool.false_ne_true
def eqU (x:V) (u:Value):Bool:=match u with
 | .none=>eqV .non x
 | .bool b=>eqV (.bl b) x
 | .int i _=>eqV (.int i) x
 | .str z _=>eqV (.str z) x
 | _=>false
theorem z6u {x y:V} {u:Value} (r:RelV y u) (f:YW y=true):eqU x u=eqV y x:=by
 cases y with
 | non=>cases r;rfl
 | bl b=>cases r;rfl
 | int i=>obtain ⟨t,rfl⟩:=r;rfl
 | str z=>obtain ⟨t,rfl⟩:=r;rfl
 | _=>exact absurd (show false=true from f) Bool.false_ne_true
theorem z3i {x:V}:∀ {xs:List V} {us:List Value},Vals xs us→xs.all YW=true→us.any (eqU x)=xs.any fun y=>eqV y x
 | _,_,.nil,_=>rfl
 | y :: xs,u :: us,.cons r t,f=>by
  rw [List.all_cons,Bool.and_eq_true] at f
  rw [List.any_cons,List.any_cons,z6u r f.1,z3i t f.2]
theorem z4e {A:Around} {s:Shared} {x:V} {v:Value} (rx:RelV x v) (fx:YW x=true):∀ {xs:List V} {us:List Value},Vals xs us→xs.all YW=true→∀ u∈us,SeqAt.EqAt A s u v (eqU x u)
 | _,_,.nil,_=>fun u hu=>by cases hu
 | y :: xs,u :: us,.cons r t,f=>fun u' hu=>by
  rw [List.all_cons,Bool.and_eq_true] at f
  rcases List.mem_cons.mp hu with rfl | hu
  ·rw [z6u r f.1];exact zd3 r rx f.1 fx
  ·exact z4e rx fx t f.2 u' hu
def inV (x:V) (xs:List V):Bool:=xs.any fun y=>eqV y x
def rIn (K:PySem.W.Frag) (neg:Bool):R2:=fun x y H Q=>∃ p xs,y = .ref p∧(SqL K H p xs∨SqT K H p xs)∧YW x=true∧xs.all YW=true∧Q (.bl (if neg then !inV x xs else inV x xs)) H
theorem zhP:OpR X (compareOp .NotIn) (rIn X.K true):=by
 intro pins s σ H x y v u Q I rx ry h
 obtain ⟨p,xs,rfl,hq,fx,fs,q⟩:=h
 cases ry
 rcases hq with hq | hq
 ·obtain ⟨its,r,pl,hz⟩:=I.list hq
  refine SeqAt.notIn_listAt (eqU x) pl.isList (fun w hw=>z4e rx fx r fs w (by simpa using hw)) ⟨.bl _,H,I,rfl,?_⟩
  rw [show its.toArray.any (eqU x)=its.any (eqU x) by simp,z3i r fs]
  exact q
 ·obtain ⟨its,r,pl,hz⟩:=I.tuple hq
  refine SeqAt.notIn_tupleAt (eqU x) pl (fun w hw=>z4e rx fx r fs w (by simpa using hw)) ⟨.bl _,H,I,rfl,?_⟩
  rw [show its.toArray.any (eqU x)=its.any (eqU x) by simp,z3i r fs]
  exact q
theorem zcu:Z7 X (.builtin "len") (fun xs H Q=>∃ p ys,xs=[.ref p]∧(SqL X.K H p ys∨SqT X.K H p ys)∧Q (.int ys.length) H):=by
 intro pins s σ H xs us Q I r h
 obtain ⟨p,ys,rfl,hq,q⟩:=h
 obtain ⟨u,rfl,rx⟩:=jR r
 cases rx
 have hn:=z0B
 rcases hq with hq | hq
 ·obtain ⟨its,r',pl,hz⟩:=I.list hq
  have hlen:=r'.length
  exact Calls.call_len_list pl.isList (by simp only [List.size_toArray] <;> omega) ⟨.int ys.length,H,I.tok _,⟨s.toks + 1,by rw [List.size_toArray,hlen]⟩,q⟩
 ·obtain ⟨its,r',pl,hz⟩:=I.tuple hq
  have hlen:=r'.length
  exact len_tuple pl (by simp only [List.size_toArray] <;> omega) ⟨.int ys.length,H,I.tok _,⟨s.toks + 1,by rw [List.size_toArray,hlen]⟩,q⟩
theorem zcv:Z7 X (.type "list") (fun xs H Q=>∃ p ys,xs=[.ref p]∧(SqL X.K H p ys∨SqT X.K H p ys)∧∀ l,H l=none→Q (.ref l) (upd H l (.lst ys))):=by
 intro pins s σ H xs us Q I r h
 obtain ⟨p,ys,rfl,hq,q⟩:=h
 obtain ⟨u,rfl,rx⟩:=jR r
 cases rx
 have fin:∀ (its:List Value),Vals ys its→ys.length≤sizeLine→∀ (h':Heap) (c':Nat),(∀ b o',s.heap.get? b=some o'→h'.get? b=some o') →
   h'.get? s.heap.objs.size=some { cls:=.type "list",dict:=none,data:=.seq its.toArray c',slots:=#[] }→EP X pins σ Q (.ref s.heap.objs.size) { s with heap:=h' }:=fun its r' hz h' c' kp e=>
  ⟨.ref s.heap.objs.size,_,I.laid (t':=s.toks) kp (Nat.le_refl _) (show ObjOk X.prog X.w _ h' _ (.lst ys) from ⟨hz,its,c',r',e⟩),rfl,q _ (I.hok.fresh (Nat.le_refl _))⟩
 rcases hq with hq | hq
 ·obtain ⟨its,r',pl,hz⟩:=I.list hq
  have hlen:=r'.length
  obtain ⟨o,ho,hc,n,hd⟩:=pl.isList
  exact call_list_seq p (.inl rfl) ho hc hd (fun h' c' kp e=>fin its r' hz h' c' kp e) (by simp only [List.size_toArray] <;> omega)
 ·obtain ⟨its,r',pl,hz⟩:=I.tuple hq
  have hlen:=r'.length
  obtain ⟨o,ho,hc,n,hd⟩:=pl
  exact call_list_seq p (.inr rfl) ho hc hd (fun h' c' kp e=>fin its r' hz h' c' kp e) (by simp only [List.size_toArray] <;> omega)
def tyV (K:PySem.W.Frag) (T:String) (x:V) (H:Hp):Prop:=match x with
 | .str _=>T = "str"
 | .int _=>T = "int"
 | .ref p=>(T = "list"∧∃ xs,SqL K H p xs)∨(T = "tuple"∧∃ o,K.lookup p=some o∧o.cls = .type "tuple"∧o.dict=none) ∨
   (T = "dict"∧((∃ kvs,H p=some (.dK kvs))∨∃ kvs,H p=some (.dT kvs)))∨(T = "set"∧∃ S n,H p=some (.set S n))
 | _=>False
theorem zkY {pins:List (Addr × Obj)} {σ : St} {H:Hp} {s:Shared} {T:String} {x:V} {v:Value} (I:Inv X pins σ H s) (r:RelV x v) (ty:tyV X.K T x H) :
  s.TypeIs v T∧∀ a,v = .ref a→∃ ob,s.heap.get? a=some ob∧ob.dict=none:=by
 cases x with
 | str z=>
  obtain ⟨t,rfl⟩:=r
  cases (show T = "str" from ty)
  exact ⟨typeIs_str s z t,fun _ e=>nomatch e⟩
 | int i=>
  obtain ⟨t,rfl⟩:=r
  cases (show T = "int" from ty)
  exact ⟨typeIs_int s i t,fun _ e=>nomatch e⟩
 | ref p=>
  cases r
  rcases ty with ⟨rfl,xs,hq⟩ | ⟨rfl,o,hk,hc,hd⟩ | ⟨rfl,hk⟩ | ⟨rfl,S,n,hk⟩
  ·obtain ⟨its,_,pl,_⟩:=I.list hq
   refine ⟨pl.isList.typeIs,fun a e=>?_⟩
   cases e
   obtain ⟨o,n,e,c,hd,_⟩:=pl
   exact ⟨o,e,hd⟩
  ·refine ⟨⟨o,I.kIn p o hk,hc⟩,fun a e=>?_⟩
   cases e
   exact ⟨o,I.kIn _ o hk,hd⟩
  ·have z:∃ o,s.heap.get? p=some o∧o.ExactDict:=by
    rcases hk with ⟨kvs,hk⟩ | ⟨kvs,hk⟩
    ·obtain ⟨_,_,_,_,o,_,_,e,ex,_⟩:=I.hok p _ hk
     exact ⟨o,e,ex⟩
    ·obtain ⟨_,_,_,_,o,_,_,e,ex,_⟩:=I.hok p _ hk
     exact ⟨o,e,ex⟩
   obtain ⟨o,e,ex⟩:=z
   refine ⟨⟨o,e,ex.1⟩,fun a e2=>?_⟩
   cases e2
   exact ⟨o,e,ex.2.1⟩
  ·obtain ⟨o,_,_,_,e,ex,_⟩:=I.hok p _ hk
   refine ⟨⟨o,e,ex.1⟩,fun a e2=>?_⟩
   cases e2
   exact ⟨o,e,ex.2.1⟩
 | _=>exact False.elim ty
def tBM (K:PySem.W.Frag) (T:String) (r:V→List V→Hp→VK→Prop) (to:TE) (t:TA):TE:=fun σ H Q=>to σ H fun x H1=>tyV K T x H1∧t σ H1 fun xs H2=>r x xs H2 Q
variable {o e:Expr} {es:List Expr} {to:TE} {t:TA} {name:Str} {apos cpos:Pos} {T id:String} {r:V→List V→Hp→VK→Prop}
theorem zhY (pa:PlainAttrs T) (slot:Slot T name id) (hty:typeOf (.builtin id)=pure (.type "method_descriptor")) (hm:MtR X id r) (ho:PE X o to) (ha:PA X (e :: es) t)
  (hbase:attributeBase o name X.env (eval o X.env)=eval o X.env:=by rfl)
  (hfew:((backTo cpos (starEach (e :: es) X.env)).all (fun x=>!x.1) && (backToKw cpos (keywordEach [] X.env)).all (fun x=>x.1.isSome)
   && decide ((e :: es).length + ([]:List Keyword).length + (if ([]:List Keyword).isEmpty then 0 else 1) < 30))=true:=by rfl)
  (hline:(apos.endLine == cpos.line)=true:=by rfl) (hs:starEach (e :: es) X.env=(false,eval e X.env) :: starEach es X.env:=by rfl) (hplain:(backTo cpos (starEach es X.env)).any (·.1)=false:=by rfl) :
  PE X (.Call (.Attribute o name apos) (e :: es) [] cpos) (tBM X.K T r to t):=by
 intro pins s σ H Q I h
 refine wpAny_Call_method_late hbase hfew hline rfl (thn (ho pins s σ H _ I h) fun v s1 ⟨x,H1,I1,r1,ty,q1⟩=>?_)
 obtain ⟨h1,h2⟩:=zkY I1 r1 ty
 refine ⟨T,id,pa,slot,hty,h1,h2,?_⟩
 have hA:=ha cpos pins s1 σ H1 _ I1 q1
 rw [hs] at hA ⊢
 refine Calls.callWith_builtin (by show (false || (backTo cpos (starEach es X.env)).any (·.1))=false;rw [hplain] <;> rfl) (Calls.evalArgs_plain ?_)
 exact thn hA fun us s2 ⟨vs,H2,I2,r2,q2⟩=>hm pins s2 σ H2 x vs v us Q I2 r1 r2 q2
end
end L2
namespace L2
open PySem PySem.Spec PyProof.Rows
def MtM (X:Cx) (id:String) (r:V→List V→Hp→VK→Prop):Prop :=
 ∀ (pins:List (Addr × Obj)) (s:Shared) (σ : St) (H:Hp) (x:V) (xs:List V) (v:Value) (us:List Value) (Q:VK),Inv X pins σ H s→RelV x v→Vals xs us→r x xs H Q →
  wpAny (model X.prog X.w) X.A (call (.builtin id) (v :: us)) (EP X pins σ Q) X.xe s
theorem Vals.one:∀ {x:V} {us:List Value},Vals [x] us→∃ u,us=[u]∧RelV x u
 | _,_,.cons r .nil=>⟨_,rfl,r⟩
theorem Vals.zero:∀ {us:List Value},Vals [] us→us=[]
 | _,.nil=>rfl
theorem Vals.reverse {xs:List V} {us:List Value} (h:Vals xs us):Vals xs.reverse us.reverse:=by
 induction h with
 | nil=>exact .nil
 | cons r t ih=>rw [List.reverse_cons,List.reverse_cons];exact Vals.append ih (.cons r .nil)
section
variable {X:Cx} {pins:List (Addr × Obj)} {σ : St} {H:Hp} {s:Shared} {l b:Addr} {xs ys zs:List V}
theorem Inv.lset {its its':List Value} {n:Nat} {f:Array Value→Array Value} {t':Nat} (I:Inv X pins σ H s) (hH:H l=some (.lst xs))
  (e:s.heap.get? l=some { cls:=.type "list",data:=.seq its.toArray n }) (hf:f its.toArray=its'.toArray) (hv:Vals ys its') (hz:ys.length≤sizeLine) :
  Inv X pins σ (upd H l (.lst ys)) { s with heap:=s.heap.update l (Obj.mapSeq f),toks:=t' }:=by
 have q:=PySem.IsL.update e f
 rw [hf] at q
 refine I.write (x:=l) (e:=l) (by rw [hH];exact trivial) (.inl rfl) (fun b' u hb hu=>(Heap.get?_update_other s.heap (Obj.mapSeq f) (Ne.symm hb)).trans hu) ⟨_,q⟩ ?_
 exact ⟨hz,its',_,hv,q⟩
theorem Inv.lnew {its:List Value} {t':Nat} (I:Inv X pins σ H s) (hv:Vals ys its) (hz:ys.length≤sizeLine) :
  Inv X pins σ (upd H s.heap.objs.size (.lst ys)) { s with heap:=s.heap.push { cls:=.type "list",data:=.seq its.toArray },toks:=t' } :=
 I.laid (fun _ _ q=>Heap.get?_push_of_some _ q) (Nat.le_refl _) ⟨hz,its,0,hv,Heap.get?_push_size _ rfl⟩
theorem Inv.fresh (I:Inv X pins σ H s):H s.heap.objs.size=none:=I.hok.fresh (Nat.le_refl _)
theorem Inv.lstM (I:Inv X pins σ H s) (hH:H l=some (.lst xs)):xs.length≤sizeLine∧∃ (its:List Value) (n:Nat),Vals xs its∧xs.length=its.length∧s.heap.get? l=some { cls:=.type "list",data:=.seq its.toArray n }:=by
 obtain ⟨z,its,n,r,e⟩:=I.hok l _ hH
 exact ⟨z,its,n,r,r.length,e⟩
theorem zgB {n:Nat} (h:n≤sizeLine):Builtin.List.listTooLong n=false:=by
 unfold Builtin.List.listTooLong
 exact decide_eq_false (by omega)
end
section
variable {X:Cx}
def z4M:V→List V→Hp→VK→Prop:=fun x vs H Q=>∃ l xs y,x = .ref l∧vs=[y]∧H l=some (.lst xs)∧xs.length < sizeLine∧Q .non (upd H l (.lst (xs ++ [y])))
theorem Yz:MtM X "list.append" z4M:=by
 intro pins s σ H x vs v us Q I rx rv h
 obtain ⟨l,xs,y,rfl,rfl,hH,hz,q⟩:=h
 cases rx
 obtain ⟨u,rfl,ru⟩:=rv.one
 obtain ⟨z,its,n,r,hl,e⟩:=I.lstM hH
 refine call_meets F.slot_list_append ⟨_,e,rfl⟩ F.entry_list_append (F.args_list_append_2 _ _) (PySem.list_append l its.toArray n u (by rw [List.size_toArray];omega)) ⟨e,?_⟩
 refine ⟨.non,_,I.lset (its':=its ++ [u]) hH e (by simp) (r.append (.cons ru .nil)) ?_,rfl,q⟩
 rw [List.length_append,List.length_singleton]
 omega
def z4N:V→List V→Hp→VK→Prop:=fun x vs H Q=>∃ l b xs zs,x = .ref l∧vs=[.ref b]∧H l=some (.lst xs)∧H b=some (.lst zs)∧xs.length + zs.length≤sizeLine∧Q .non (upd H l (.lst (xs ++ zs)))
theorem j5:MtM X "list.extend" z4N:=by
 intro pins s σ H x vs v us Q I rx rv h
 obtain ⟨l,b,xs,zs,rfl,rfl,hH,hB,hz,q⟩:=h
 cases rx
 obtain ⟨u,rfl,ru⟩:=rv.one
 cases ru
 obtain ⟨z,its,n,r,hl,e⟩:=I.lstM hH
 obtain ⟨z2,its2,n2,r2,hl2,e2⟩:=I.lstM hB
 have hsz:its.toArray.size + its2.toArray.size≤sizeLine:=by rw [List.size_toArray,List.size_toArray];omega
 have hlong:¬ (!its.toArray.isEmpty && Builtin.List.listTooLong (its.toArray.size + its2.toArray.size))=true:=by
  rw [zgB hsz,Bool.and_false]
  exact Bool.false_ne_true
 refine call_meets F.slot_list_extend ⟨_,e,rfl⟩ F.entry_list_extend (F.args_list_extend_2 _ _)
  (AutoSeq1.list_extend_list_list_0 l its.toArray n b its2.toArray n2 hlong (by rw [List.size_toArray];omega) (by omega)) ⟨e,e2,?_⟩
 refine ⟨.non,_,I.lset (its':=its ++ its2) hH e (by simp) (r.append r2) ?_,rfl,q⟩
 rw [List.length_append]
 omega
def z8k:R2:=fun x y H Q=>∃ l b xs zs,x = .ref l∧y = .ref b∧H l=some (.lst xs)∧H b=some (.lst zs)∧xs.length + zs.length≤sizeLine∧∀ p,H p=none→Q (.ref p) (upd H p (.lst (xs ++ zs)))
theorem z0K:OpR X (binaryOp .Add) z8k:=by
 intro pins s σ H x y v u Q I rx ry h
 obtain ⟨l,b,xs,zs,rfl,rfl,hH,hB,hz,q⟩:=h
 cases rx
 cases ry
 obtain ⟨z,its,n,r,hl,e⟩:=I.lstM hH
 obtain ⟨z2,its2,n2,r2,hl2,e2⟩:=I.lstM hB
 refine PySem.P.add_list e e2 ?_ (by rw [List.size_toArray,List.size_toArray];omega)
 have ea:its.toArray ++ its2.toArray=(its ++ its2).toArray:=by simp
 rw [ea]
 exact ⟨.ref _,_,I.lnew (t':=s.toks) (r.append r2) (by rw [List.length_append];omega),rfl,q _ I.fresh⟩
end
end L2
namespace L2
open PySem PySem.Spec PyProof.Rows
theorem Vals.ints:∀ {ns:List Int} {us:List Value},Vals (ns.map V.int) us→IntsAre us ns
 | [],us,h=>by
  rw [List.map_nil] at h
  cases h
  exact IntsAre.nil
 | n :: ns,us,h=>by
  rw [List.map_cons] at h
  cases h with
  | cons r t=>
   obtain ⟨k,rfl⟩:=r
   exact IntsAre.cons n k (Vals.ints t)
theorem zbw:∀ {us:List Value} {ns:List Int},IntsAre us ns→Vals (ns.map V.int) us
 | _,_,.nil=>by rw [List.map_nil];exact Paired.nil
 | _,_,.cons n t h=>by rw [List.map_cons];exact Paired.cons (show RelV (V.int n) (Value.int n t) from ⟨t,rfl⟩) (zbw h)
theorem Vals.strs:∀ {xs:List Str} {us:List Value},Vals (xs.map V.str) us→StrsAre us xs
 | [],us,h=>by
  rw [List.map_nil] at h
  cases h
  exact StrsAre.nil
 | x :: xs,us,h=>by
  rw [List.map_cons] at h
  cases h with
  | cons r t=>
   obtain ⟨k,rfl⟩:=r
   exact StrsAre.cons x k (Vals.strs t)
section
variable {X:Cx}
theorem z5b {n:Nat} (h:n < 64):n≤sizeLine:=by rw [sizeLine_eq];omega
end
end L2
namespace L2
open PySem PySem.Spec PyProof.Rows
abbrev z5H (h:Heap) (c:Addr) (v:Option Value):Prop:=h.IsCell c v
def zjE (scope sc:Scope):Scope :=
 { scope with names:=scope.names.map fun (n,k)=>if (k == .free && sc.kind == .function && sc.names.lookup n == some .cell) then (n,.cell) else (n,k) }
def yw (cells:List (Str × Addr)):List (Str × NameKind)→List (Str × Addr)→List (Str × Addr)
 | [],acc=>acc
 | (n,k) :: r,acc=>if k == .free then yw cells r ((n,(cells.lookup n).getD 0) :: acc) else yw cells r acc
theorem z6g (env:Env) (f:Str × NameKind→List (Str × Addr)→Sem (ForInStep (List (Str × Addr))))
  (hf:∀ n k c,f (n,k) c=if k == .free then (do let a ← cellOf env n;pure (.yield ((n,a) :: c))) else pure (.yield c)) :
  ∀ (names:List (Str × NameKind)) (acc:List (Str × Addr)),(∀ y∈names,y.2 = .free→∃ c,env.cells.lookup y.1=some c)→forIn names acc f=pure (yw env.cells names acc)
 | [],acc,_=>by rw [List.forIn_nil];rfl
 | (n,k) :: r,acc,h=>by
  rw [List.forIn_cons,hf]
  have ih:=fun acc=>z6g env f hf r acc fun y hy=>h y (List.mem_cons_of_mem _ hy)
  unfold yw
  by_cases hk:(k == NameKind.free)=true
  ·rw [if_pos hk,if_pos hk]
   obtain ⟨c,hc⟩:=h (n,k) List.mem_cons_self (by simpa using hk)
   have e:cellOf env n=pure c:=by unfold cellOf;rw [hc]
   rw [e]
   have e2:(env.cells.lookup n).getD 0=c:=by rw [hc];rfl
   rw [e2]
   exact ih _
  ·rw [if_neg hk,if_neg hk]
   exact ih _
theorem zcD {scope:Scope} {env:Env} (h:∀ y∈scope.names,y.2 = .free→∃ c,env.cells.lookup y.1=some c):closureFor scope env=pure (yw env.cells scope.names []):=by
 simp only [closureFor]
 rw [z6g env _ (fun n k c=>rfl) scope.names [] h]
 rfl
theorem z4f {α : Type}:∀ {l:List (Str × α)} {n:Str} {c : α},(n,c)∈l→∃ c',l.lookup n=some c'
 | (k,v) :: r,n,c,h=>by
  rw [List.lookup_cons]
  cases hb:n == k with
  | true=>exact ⟨_,rfl⟩
  | false=>
   rcases List.mem_cons.mp h with e | h
   ·cases e;simp at hb
   ·exact z4f h
theorem z18 {cells:List (Str × Addr)}:∀ {names:List (Str × NameKind)} {acc:List (Str × Addr)} {n:Str} {c:Addr},(n,c)∈yw cells names acc→(n,c)∈acc∨((n,.free)∈names∧c=(cells.lookup n).getD 0)
 | [],_,_,_,h=>.inl h
 | (m,k) :: r,acc,n,c,h=>by
  unfold yw at h
  split at h
  ·rename_i hk
   have hk:k = .free:=by simpa using hk
   rcases z18 h with h | ⟨h1,h2⟩
   ·rcases List.mem_cons.mp h with e | h
    ·cases e;exact .inr ⟨hk ▸ List.mem_cons_self,rfl⟩
    ·exact .inl h
   ·exact .inr ⟨List.mem_cons_of_mem _ h1,h2⟩
  ·rcases z18 h with h | ⟨h1,h2⟩
   ·exact .inl h
   ·exact .inr ⟨List.mem_cons_of_mem _ h1,h2⟩
theorem z3s {cells:List (Str × Addr)}:∀ {names:List (Str × NameKind)} {acc:List (Str × Addr)} {p:Str × Addr},p∈acc→p∈yw cells names acc
 | [],_,_,h=>h
 | (m,k) :: r,acc,p,h=>by
  unfold yw
  split
  ·exact z3s (List.mem_cons_of_mem _ h)
  ·exact z3s h
theorem z3t {cells:List (Str × Addr)}:∀ {names:List (Str × NameKind)} {acc:List (Str × Addr)} {n:Str},(n,.free)∈names→(n,(cells.lookup n).getD 0)∈yw cells names acc
 | (m,k) :: r,acc,n,h=>by
  unfold yw
  rcases List.mem_cons.mp h with e | h
  ·cases e
   exact z3s List.mem_cons_self
  ·split
   ·exact z3t h
   ·exact z3t h
theorem z0m:∀ {names:List (Str × NameKind)} {h:Heap} {acc:List (Str × Addr)} {x:Str} {c:Addr},(x,c)∈cellsFrom h.objs.size names acc →
  (x,c)∈acc∨((x,.cell)∈names∧h.objs.size≤c∧z5H (pushCells h names) c none)
 | [],_,_,_,_,h=>.inl h
 | (n,k) :: r,h,acc,x,c,hm=>by
  unfold cellsFrom at hm
  unfold pushCells
  split at hm
  ·rename_i hk
   rw [if_pos hk]
   have hk:k = .cell:=by simpa using hk
   rw [← Heap.size_push h { cls:=.type "cell",data:=.cell none }] at hm
   rcases z0m hm with hm | ⟨h1,h2,h3⟩
   ·rcases List.mem_cons.mp hm with e | hm
    ·cases e
     exact .inr ⟨hk ▸ List.mem_cons_self,Nat.le_refl _,_,pushCells_keeps r _ _ _ (Heap.get?_push_size _ rfl),rfl⟩
    ·exact .inl hm
   ·rw [Heap.size_push] at h2
    exact .inr ⟨List.mem_cons_of_mem _ h1,Nat.le_of_succ_le h2,h3⟩
  ·rename_i hk
   rw [if_neg hk]
   rcases z0m hm with hm | ⟨h1,h2,h3⟩
   ·exact .inl hm
   ·exact .inr ⟨List.mem_cons_of_mem _ h1,h2,h3⟩
theorem z17:∀ {names:List (Str × NameKind)} {n:Nat} {acc:List (Str × Addr)} {p:Str × Addr},p∈acc→p∈cellsFrom n names acc
 | [],_,_,_,h=>h
 | (m,k) :: r,n,acc,p,h=>by
  unfold cellsFrom
  split
  ·exact z17 (List.mem_cons_of_mem _ h)
  ·exact z17 h
theorem z3q:∀ {names:List (Str × NameKind)} {n:Nat} {acc:List (Str × Addr)} {x:Str},(x,.cell)∈names→∃ c,(x,c)∈cellsFrom n names acc
 | (m,k) :: r,n,acc,x,h=>by
  unfold cellsFrom
  rcases List.mem_cons.mp h with e | h
  ·cases e
   exact ⟨n,z17 List.mem_cons_self⟩
  ·split
   ·exact z3q h
   ·exact z3q h
theorem z3r:∀ {names:List (Str × NameKind)} {h:Heap} {acc:List (Str × Addr)} {x y:Str} {c:Addr},(∀ p∈acc,p.2 < h.objs.size)→(∀ x y c,(x,c)∈acc→(y,c)∈acc→x=y) →
  (x,c)∈cellsFrom h.objs.size names acc→(y,c)∈cellsFrom h.objs.size names acc→x=y
 | [],_,_,_,_,_,_,hi,h1,h2=>hi _ _ _ h1 h2
 | (n,k) :: r,h,acc,x,y,c,hl,hi,h1,h2=>by
  unfold cellsFrom at h1 h2
  split at h1
  ·rename_i hk
   rw [if_pos hk] at h2
   rw [← Heap.size_push h { cls:=.type "cell",data:=.cell none }] at h1 h2
   refine z3r (h:=h.push _) (fun p hp=>?_) (fun x y c a b=>?_) h1 h2
   ·rw [Heap.size_push]
    rcases List.mem_cons.mp hp with rfl | hp
    ·exact Nat.lt_succ_self _
    ·exact Nat.lt_succ_of_lt (hl p hp)
   ·rcases List.mem_cons.mp a with e | a <;> rcases List.mem_cons.mp b with e' | b
    ·cases e;cases e';rfl
    ·cases e;exact absurd (hl _ b) (Nat.lt_irrefl _)
    ·cases e';exact absurd (hl _ a) (Nat.lt_irrefl _)
    ·exact hi _ _ _ a b
  ·rename_i hk
   rw [if_neg hk] at h2
   exact z3r hl hi h1 h2
theorem zgk {M:Model} {A:Around} {E:Value→Shared→Prop} {s:Shared} {scope:Scope} {globals:Addr} {closure:List (Str × Addr)} {qual:Str} {func:Option Addr} {code:Value} {around:Env} {builtins:Addr} {Q:Env→Shared→Prop}
  (h:Q (newEnv scope s.heap.objs.size globals (cellsFrom (s.heap.objs.size + 1) scope.names closure) qual func code (some around) builtins)
   { s with heap:=pushCells (s.heap.push { cls:=.type "dict",data:=.dict #[] }) scope.names }) :
  wpAny M A (newFunctionEnv scope globals closure [] qual func code (some around) builtins) Q E s:=by
 simp only [newFunctionEnv,Option.isSome_some,if_true]
 refine wpAny_bind (wpAny_alloc ?_)
 refine wpAny_bind (wpAny_layCells _ (fun n k c=>rfl) scope.names closure _ _ ?_)
 rw [show ({ s with heap:=s.heap.push { cls:=.type "dict",data:=.dict #[] } }:Shared).heap.objs.size=s.heap.objs.size + 1 from Heap.size_push ..]
 rw [List.forIn_nil]
 exact wpAny_bind (wpAny_pure (wpAny_pure h))
theorem z47 {sc:Scope}:∀ {names:List (Str × NameKind)} {x:Str} {k:NameKind},
  (names.map fun (n,k)=>if (k == NameKind.free && sc.kind == .function && sc.names.lookup n == some .cell) then (n,NameKind.cell) else (n,k)).lookup x=some k →
  ∃ k',names.lookup x=some k'∧(k=k'∨(k' = .free∧k = .cell))
 | [],_,_,h=>by simp at h
 | (n,k₀) :: r,x,k,h=>by
  have ih:=@z47 sc r x k
  have h':List.lookup x ((if (k₀ == NameKind.free && sc.kind == .function && sc.names.lookup n == some .cell)=true then (n,NameKind.cell) else (n,k₀)) :: (r.map _))=some k:=h
  cases hx:x == n with
  | true=>
   simp only [List.lookup_cons,hx]
   by_cases hc:(k₀ == NameKind.free && sc.kind == .function && sc.names.lookup n == some .cell)=true
   ·rw [if_pos hc] at h'
    simp only [List.lookup_cons,hx] at h'
    cases h'
    simp only [Bool.and_eq_true,beq_iff_eq] at hc
    exact ⟨k₀,rfl,.inr ⟨hc.1.1,rfl⟩⟩
   ·rw [if_neg hc] at h'
    simp only [List.lookup_cons,hx] at h'
    cases h'
    exact ⟨_,rfl,.inl rfl⟩
  | false=>
   simp only [List.lookup_cons,hx]
   by_cases hc:(k₀ == NameKind.free && sc.kind == .function && sc.names.lookup n == some .cell)=true
   ·rw [if_pos hc] at h'
    simp only [List.lookup_cons,hx] at h'
    exact ih h'
   ·rw [if_neg hc] at h'
    simp only [List.lookup_cons,hx] at h'
    exact ih h'
structure BlkOk (N:List Str) (sc scope:Scope) (own:List (Str × Nat)):Prop where
 kind:scope.kind = .function
 uniq:∀ y∈scope.names,scope.names.lookup y.1=some y.2
 ix:∀ p∈own,N[p.2]?=some p.1
 free:∀ y∈scope.names,y.2 = .free→sc.names.lookup y.1=some .cell∨sc.names.lookup y.1=some .free
 own:∀ y∈scope.names,y.2 = .local∨y.2 = .cell→y.1∈own.map (·.1)∨y.1 ∉ N
def y8 (σ : St):List Nat→St
 | []=>σ
 | v :: vs=>(y8 σ vs).set v none
theorem z5D (σ : St):∀ vs:List Nat,(y8 σ vs).length = σ.length
 | []=>rfl
 | v :: vs=>by unfold y8;rw [List.length_set,z5D σ vs]
theorem z5E {σ : St} {i:Nat} {x:V}:∀ {vs:List Nat},(y8 σ vs)[i]?=some (some x)→σ[i]?=some (some x)∧i ∉ vs
 | [],h=>⟨h,by simp⟩
 | v :: vs,h=>by
  unfold y8 at h
  by_cases hi:v=i
  ·subst hi
   by_cases hv:v < (y8 σ vs).length
   ·rw [List.getElem?_set_self hv] at h;cases h
   ·rw [List.getElem?_eq_none (by simpa using hv)] at h;cases h
  ·rw [List.getElem?_set_ne hi] at h
   obtain ⟨h1,h2⟩:=z5E h
   exact ⟨h1,by simp only [List.mem_cons,not_or];exact ⟨fun e=>hi e.symm,h2⟩⟩
abbrev Cx.blk (X:Cx) (s:Shared) (H:Hp) (scope:Scope) (cenv:Env) (fp:List Addr):Cx:={ X with s_0:=s,H_0:=H,env:=cenv,outer:=X.stack,ex:=fp,fn:=fun x=>scope.names.lookup x == some .cell,pn:=[],xe:=fun _ _=>False }
section
variable {X:Cx} {pins:List (Addr × Obj)} {σ : St} {H:Hp} {s:Shared}
theorem zcm {scope:Scope} {own:List (Str × Nat)} {fp:List Addr} (I:Inv X pins σ H s) (ok:BlkOk X.N X.env.scope scope own) (hN:X.N.Nodup) (hfp:∀ b∈fp,Zw X pins H b∧b < s.heap.objs.size) :
  Inv (X.blk s H scope (compEnvC scope (cellsFrom (s.heap.objs.size + 1) scope.names (yw X.env.cells scope.names [])) s.heap.objs.size X.env) fp) [] (y8 σ (own.map (·.2))) H { s with heap:=pushCells (s.heap.push { cls:=.type "dict",data:=.dict #[] }) scope.names }:=by
 have hfree:∀ y∈scope.names,y.2 = .free→∃ c,X.env.cells.lookup y.1=some c:=fun y hy e=>by
  rcases ok.free y hy e with k | k
  ·exact I.ok.has _ (.inl k)
  ·exact I.ok.has _ (.inr k)
 generalize hcenv:compEnvC scope (cellsFrom (s.heap.objs.size + 1) scope.names (yw X.env.cells scope.names [])) s.heap.objs.size X.env=cenv
 have kp:∀ b o,s.heap.get? b=some o→(pushCells (s.heap.push { cls:=.type "dict",data:=.dict #[] }) scope.names).get? b=some o:=fun b o e=>pushCells_keeps _ _ _ _ (Heap.get?_push_of_some _ e)
 have hL:cenv.locals=s.heap.objs.size:=by rw [← hcenv];rfl
 have hcl:cenv.cells=cellsFrom (s.heap.objs.size + 1) scope.names (yw X.env.cells scope.names []):=by rw [← hcenv];rfl
 have hsc:cenv.scope=zjE scope X.env.scope:=by rw [← hcenv];rfl
 rw [← Heap.size_push s.heap { cls:=.type "dict",data:=.dict #[] }] at hcl
 have cm:∀ {y c},(y,c)∈yw X.env.cells scope.names []→X.env.cells.lookup y=some c∧c < s.heap.objs.size:=fun {y c} hm=>by
  rcases z18 hm with hm | ⟨h1,rfl⟩
  ·cases hm
  ·obtain ⟨c,hc⟩:=hfree _ h1 rfl
   rw [hc]
   obtain ⟨w,z⟩:=I.cell _ _ hc
   exact ⟨rfl,z.lt⟩
 have mem:∀ {y c},cenv.cells.lookup y=some c→(X.env.cells.lookup y=some c∧c < s.heap.objs.size)∨(s.heap.objs.size + 1≤c∧z5H (pushCells (s.heap.push { cls:=.type "dict",data:=.dict #[] }) scope.names) c none):=fun {y c} e=>by
  rw [hcl] at e
  rcases z0m (PySem.mem_of_lookup e) with hm | ⟨_,h2,h3⟩
  ·exact .inl (cm hm)
  ·rw [Heap.size_push] at h2;exact .inr ⟨h2,h3⟩
 have look:∀ {y},scope.names.lookup y=some .free→∃ c,cenv.cells.lookup y=some c∧X.env.cells.lookup y=some c:=fun {y} hl=>by
  have hy:(y,NameKind.free)∈scope.names:=PySem.mem_of_lookup hl
  obtain ⟨c',e'⟩:=z4f (z17 (names:=scope.names) (n:=(s.heap.push { cls:=.type "dict",data:=.dict #[] }).objs.size) (z3t (cells:=X.env.cells) (acc:=[]) hy))
  rw [← hcl] at e'
  refine ⟨c',e',?_⟩
  rw [hcl] at e'
  rcases z0m (PySem.mem_of_lookup e') with hm | ⟨h1,_,_⟩
  ·exact (cm hm).1
  ·have:=ok.uniq _ h1
   rw [hl] at this;cases this
 have okB:(X.blk s H scope cenv fp).Ok:=by
  refine ⟨I.ok.mod,by show cenv.scope.kind=_;rw [hsc];exact ok.kind,by show cenv.globals=_;rw [← hcenv];exact I.ok.glob,by show cenv.builtins=_;rw [← hcenv];exact I.ok.blt,by show s.heap.objs.size≤cenv.locals;rw [hL];exact Nat.le_refl _,
   fun y z c e1 e2=>?_,fun y hy=>?_,fun y c z e=>?_,I.ok.hd,I.ok.frames,.inl rfl,fun b hb=>⟨?_,fun y c e z=>?_⟩,I.bs,Nat.le_trans I.ok.bsz I.sz,fun b o e hb=>?_,fun b hb z=>?_,I.stack,I.stkFree⟩
  ·have e1:cenv.cells.lookup y=some c:=e1
   have e2:cenv.cells.lookup z=some c:=e2
   rw [hcl] at e1 e2
   refine z3r (fun p hp=>?_) (fun y z c a b=>I.ok.inj y z c (cm a).1 (cm b).1) (PySem.mem_of_lookup e1) (PySem.mem_of_lookup e2)
   rw [Heap.size_push]
   exact Nat.lt_succ_of_lt (cm (y:=p.1) (c:=p.2) hp).2
  ·show ∃ c,cenv.cells.lookup y=some c
   have key:∀ k,cenv.kindOf y=some k→(k = .cell∨k = .free)→∃ c,cenv.cells.lookup y=some c:=fun k hk hk'=>by
    unfold Env.kindOf at hk
    rw [hsc] at hk
    obtain ⟨k',e,r⟩:=z47 hk
    have:k' = .cell∨k' = .free:=by
     rcases r with rfl | ⟨rfl,_⟩
     ·exact hk'
     ·exact .inr rfl
    rcases this with rfl | rfl
    ·obtain ⟨c,hm⟩:=z3q (n:=(s.heap.push { cls:=.type "dict",data:=.dict #[] }).objs.size) (acc:=yw X.env.cells scope.names []) (PySem.mem_of_lookup e)
     obtain ⟨c',e'⟩:=z4f hm
     exact ⟨c',by rw [hcl];exact e'⟩
    ·obtain ⟨c,h1,_⟩:=look e
     exact ⟨c,h1⟩
   rcases hy with hy | hy
   ·exact key _ hy (.inl rfl)
   ·exact key _ hy (.inr rfl)
  ·have z:(scope.names.lookup y == some NameKind.cell)=true:=z
   have z:scope.names.lookup y=some .cell:=by simpa using z
   have e:cenv.cells.lookup y=some c:=e
   rw [hcl] at e
   rcases z0m (PySem.mem_of_lookup e) with hm | ⟨_,h2,_⟩
   ·rcases z18 hm with hm | ⟨h1,_⟩
    ·cases hm
    ·have q:=ok.uniq _ h1
     rw [z] at q;cases q
   ·rw [Heap.size_push] at h2
    exact Nat.le_of_succ_le h2
  ·show b≠cenv.locals
   rw [hL];exact Nat.ne_of_lt (hfp b hb).2
  ·have e:cenv.cells.lookup y=some c:=e
   rcases mem e with ⟨h1,_⟩ | ⟨h1,_⟩
   ·exact (hfp b hb).1.2.2.2.2.1 y c h1 z
   ·have h2:s.heap.objs.size + 1≤b:=by rw [← z];exact h1
    exact absurd (Nat.lt_of_lt_of_le (hfp b hb).2 (Nat.le_of_succ_le h2)) (Nat.lt_irrefl _)
  ·rcases (hfp b hb).1.2.2.2.1 with z | z
   ·exact I.ok.noex b o e z
   ·exact absurd (Nat.lt_of_lt_of_le (Heap.lt_size e) (Nat.le_trans I.ok.bsz z)) (Nat.lt_irrefl _)
  ·rcases List.mem_cons.mp (I.stkSub b z) with z | z
   ·exact (hfp b hb).1.2.1 z
   ·exact (hfp b hb).1.2.2.1 z
 refine ⟨okB,rfl,I.bare,Un.kept kp,⟨fun _=>none,?_,fun i y av e1 e2 e3=>?_⟩,fun y c e=>?_,?_,fun y c e=>?_,fun p hp=>?_,I.hok.kept kp,by rw [z5D];exact I.len⟩
 ·show Heap.Ns _ cenv.locals _
  rw [hL]
  exact Heap.Ns.keeps (Heap.Ns.new ..) fun b o e=>pushCells_keeps _ _ _ _ e
 ·obtain ⟨e2,hne⟩:=z5E e2
  have hfr:scope.names.lookup y=some .free∧(cenv.kindOf y=some .cell∨cenv.kindOf y=some .free):=by
   have key:∀ k,cenv.scope.names.lookup y=some k→k = .local∨k = .cell∨k = .free→scope.names.lookup y=some .free∧(cenv.kindOf y=some .cell∨cenv.kindOf y=some .free):=fun k hk hk'=>by
    have hk0:=hk
    rw [hsc] at hk
    obtain ⟨k',e,r⟩:=z47 hk
    have no:¬ (k' = .local∨k' = .cell):=fun hh=>by
     rcases ok.own _ (PySem.mem_of_lookup e) hh with e' | e'
     ·obtain ⟨p,hp,hpy⟩:=List.mem_map.mp e'
      have e3:=ok.ix p hp
      have:p.1=y:=hpy
      rw [this] at e3
      exact hne (List.mem_map.mpr ⟨p,hp,z4y hN e3 e1⟩)
     ·exact e' (List.mem_of_getElem? e1)
    rcases r with rfl | ⟨rfl,rfl⟩
    ·rcases hk' with rfl | rfl | rfl
     ·exact absurd (.inl rfl) no
     ·exact absurd (.inr rfl) no
     ·exact ⟨e,.inr hk0⟩
    ·exact ⟨e,.inl hk0⟩
   have e3:Vis cenv.scope y:=e3
   rcases e3 with e3 | e3 | e3
   ·exact key _ e3 (.inl rfl)
   ·exact key _ e3 (.inr (.inl rfl))
   ·exact key _ e3 (.inr (.inr rfl))
  obtain ⟨m,hn,hl⟩:=I.loc
  have hvis:Vis X.env.scope y:=(ok.free _ (PySem.mem_of_lookup hfr.1) rfl).elim (fun k=>.inr (.inl k)) (fun k=>.inr (.inr k))
  obtain ⟨w,r,q⟩:=hl i y av e1 e2 hvis
  refine ⟨w,r,.inr ⟨hfr.2,?_⟩⟩
  obtain ⟨c,h1,h2⟩:=look hfr.1
  rcases q with ⟨k,_⟩ | ⟨_,c',e',z⟩
  ·have k:X.env.scope.names.lookup y=some .local:=k
   rcases ok.free _ (PySem.mem_of_lookup hfr.1) rfl with k' | k' <;> rw [show X.env.scope.names.lookup y=_ from k'] at k <;> cases k
  ·rw [h2] at e';cases e'
   exact ⟨c,h1,z.keeps kp⟩
 ·have e:cenv.cells.lookup y=some c:=e
  rcases mem e with ⟨h1,_⟩ | ⟨_,z⟩
  ·obtain ⟨w,z⟩:=I.cell y c h1
   exact ⟨w,z.keeps kp⟩
  ·exact ⟨_,z⟩
 ·show H cenv.locals=none
  rw [hL];exact I.hok.fresh (Nat.le_refl _)
 ·have e:cenv.cells.lookup y=some c:=e
  rcases mem e with ⟨h1,_⟩ | ⟨h1,_⟩
  ·exact I.freeC y c h1
  ·exact I.hok.fresh (Nat.le_of_succ_le h1)
 ·exact absurd (show p∈([]:List (Addr × Obj)) ++ [] from hp) (by simp)
theorem zc6 {E:Value→Shared→Prop} {D:Addr} {xs:List V} {y:V} {v:Value} {Q:Value→Shared→Prop} (I:Inv X pins σ H s) (hD:H D=some (.lst xs)) (hz:xs.length < sizeLine) (r:RelV y v)
  (h:∀ s',Inv X pins σ (upd H D (.lst (xs ++ [y]))) s'→Q .none s'):wpAny (model X.prog X.w) X.A (call (.builtin "list.append") [.ref D,v]) Q E s:=by
 obtain ⟨hz',its,n,ri,e⟩:=I.hok D _ hD
 have hl:=ri.length
 refine append_at (hsz:=by rw [List.size_toArray];omega) e fun h' sb ho'=>?_
 refine h { s with heap:=h' } (I.write (t':=s.toks) (by rw [hD];trivial) (.inl rfl) (fun b u hb q=>(sb.2 b hb).trans q) ⟨_,ho'⟩ ⟨by rw [List.length_append];exact hz,its ++ [v],n + 1,ri.append (.cons r .nil),?_⟩)
 rw [ho']
 simp
def PTs (X:Cx) (ifs:List Expr) (t:TT):Prop :=
 ∀ (pins:List (Addr × Obj)) (s:Shared) (σ : St) (H:Hp) (Q:Bool→Hp→Prop),Inv X pins σ H s→t σ H Q →
  wpAny (model X.prog X.w) X.A (forIn ifs true fun c r=>if r=true then do let ok ← isTrue c X.env (eval c X.env);pure (ForInStep.yield ok) else pure (ForInStep.yield r)) (TP X pins σ Q) X.xe s
def z5v:TT:=fun _ H Q=>Q true H
theorem z8c:PTs X [] z5v:=fun _ _ _ H _ I h=>wpAny_tests_nil ⟨H,I,h⟩
end
theorem z0f {α : Type} {t:Sem α} {Q Q' : α→Shared→Prop} {M:Model} {A:Around} {E:Value→Shared→Prop} {s:Shared} (h:wpAny M A t Q (fun _ _=>False) s) (hQ:∀ a s,Q a s→Q' a s):wpAny M A t Q' E s:=wpAny_mono h hQ fun _ _ z=>False.elim z
theorem zcE {prog:Program} {w:World} {A:Around} {R:Result→Shared→Prop} {s:Shared} {elt target iter:Expr} {ifs:List Expr} {scope:Scope} {pos:Pos} {it acc:Value} {env:Env} (I:Nat→Shared→Prop)
  (turn:∀ n s,I n s→wpAny (model prog w) A (pyNext it) (fun r s₁=>match r with
   | none=>R (.ok .next) s₁
   | some v=>wpAny (model prog w) A (letOwnedTupleGo target it v) (fun _ s₁'=>wpAny (model prog w) A (assign target env v) (fun _ s₂=>
     wpAny (model prog w) A (forIn ifs true fun c r=>if r=true then do let ok ← isTrue c env (eval c env);pure (ForInStep.yield ok) else pure (ForInStep.yield r)) (fun ok s₃=>
      if ok=true then wpAny (model prog w) A (eval elt env) (fun x s₄=>
       wpAny (model prog w) A (call (.builtin "list.append") [acc,x]) (fun _ s₅=>∃ m,m < n∧I m s₅) (notedBy (model prog w) A env fun e s'=>R (.error e) s') s₄) (notedBy (model prog w) A env fun e s'=>R (.error e) s') s₃
      else ∃ m,m < n∧I m s₃) (notedBy (model prog w) A env fun e s'=>R (.error e) s') s₂) (notedBy (model prog w) A env fun e s'=>R (.error e) s') s₁') (notedBy (model prog w) A env fun e s'=>R (.error e) s') s₁) (notedBy (model prog w) A env fun e s'=>R (.error e) s') s)
  (n:Nat) (h:I n s) :
  codeAny (model prog w) A (.compLoop (.ListComp elt [⟨target,iter,ifs,0⟩] scope pos) 0 it acc env) R s:=by
 refine codeAny_loop rfl I (fun n s hI=>?_) n h
 show wpAny _ A ((compTurn (.ListComp elt [⟨target,iter,ifs,0⟩] scope pos) 0 it acc env).onRaise (fun x=>do noteFrame x env;theTreesLotGoes x)) _ _ s
 refine wpAny_noted ?_
 rw [compTurn_list]
 refine wpAny_bind (wpAny_standAt (wpAny_bind (wpAny_mono (turn n s hI) (fun r s₁ h₁=>?_) fun _ _ h'=>h')))
 cases r with
 | none=>exact wpAny_pure h₁
 | some v=>
  refine wpAny_bind (wpAny_mono h₁ (fun _ s₁' h₁'=>?_) fun _ _ h'=>h')
  refine wpAny_bind (wpAny_mono h₁' (fun _ s₂ h₂=>wpAny_bind (wpAny_mono h₂ (fun ok s₃ h₃=>?_) fun _ _ h'=>h')) fun _ _ h'=>h')
  cases ok with
  | false=>exact wpAny_pure ⟨rfl,h₃⟩
  | true=>
   exact wpAny_bind (wpAny_bind (wpAny_mono h₃ (fun x s₄ h₄=>wpAny_bind (wpAny_mono h₄ (fun _ s₅ h₅=>wpAny_pure (wpAny_pure ⟨rfl,h₅⟩)) fun _ _ h'=>h')) fun _ _ h'=>h'))
section
variable {X:Cx}
def tLc (wi:TI) (g:TG) (tt:TT) (te:TE) (vs:List Nat):TE:=fun σ H Q=>wi σ H fun J H1=>∀ D,H1 D=none→∃ W:Nat→Nat→Hp→Prop,(∃ m,W 0 m (upd H1 D (.lst [])))∧∀ i m H,W i m H →
 (J.stop i H∧Q (.ref D) H)∨(J.go i H∧∃ Nx:Hp→Prop,(∀ H',Nx H'→∃ m',m' < m∧W (i + 1) m' H')∧∀ x H',J.yld i H x H'→g x (y8 σ vs) H' fun σ2 H2=>y8 σ2 vs=y8 σ vs∧tt σ2 H2 fun b H3=>
  if b=true then te σ2 H3 fun y H4=>∃ acc,H4 D=some (.lst acc)∧acc.length < sizeLine∧Nx (upd H4 D (.lst (acc ++ [y]))) else Nx H3)
theorem z7b {pins:List (Addr × Obj)} {s:Shared} {σ : St} {H:Hp} {Q:VK} {elt tg iter:Expr} {ifs:List Expr} {scope:Scope} {own:List (Str × Nat)} {pos pos':Pos} {wi:TI} {g:TG} {tt:TT} {te:TE} {use:Option (Value→Sem Unit)} {Qf:Value→Shared→Prop}
  (hc:X.calm=true) (hN:X.N.Nodup) (I:Inv X pins σ H s) (hi:PI X tg iter wi) (ok:BlkOk X.N X.env.scope scope own)
  (hg:∀ (s:Shared) (H:Hp) (C:Addr) (cl:List (Str × Addr)) (fp:List Addr),PG (X.blk s H scope (compEnvC scope cl C X.env) fp) tg g) (ht:∀ (s:Shared) (H:Hp) (C:Addr) (cl:List (Str × Addr)) (fp:List Addr),PTs (X.blk s H scope (compEnvC scope cl C X.env) fp) ifs tt)
  (he:∀ (s:Shared) (H:Hp) (C:Addr) (cl:List (Str × Addr)) (fp:List Addr),PE (X.blk s H scope (compEnvC scope cl C X.env) fp) elt te) (hs:∀ x,foldedSetIterable iter X.env x=pure x)
  (h:tLc wi g tt te (own.map (·.2)) σ H Q)
  (hRR:∀ D C s' m H',Inv X pins σ H' s'→Q (.ref D) H'→s'.heap.Ns C m→Zw X pins H' C→compPost (model X.prog X.w) X.A X.xe use Qf (.ref D) C (.ok .next) s') :
  wpAny (model X.prog X.w) X.A (comprehension (.ListComp elt [⟨tg,iter,ifs,0⟩] scope pos) scope X.env pos' (newList []) false (eval iter X.env) use) Qf X.xe s:=by
 have hfree:∀ y∈scope.names,y.2 = .free→∃ c,X.env.cells.lookup y.1=some c:=fun y hy e=>by
  rcases ok.free y hy e with k | k
  ·exact I.ok.has _ (.inl k)
  ·exact I.ok.has _ (.inr k)
 refine wpAny_comprehension_free (use:=use) rfl hs (zcD hfree) ok.kind (fun y hy e=>by rw [ok.uniq y hy,e])
  (thn (hi pins s σ H _ I h) fun xv s1 hx=>thn hx fun itv s2 h2=>?_)
 obtain ⟨it,fp,tn,J,H2,e,I2,T,st2,f2,q⟩:=h2
 subst e
 refine wpAny_newObj_type (zgk ?_) (by show 0≤sizeLine;decide)
 generalize hD:s2.heap.objs.size=D
 have hDn:H2 D=none:=I2.hok.fresh (Nat.le_of_eq hD)
 obtain ⟨W,⟨m0,w0⟩,turn⟩:=q D hDn
 generalize hs3:({ s2 with heap:=s2.heap.push { cls:=.type "list",data:=.seq ([]:List Value).toArray } }:Shared)=s3
 have I3:Inv X pins σ (upd H2 D (.lst [])) s3:=by
  rw [← hs3]
  refine I2.laid (t':=s2.toks) (fun b o e=>Heap.get?_push_of_some _ e) (Nat.le_of_eq hD) ⟨Nat.zero_le _,[],0,.nil,?_⟩
  rw [← hD]
  exact Heap.get?_push_size _ rfl
 have h3:s3.heap=s2.heap.push { cls:=.type "list",data:=.seq ([]:List Value).toArray }:=by rw [← hs3]
 have sz:∀ b∈fp,b < s2.heap.objs.size:=fun b hb=>by
  obtain ⟨o,e,_⟩:=T.obj _ _ st2 b hb
  exact Heap.lt_size e
 have f3:∀ b∈fp,Zw X pins (upd H2 D (.lst [])) b∧b < s3.heap.objs.size:=fun b hb=>by
  have hlt:=sz b hb
  refine ⟨⟨?_,(f2 b hb).2⟩,by rw [h3,Heap.size_push];exact Nat.lt_succ_of_lt hlt⟩
  rw [z6 (by rw [← hD];exact Nat.ne_of_lt hlt)]
  exact (f2 b hb).1
 have st3:tn 0 s3.heap:=T.keep _ _ _ st2 fun b _ o e=>by rw [h3];exact Heap.get?_push_of_some _ e
 have I4:=zcm I3 ok hN f3
 have pg:=hg s3 (upd H2 D (.lst [])) s3.heap.objs.size (cellsFrom (s3.heap.objs.size + 1) scope.names (yw X.env.cells scope.names [])) fp
 have pt:=ht s3 (upd H2 D (.lst [])) s3.heap.objs.size (cellsFrom (s3.heap.objs.size + 1) scope.names (yw X.env.cells scope.names [])) fp
 have pe:=he s3 (upd H2 D (.lst [])) s3.heap.objs.size (cellsFrom (s3.heap.objs.size + 1) scope.names (yw X.env.cells scope.names [])) fp
 show codeAny _ _ (.compStart (.ListComp elt [⟨tg,iter,ifs,0⟩] scope pos) 0 (.ref it) (.ref D) (compEnvC scope (cellsFrom (s3.heap.objs.size + 1) scope.names (yw X.env.cells scope.names [])) s3.heap.objs.size X.env)) (compPost (model X.prog X.w) X.A X.xe use Qf (.ref D) s3.heap.objs.size) { s3 with heap:=pushCells (s3.heap.push { cls:=.type "dict",data:=.dict #[] }) scope.names }
 have nfp:∀ b∈fp,(upd H2 D (.lst [])) b=none:=fun b hb=>(f3 b hb).1.1
 generalize hce:compEnvC scope (cellsFrom (s3.heap.objs.size + 1) scope.names (yw X.env.cells scope.names [])) s3.heap.objs.size X.env=ce at I4 pg pt pe ⊢
 have cL:ce.locals=s3.heap.objs.size:=by subst hce;rfl
 generalize hH3:upd H2 D (.lst [])=H3 at I3 I4 pg pt pe w0 nfp f3
 generalize hs4:({ s3 with heap:=pushCells (s3.heap.push { cls:=.type "dict",data:=.dict #[] }) scope.names }:Shared)=s4 at I4 ⊢
 have st4:tn 0 s4.heap:=T.keep _ _ _ st3 fun b _ o e=>by rw [← hs4];exact pushCells_keeps _ _ _ _ (Heap.get?_push_of_some _ e)
 have stat:∀ {σ':St} {H':Hp} {s':Shared},Inv (X.blk s3 H3 scope ce fp) [] σ' H' s'→(∀ b∈fp,H' b=none)→∀ b∈fp,Zw (X.blk s3 H3 scope ce fp) [] H' b:=fun {σ' H' s'} I' hn b hb=>
  ⟨hn b hb,(I'.ok.exf b hb).1,I'.ok.exfs b hb,.inl hb,fun x c e=>(I'.ok.exf b hb).2 x c e,fun p hp=>absurd (show p∈([]:List (Addr × Obj)) ++ [] from hp) (by simp)⟩
 have loop:codeAny (model X.prog X.w) X.A (.compLoop (.ListComp elt [⟨tg,iter,ifs,0⟩] scope pos) 0 (.ref it) (.ref D) ce) (compPost (model X.prog X.w) X.A X.xe use Qf (.ref D) s3.heap.objs.size) s4:=by
  refine zcE (fun n s'=>∃ i H',Inv (X.blk s3 H3 scope ce fp) [] (y8 σ (own.map (·.2))) H' s'∧tn i s'.heap∧(∀ b∈fp,H' b=none)∧W i n H') ?_ m0 ⟨0,H3,I4,st4,nfp,w0⟩
  rintro n s5 ⟨i,H5,I5,st5,n5,w5⟩
  rcases turn i n H5 w5 with ⟨stop,qq⟩ | ⟨go,Nx,hNx,step⟩
  ·have td:=T.done (X.blk s3 H3 scope ce fp) rfl rfl rfl hc i [] s5 _ H5 (fun _ _=>False) I5 (stat I5 n5) st5 stop
   refine z0f td fun r s6 ⟨hr,I6⟩=>?_
   subst hr
   have I7:Inv X pins σ H5 s6:=I3.call' (ch:=fp) I6.os I6.base I6.hok I6.bare fun b hb=>⟨(f3 b hb).1.2.2.2.1,(f3 b hb).1.2.1,(f3 b hb).1.2.2.2.2.1,(f3 b hb).1.2.2.2.2.2⟩
   have nC:H5 s3.heap.objs.size=none:=by
    have z:H5 ce.locals=none:=I6.free
    rw [cL] at z
    exact z
   obtain ⟨m,hn,_⟩:=I6.loc
   have hn:s6.heap.Ns ce.locals m:=hn
   rw [cL] at hn
   exact hRR D s3.heap.objs.size s6 m H5 I7 qq hn (I3.fpOk (Nat.le_refl _) nC)
  ·have ti:=T.item (X.blk s3 H3 scope ce fp) rfl rfl rfl hc i [] s5 _ H5 (fun _ _=>False) I5 (stat I5 n5) st5 go
   refine z0f ti fun r s6 ⟨u,hr,h6⟩=>?_
   subst hr
   refine z0f h6 fun _ s7 ⟨x,H7,I7,r7,y7,st7,n7⟩=>?_
   have I7':=I7.pinned (stat I7 n7) (T.obj _ _ st7)
   refine z0f (pg _ s7 _ H7 x u _ I7' r7 (step x H7 y7)) fun _ s8 ⟨σ8,H8,I8,hw8,q8⟩=>?_
   refine z0f (pt _ s8 σ8 H8 _ I8 q8) fun b s9 ⟨H9,I9,q9⟩=>?_
   have fin:∀ {s':Shared} {H':Hp},Inv (X.blk s3 H3 scope ce fp) ([] ++ z0M fp s7.heap) σ8 H' s'→Nx H'→∃ m,m < n∧∃ i H',Inv (X.blk s3 H3 scope ce fp) [] (y8 σ (own.map (·.2))) H' s'∧tn i s'.heap∧(∀ b∈fp,H' b=none)∧W i m H':=fun {s' H'} I' nx=>by
    obtain ⟨m',hm,w'⟩:=hNx H' nx
    have pin':∀ b∈fp,∀ o,s7.heap.get? b=some o→s'.heap.get? b=some o∧H' b=none:=fun b hb o e=>
     let z:=I'.pin (b,o) (List.mem_append_right _ (List.mem_append_right _ (z4g hb e)))
     ⟨z.1,z.2.1⟩
    have hl:(y8 σ (own.map (·.2))).length = σ8.length:=by rw [← hw8,z5D]
    refine ⟨m',hm,i + 1,H',(I'.unpinned (pins:=[])).weak hl (fun j v e=>?_),T.keep _ _ _ st7 fun b hb o e=>(pin' b hb o e).1,fun b hb=>?_,w'⟩
    ·rw [← hw8] at e
     exact (z5E e).1
    ·obtain ⟨o,e,_⟩:=T.obj _ _ st7 b hb
     exact (pin' b hb o e).2
   cases b with
   | false=>
    simp only [Bool.false_eq_true,if_false] at q9 ⊢
    exact fin I9 q9
   | true=>
    simp only [if_true] at q9 ⊢
    refine z0f (pe _ s9 σ8 H9 _ I9 q9) fun z s10 ⟨yv,H10,I10,r10,acc,hD10,hz10,nx⟩=>?_
    exact zc6 (X:=X.blk s3 H3 scope ce fp) I10 hD10 hz10 r10 fun s11 I11=>fin I11 nx
 exact codeAny_compStart_list loop (T.self X.A 0 _ _ _ st4 loop)
theorem zi5 {elt tg iter:Expr} {ifs:List Expr} {scope:Scope} {own:List (Str × Nat)} {pos:Pos} {wi:TI} {g:TG} {tt:TT} {te:TE} (hc:X.calm=true) (hN:X.N.Nodup) (hi:PI X tg iter wi) (ok:BlkOk X.N X.env.scope scope own)
  (hg:∀ (s:Shared) (H:Hp) (C:Addr) (cl:List (Str × Addr)) (fp:List Addr),PG (X.blk s H scope (compEnvC scope cl C X.env) fp) tg g) (ht:∀ (s:Shared) (H:Hp) (C:Addr) (cl:List (Str × Addr)) (fp:List Addr),PTs (X.blk s H scope (compEnvC scope cl C X.env) fp) ifs tt)
  (he:∀ (s:Shared) (H:Hp) (C:Addr) (cl:List (Str × Addr)) (fp:List Addr),PE (X.blk s H scope (compEnvC scope cl C X.env) fp) elt te) (hs:∀ x,foldedSetIterable iter X.env x=pure x:=by intro _;rfl) :
  PE X (.ListComp elt [⟨tg,iter,ifs,0⟩] scope pos) (tLc wi g tt te (own.map (·.2))):=by
 intro pins s σ H Q I h
 rw [eval_ListComp]
 refine z7b hc hN I hi ok hg ht he hs h fun D C s' m H' I' q hn f=>⟨m,hn,fun h'' sb=>?_⟩
 obtain ⟨f0,f1,f2,f3,f4,f5⟩:=f
 exact ⟨.ref D,H',I'.turned (t':=s'.toks) (fun b o hb e=>(sb.2 b hb).trans e) f0 f1 f3 f4 f5,rfl,q⟩
theorem ziH {i:Nat} {y:Str} {py:Pos} {elt tg iter:Expr} {ifs:List Expr} {scope:Scope} {own:List (Str × Nat)} {pos spos:Pos} {wi:TI} {g:TG} {tt:TT} {te:TE} (hc:X.calm=true) (hN:X.N.Nodup) (hy:X.N[i]?=some y) (hyl:X.env.scope.names.lookup y=some .local)
  (hsw:swapsWith (.ListComp elt [⟨tg,iter,ifs,0⟩] scope pos) (some (.Name y py)) spos.line X.env=pure true) (hi:PI X tg iter wi) (ok:BlkOk X.N X.env.scope scope own)
  (hg:∀ (s:Shared) (H:Hp) (C:Addr) (cl:List (Str × Addr)) (fp:List Addr),PG (X.blk s H scope (compEnvC scope cl C X.env) fp) tg g) (ht:∀ (s:Shared) (H:Hp) (C:Addr) (cl:List (Str × Addr)) (fp:List Addr),PTs (X.blk s H scope (compEnvC scope cl C X.env) fp) ifs tt)
  (he:∀ (s:Shared) (H:Hp) (C:Addr) (cl:List (Str × Addr)) (fp:List Addr),PE (X.blk s H scope (compEnvC scope cl C X.env) fp) elt te) (hs:∀ x,foldedSetIterable iter X.env x=pure x:=by intro _;rfl) :
  PS X (.Assign [.Name y py] (.ListComp elt [⟨tg,iter,ifs,0⟩] scope pos) spos) (z0c (tLc wi g tt te (own.map (·.2))) (Y5 i)):=by
 intro pins s σ H D I h
 rw [exec_Assign_Name_used _ _ _ _ hsw]
 refine wpAny_bind (wpAny_standAt (wpAny_bind ?_))
 show wpAny _ X.A (do let _ ← comprehension (.ListComp elt [⟨tg,iter,ifs,0⟩] scope pos) scope X.env (firstIterPos [⟨tg,iter,ifs,0⟩] pos) (newList []) false (eval iter X.env) (some (assign (.Name y py) X.env))) _ _ s
 have h:tLc wi g tt te (own.map (·.2)) σ H (fun x H1=>Y5 i x σ H1 D.nx):=h
 refine wpAny_bind (thn (z7b (Qf:=fun _ s'=>SP X pins D .next s') hc hN I hi ok hg ht he hs h fun L C s' m H' I' q hn f=>?_) fun _ s' hq=>wpAny_pure (wpAny_pure hq))
 show wpAny _ _ (assign (.Name y py) X.env (.ref L)) _ _ _
 refine wpAny_assign_Name (zaU (v:=V.ref L) I' hN hy (.inl hyl) rfl (fun s2 I2 ⟨a,sb,ha⟩=>?_) (.inr hyl))
 obtain ⟨f0,f1,f2,f3,f4,f5⟩:=f
 have haC:C≠a:=by
  rcases ha with z | z
  ·rw [z];exact f1
  ·exact fun e=>f4 y a z e.symm
 refine ⟨m,hn.sameBut sb haC,fun h3 sb3=>?_⟩
 exact ⟨_,H',I2.turned (t':=s2.toks) (fun b o hb e=>(sb3.2 b hb).trans e) f0 f1 f3 f4 f5,q⟩
theorem zkA {elt:Expr} {gs:List Comprehension} {scope:Scope} {pos py:Pos} {y:Str} {l:Nat} {env:Env} (hk:env.scope.kind = .function) (hy:env.scope.names.lookup y=some .local) (hl:(py.line == pos.line)=true)
  (ha:(scope.names.any fun (n,k)=>n == y && (k == .local || k == .cell))=false):swapsWith (.ListComp elt gs scope pos) (some (.Name y py)) l env=pure true:=by
 have ky:env.kindOf y=some .local:=hy
 have hb:env.blockKind = .function:=by unfold Env.blockKind;rw [hk];rfl
 unfold swapsWith
 simp only [hb,ky,ha,Expr.pos,hl]
 rfl
end
theorem zff {K:PySem.W.Frag} {a:Addr} {xs:List V} {g:TG} {tt:TT} {te:TE} {vs:List Nat} {σ : St} {H1:Hp} {D:Addr} {Qd:Hp→Prop} (Pv:Nat→Hp→Prop) (h0:Pv 0 (upd H1 D (.lst []))) (hl:∀ i H,i≤xs.length→Pv i H→SqL K H a xs)
  (hs:∀ i x H,xs[i]?=some x→Pv i H→g x (y8 σ vs) H fun σ2 H2=>y8 σ2 vs=y8 σ vs∧tt σ2 H2 fun b H3=>
   if b=true then te σ2 H3 fun y H4=>∃ acc,H4 D=some (.lst acc)∧acc.length < sizeLine∧Pv (i + 1) (upd H4 D (.lst (acc ++ [y]))) else Pv (i + 1) H3) (hd:∀ H,Pv xs.length H→Qd H) :
  ∃ W:Nat→Nat→Hp→Prop,(∃ m,W 0 m (upd H1 D (.lst [])))∧∀ i m H,W i m H →
   ((Itl K a).stop i H∧Qd H)∨((Itl K a).go i H∧∃ Nx:Hp→Prop,(∀ H',Nx H'→∃ m',m' < m∧W (i + 1) m' H')∧∀ x H',(Itl K a).yld i H x H'→g x (y8 σ vs) H' fun σ2 H2=>y8 σ2 vs=y8 σ vs∧tt σ2 H2 fun b H3=>
    if b=true then te σ2 H3 fun y H4=>∃ acc,H4 D=some (.lst acc)∧acc.length < sizeLine∧Nx (upd H4 D (.lst (acc ++ [y]))) else Nx H3):=by
 refine ⟨fun i m H=>m=xs.length - i∧i≤xs.length∧Pv i H,⟨xs.length,by simp,Nat.zero_le _,h0⟩,?_⟩
 rintro i m H ⟨rfl,hi,p⟩
 have q:=hl i H hi p
 by_cases hlt:i < xs.length
 ·refine .inr ⟨⟨xs,xs[i],q,by simp [hlt]⟩,Pv (i + 1),fun H' p'=>⟨xs.length - (i + 1),by omega,rfl,hlt,p'⟩,fun x H' y=>?_⟩
  obtain ⟨e,y⟩:=y
  subst e
  exact hs i x _ (y xs q) p
 ·have e:i=xs.length:=by omega
  subst e
  exact .inl ⟨⟨xs,q,Nat.le_refl _⟩,hd H p⟩
def z15 (N:List Str) (sc scope:Scope) (own:List (Str × Nat)):Bool :=
 (match scope.kind with | .function=>true | _=>false) && (scope.names.all fun y=>decide (scope.names.lookup y.1=some y.2)) && (own.all fun p=>decide (N[p.2]?=some p.1)) &&
  (scope.names.all fun y=>match y.2 with
   | .free=>(match sc.names.lookup y.1 with | some .cell=>true | some .free=>true | _=>false)
   | .local=>decide (y.1∈own.map (·.1)) || decide (y.1 ∉ N)
   | .cell=>decide (y.1∈own.map (·.1)) || decide (y.1 ∉ N)
   | _=>true)
theorem z65 {N:List Str} {sc scope:Scope} {own:List (Str × Nat)} (h:z15 N sc scope own=true):BlkOk N sc scope own:=by
 unfold z15 at h
 simp only [Bool.and_eq_true,List.all_eq_true,decide_eq_true_eq] at h
 obtain ⟨⟨⟨h1,h2⟩,h3⟩,h4⟩:=h
 refine ⟨?_,h2,h3,fun y hy e=>?_,fun y hy e=>?_⟩
 ·split at h1
  ·assumption
  ·cases h1
 ·have q:=h4 y hy
  simp only [e] at q
  split at q <;> first | exact .inl (by assumption) | exact .inr (by assumption) | cases q
 ·have q:=h4 y hy
  rcases e with e | e <;> (simp only [e,Bool.or_eq_true,decide_eq_true_eq] at q;exact q)
end L2
namespace L2
open PySem PySem.Spec PyProof.Rows
section
variable {κ : Type} [DecidableEq κ]
def yu (kvs:List (κ × V)) (k : κ):Option V:=(kvs.find? fun kv=>decide (kv.1=k)).map (·.2)
def yB (kvs:List (κ × V)) (k : κ) (v:V):List (κ × V) :=
 if (kvs.any fun kv=>decide (kv.1=k))=true then kvs.map (fun kv=>if kv.1=k then (kv.1,v) else kv) else kvs ++ [(k,v)]
def Yq (kvs:List (κ × V)) (k : κ):List (κ × V):=kvs.filter fun kv=>decide (kv.1≠k)
theorem z0h {p : κ × V} {r:List (κ × V)} {k : κ} (e:p.1=k):yu (p :: r) k=some p.2:=by simp [yu,List.find?_cons,e]
theorem z0g {p : κ × V} {r:List (κ × V)} {k : κ} (e:¬ p.1=k):yu (p :: r) k=yu r k:=by simp [yu,List.find?_cons,e]
theorem z5A (k : κ):∀ kvs:List (κ × V),(kvs.any fun kv=>decide (kv.1=k))=(yu kvs k).isSome
 | []=>rfl
 | p :: r=>by
  rw [List.any_cons]
  by_cases e:p.1=k
  ·simp only [z0h e,decide_eq_true e,Bool.true_or,Option.isSome_some]
  ·rw [z0g e,decide_eq_false e,Bool.false_or];exact z5A k r
theorem z7c (kvs:List (κ × V)) (k : κ) (v:V):(yB kvs k v).length≤kvs.length + 1:=by
 unfold yB
 split
 ·rw [List.length_map];omega
 ·rw [List.length_append,List.length_cons,List.length_nil];omega
theorem z8e {kvs:List (κ × V)} {k : κ} (v:V) (h:yu kvs k=none):yB kvs k v=kvs ++ [(k,v)]:=by
 unfold yB
 rw [z5A,h]
 exact if_neg (by decide)
theorem RelO.isSome_eq {o:Option V} {u:Option Value} (r:RelO o u):o.isSome=u.isSome:=by
 cases o with
 | none=>cases u with
  | none=>rfl
  | some _=>exact (show False from r).elim
 | some _=>cases u with
  | none=>exact (show False from r).elim
  | some _=>rfl
theorem RelO.getD {o:Option V} {u:Option Value} {d:V} {d':Value} (r:RelO o u) (rd:RelV d d'):RelV (o.getD d) (u.getD d'):=by
 cases o with
 | none=>cases u with
  | none=>exact rd
  | some _=>exact (show False from r).elim
 | some _=>cases u with
  | none=>exact (show False from r).elim
  | some _=>exact r
theorem KV.val {kvs:List (κ × V)} {vs:List (κ × Value)} (r:KV kvs vs) (k : κ):RelO (yu kvs k) (valueAt vs k):=by
 unfold KV at r
 induction r with
 | nil=>exact True.intro
 | @cons p q ps qs h t ih=>
  obtain ⟨h1,h2⟩:=h
  by_cases e:p.1=k
  ·have e':q.1=k:=h1.symm.trans e
   have b:valueAt (q :: qs) k=some q.2:=by simp [valueAt,List.find?_cons,e']
   rw [z0h e,b];exact h2
  ·have e':¬ q.1=k:=fun z=>e (h1.trans z)
   have b:valueAt (q :: qs) k=valueAt qs k:=by simp [valueAt,List.find?_cons,e']
   rw [z0g e,b];exact ih
theorem KV.any {kvs:List (κ × V)} {vs:List (κ × Value)} (r:KV kvs vs) (k : κ):(kvs.any fun kv=>decide (kv.1=k))=vs.any fun kv=>decide (kv.1=k):=by
 unfold KV at r
 induction r with
 | nil=>rfl
 | cons h t ih=>rw [List.any_cons,List.any_cons,ih,h.1]
theorem KV.repl {kvs:List (κ × V)} {vs:List (κ × Value)} (r:KV kvs vs) (k : κ) {y:V} {u:Value} (ry:RelV y u) :
  KV (kvs.map fun kv=>if kv.1=k then (kv.1,y) else kv) (vs.map fun kv=>if kv.1=k then (kv.1,u) else kv):=by
 unfold KV at r ⊢
 induction r with
 | nil=>exact .nil
 | @cons p q ps qs h t ih=>
  rw [List.map_cons,List.map_cons]
  refine .cons ?_ ih
  obtain ⟨h1,h2⟩:=h
  by_cases e:p.1=k
  ·rw [if_pos e,if_pos (h1.symm.trans e)];exact ⟨h1,ry⟩
  ·rw [if_neg e,if_neg (fun z=>e (h1.trans z))];exact ⟨h1,h2⟩
theorem KV.put {kvs:List (κ × V)} {vs:List (κ × Value)} (r:KV kvs vs) (k : κ) {y:V} {u:Value} (ry:RelV y u):KV (yB kvs k y) (stored vs k u):=by
 unfold yB stored
 rw [r.any k]
 by_cases e:(vs.any fun kv=>decide (kv.1=k))=true
 ·rw [if_pos e,if_pos e];exact r.repl k ry
 ·rw [if_neg e,if_neg e];exact Paired.snoc r ⟨rfl,ry⟩
theorem KV.drop {kvs:List (κ × V)} {vs:List (κ × Value)} (r:KV kvs vs) (k : κ):KV (Yq kvs k) (without vs k):=by
 unfold KV at r ⊢
 unfold Yq without
 induction r with
 | nil=>exact .nil
 | @cons p q ps qs h t ih=>
  obtain ⟨h1,h2⟩:=h
  rw [List.filter_cons,List.filter_cons]
  by_cases e:p.1=k
  ·have a:¬ decide (p.1≠k)=true:=by simp [e]
   have b:¬ decide (q.1≠k)=true:=by simp [h1.symm.trans e]
   rw [if_neg a,if_neg b];exact ih
  ·have e':¬ q.1=k:=fun z=>e (h1.trans z)
   have a:decide (p.1≠k)=true:=by simp [e]
   have b:decide (q.1≠k)=true:=by simp [e']
   rw [if_pos a,if_pos b];exact .cons ⟨h1,h2⟩ ih
theorem KV.keys {kvs:List (κ × V)} {vs:List (κ × Value)} (r:KV kvs vs):kvs.map (·.1)=vs.map (·.1):=by
 unfold KV at r
 induction r with
 | nil=>rfl
 | cons h t ih=>rw [List.map_cons,List.map_cons,ih,h.1]
theorem KV.length {kvs:List (κ × V)} {vs:List (κ × Value)} (r:KV kvs vs):kvs.length=vs.length:=Paired.length r
theorem z6r (kvs:List (κ × V)) (k : κ):(Yq kvs k).length≤kvs.length:=List.length_filter_le _ _
end
theorem j1 {P:Program} {w:World} {k:Key} {u:Value} (r:RelV (kV k) u):(y9 P w).is k u=true:=by
 cases k with
 | inl i=>obtain ⟨t,e⟩:=(show ∃ t,u=Value.int i t from r);subst e;exact zg8 P w i t
 | inr x=>obtain ⟨t,e⟩:=(show ∃ t,u=Value.str x t from r);subst e;exact zg9 P w x t
theorem z77 {P:Program} {w:World}:∀ {ks:List Key} {us:List Value},Vals (ks.map kV) us→ItemsAre (y9 P w) ks us
 | [],_,r=>by rw [List.map_nil] at r;cases r;exact .nil
 | k :: ks,_,r=>by
  rw [List.map_cons] at r
  cases r with
  | cons h t=>exact .cons (j1 h) (z77 t)
abbrev KT (H:Hp):List (List Key × V)→List (List Key × Addr × Value)→Prop:=Paired fun p q=>p.1=q.1∧H q.2.1=some (.tup (p.1.map kV))∧RelV p.2 q.2.2
theorem KT.val {H:Hp} {kvs:List (List Key × V)} {xs:List (List Key × Addr × Value)} (r:KT H kvs xs) (k:List Key):RelO (yu kvs k) ((atKey xs k).map (·.2)):=by
 induction r with
 | nil=>exact True.intro
 | @cons p q ps qs h t ih=>
  obtain ⟨h1,_,h2⟩:=h
  by_cases e:p.1=k
  ·have e':q.1=k:=h1.symm.trans e
   have b:atKey (q :: qs) k=some q.2:=by simp [atKey,List.find?_cons,e']
   rw [z0h e,b];exact h2
  ·have e':¬ q.1=k:=fun z=>e (h1.trans z)
   have b:atKey (q :: qs) k=atKey qs k:=by simp [atKey,List.find?_cons,e']
   rw [z0g e,b];exact ih
theorem KT.repl {H:Hp} {kvs:List (List Key × V)} {xs:List (List Key × Addr × Value)} (r:KT H kvs xs) (k:List Key) {y:V} {u:Value} (ry:RelV y u) :
  KT H (kvs.map fun kv=>if kv.1=k then (kv.1,y) else kv) (xs.map (putAt k u)):=by
 induction r with
 | nil=>exact .nil
 | @cons p q ps qs h t ih=>
  rw [List.map_cons,List.map_cons]
  refine .cons ?_ ih
  obtain ⟨h1,h2,h3⟩:=h
  unfold putAt
  by_cases e:p.1=k
  ·rw [if_pos e,if_pos (h1.symm.trans e)];exact ⟨h1,h2,ry⟩
  ·rw [if_neg e,if_neg (fun z=>e (h1.trans z))];exact ⟨h1,h2,h3⟩
theorem KT.put {H:Hp} {kvs:List (List Key × V)} {xs:List (List Key × Addr × Value)} (r:KT H kvs xs) (k:List Key) {b:Addr} {y:V} {u:Value} (hb:H b=some (.tup (k.map kV))) (ry:RelV y u) :
  KT H (yB kvs k y) (storedH xs k b u):=by
 have e:(kvs.any fun kv=>decide (kv.1=k))=(atKey xs k).isSome:=by
  rw [z5A,(r.val k).isSome_eq,Option.isSome_map]
 unfold yB storedH
 rw [e]
 by_cases q:(atKey xs k).isSome=true
 ·rw [if_pos q,if_pos q];exact r.repl k ry
 ·rw [if_neg q,if_neg q];exact Paired.snoc r ⟨rfl,hb,ry⟩
theorem KT.keeps {H H':Hp} {kvs:List (List Key × V)} {xs:List (List Key × Addr × Value)} (r:KT H kvs xs) (ht:∀ b ys,H b=some (.tup ys)→H' b=some (.tup ys)):KT H' kvs xs :=
 Paired.mapP r fun _ _ z=>⟨z.1,ht _ _ z.2.1,z.2.2⟩
section
variable {P:Program} {w:World} {H:Hp} {h:Heap} {a:Addr}
theorem z8w {u:HO} (ok:HOk P w H h) (e:Rd H a u):ObjOk P w H h a u:=e.ok ok
theorem ZC {kvs:List (Key × V)} (ok:HOk P w H h) (e:Rd H a (.dK kvs)):kvs.length≤sizeLine∧(a == sysModules)=false∧∃ vs,KV kvs vs∧h.DictOf (y9 P w) a vs :=
 show ObjOk P w H h a (.dK kvs) from z8w ok e
theorem z3v {kvs:List (Key × V)} (ok:HOk P w H h) (e:H a=some (.dK kvs)):kvs.length≤sizeLine∧(a == sysModules)=false∧∃ vs,KV kvs vs∧h.DictOf (y9 P w) a vs:=ZC ok (.inl e)
theorem JT {ks:List Key} (ok:HOk P w H h) (e:H a=some (.tup (ks.map kV))):(tupleKind (y9 P w)).is h ks a:=by
 obtain ⟨_,its,r,o,h1,h2,n,h3⟩:=(show ObjOk P w H h a (.tup (ks.map kV)) from ok a _ e)
 exact ⟨o,its.toArray,n,h1,h2,h3,by simpa using z77 r⟩
theorem jj {kvs:List (List Key × V)} (ok:HOk P w H h) (e:Rd H a (.dT kvs)):kvs.length≤sizeLine∧(a == sysModules)=false ∧
  ∃ xs,KT H kvs xs∧h.DictOfH (tupleKind (y9 P w)) a xs:=by
 obtain ⟨z,y,xs,r,o,es,ep,h1,h2,h3,h4,h5⟩:=(show ObjOk P w H h a (.dT kvs) from z8w ok e)
 refine ⟨z,y,xs,r,o,es,ep,h1,h2,h3,h4,fun x hx=>?_,h5⟩
 have all:∀ {l:List (List Key × V)} {m:List (List Key × Addr × Value)},KT H l m→∀ x∈m,(tupleKind (y9 P w)).is h x.1 x.2.1:=by
  intro l m q
  induction q with
  | nil=>intro x hx;exact nomatch hx
  | @cons p q ps qs hq t ih=>
   intro x hx
   rcases List.mem_cons.mp hx with e | hx
   ·subst e
    exact JT ok (by rw [← hq.1];exact hq.2.1)
   ·exact ih x hx
 exact all r x hx
theorem zcZ {kvs:List (List Key × V)} (ok:HOk P w H h) (e:H a=some (.dT kvs)):kvs.length≤sizeLine∧(a == sysModules)=false ∧
  ∃ xs,KT H kvs xs∧h.DictOfH (tupleKind (y9 P w)) a xs:=jj ok (.inl e)
end
def DGet (H:Hp) (a:Addr) (y:V) (r:Option V):Prop :=
 (∃ kvs k,Rd H a (.dK kvs)∧y=kV k∧r=yu kvs k)∨∃ kvs k b,Rd H a (.dT kvs)∧y = .ref b∧H b=some (.tup (k.map kV))∧r=yu kvs k
def DPut (H:Hp) (a:Addr) (y v:V) (H':Hp):Prop :=
 (∃ kvs k,H a=some (.dK kvs)∧y=kV k∧kvs.length < sizeLine∧H'=upd H a (.dK (yB kvs k v))) ∨
 ∃ kvs k b,H a=some (.dT kvs)∧y = .ref b∧H b=some (.tup (k.map kV))∧kvs.length < sizeLine∧H'=upd H a (.dT (yB kvs k v))
theorem DGet.k {H:Hp} {a:Addr} {kvs:List (Key × V)} {k:Key} (e:H a=some (.dK kvs)):DGet H a (kV k) (yu kvs k):=.inl ⟨kvs,k,.inl e,rfl,rfl⟩
theorem DGet.t {H:Hp} {a b:Addr} {kvs:List (List Key × V)} {k:List Key} (e:H a=some (.dT kvs)) (eb:H b=some (.tup (k.map kV))):DGet H a (.ref b) (yu kvs k):=.inr ⟨kvs,k,b,.inl e,rfl,eb,rfl⟩
theorem DPut.k {H:Hp} {a:Addr} {kvs:List (Key × V)} {k:Key} {v:V} (e:H a=some (.dK kvs)) (hl:kvs.length < sizeLine):DPut H a (kV k) v (upd H a (.dK (yB kvs k v))):=.inl ⟨kvs,k,e,rfl,hl,rfl⟩
theorem DPut.t {H:Hp} {a b:Addr} {kvs:List (List Key × V)} {k:List Key} {v:V} (e:H a=some (.dT kvs)) (eb:H b=some (.tup (k.map kV))) (hl:kvs.length < sizeLine) :
  DPut H a (.ref b) v (upd H a (.dT (yB kvs k v))):=.inr ⟨kvs,k,b,e,rfl,eb,hl,rfl⟩
section
variable {X:Cx} {pins:List (Addr × Obj)} {σ : St} {H:Hp} {s:Shared} {a:Addr} {y v:V} {u r:Value} {o:Option V} {A:Around} {E:Value→Shared→Prop}
theorem Inv.big (I:Inv X pins σ H s):sysModules < s.heap.objs.size:=by
 have h:mainGlobals < s.heap.objs.size:=(I.mod.glob.keeps I.bk).lt
 exact Nat.lt_trans (by decide) h
theorem z6k {Q:Value→Shared→Prop} (hu:A.units + 1 < cLine) (I:Inv X pins σ H s) (g:DGet H a y (some v)) (ry:RelV y u) (h:∀ w' s',Inv X pins σ H s'→RelV v w'→Q w' s') :
  wpAny (model X.prog X.w) A (getItem (.ref a) u) Q E s:=by
 rcases g with ⟨kvs,k,e,ey,l⟩ | ⟨kvs,k,b,e,ey,eb,l⟩
 ·subst ey
  obtain ⟨z,hd,vs,rel,dd⟩:=ZC I.hok e
  obtain ⟨w',hw,rw'⟩:=RelO.some_of (v:=v) (o:=valueAt vs k) (by rw [l];exact rel.val k)
  exact wpAny_getItem_of (j1 ry) dd.mapOf hw (h w' _ (I.tok _) rw')
 ·subst ey
  cases (show u=Value.ref b from ry)
  obtain ⟨z,hd,xs,rel,dd⟩:=jj I.hok e
  obtain ⟨w',hw,rw'⟩:=RelO.some_of (v:=v) (o:=(atKey xs k).map (·.2)) (by rw [l];exact rel.val k)
  obtain ⟨p,hp,hp2⟩:=Option.map_eq_some_iff.mp hw
  refine wpAny_getItem_heap (tupleKind_room_in1 hu) (JT I.hok eb) dd hp ?_
  rw [hp2]
  exact h w' _ (I.tok _) rw'
theorem zcR {Q:Value→Shared→Prop} (hu:A.units + 1 < cLine) (I:Inv X pins σ H s) (g:DGet H a y o) (ry:RelV y u) (h:∀ s',Inv X pins σ H s'→Q (.bool o.isSome) s') :
  wpAny (model X.prog X.w) A (compareOp .In u (.ref a)) Q E s:=by
 rcases g with ⟨kvs,k,e,ey,l⟩ | ⟨kvs,k,b,e,ey,eb,l⟩
 ·subst ey
  obtain ⟨z,hd,vs,rel,dd⟩:=ZC I.hok e
  refine wpAny_in_of (j1 ry) hd dd.mapOf ?_
  rw [← (rel.val k).isSome_eq,← l]
  exact h _ (I.tok _)
 ·subst ey
  cases (show u=Value.ref b from ry)
  obtain ⟨z,hd,xs,rel,dd⟩:=jj I.hok e
  refine wpAny_in_heap (tupleKind_room_in1 hu) (JT I.hok eb) hd dd ?_
  have q:=(rel.val k).isSome_eq
  rw [Option.isSome_map] at q
  rw [← q,← l]
  exact h _ (I.tok _)
theorem zcT {Q:Value→Shared→Prop} (hu:A.units + 1 < cLine) (I:Inv X pins σ H s) (g:DGet H a y o) (ry:RelV y u) (h:∀ s',Inv X pins σ H s'→Q (.bool (!o.isSome)) s') :
  wpAny (model X.prog X.w) A (compareOp .NotIn u (.ref a)) Q E s:=by
 rcases g with ⟨kvs,k,e,ey,l⟩ | ⟨kvs,k,b,e,ey,eb,l⟩
 ·subst ey
  obtain ⟨z,hd,vs,rel,dd⟩:=ZC I.hok e
  refine wpAny_notIn_of (j1 ry) hd dd.mapOf ?_
  rw [← (rel.val k).isSome_eq,← l]
  exact h _ (I.tok _)
 ·subst ey
  cases (show u=Value.ref b from ry)
  obtain ⟨z,hd,xs,rel,dd⟩:=jj I.hok e
  refine wpAny_notIn_heap (tupleKind_room_in1 hu) (JT I.hok eb) hd dd ?_
  have q:=(rel.val k).isSome_eq
  rw [Option.isSome_map] at q
  rw [← q,← l]
  exact h _ (I.tok _)
theorem z1a {h':Heap} {t':Nat} {ob:HO} (I:Inv X pins σ H s) (mu:Mut (H a)) (hs:Heap.SameBut a s.heap h') (he:∃ q,h'.get? a=some q) (new:ObjOk X.prog X.w (upd H a ob) h' a ob) :
  Inv X pins σ (upd H a ob) { s with heap:=h',toks:=t' } :=
 I.write (x:=a) (e:=a) mu (.inl rfl) (fun b q hb z=>(hs.2 b hb).trans z) he new
theorem z1b {P:Program} {w:World} {H':Hp} {h':Heap} {kvs:List (Key × V)} {vs:List (Key × Value)} (z:kvs.length≤sizeLine) (hd:(a == sysModules)=false) (rel:KV kvs vs) (dd:h'.DictOf (y9 P w) a vs) :
  ObjOk P w H' h' a (.dK kvs):=⟨z,hd,vs,rel,dd⟩
theorem z6l {H':Hp} {Q:Unit→Shared→Prop} (hu:A.units + 1 < cLine) (I:Inv X pins σ H s) (g:DPut H a y v H') (ry:RelV y u) (rv:RelV v r) (h:∀ s',Inv X pins σ H' s'→Q () s') :
  wpAny (model X.prog X.w) A (setItem (.ref a) u r) Q E s:=by
 rcases g with ⟨kvs,k,e,ey,l,eH⟩ | ⟨kvs,k,b,e,ey,eb,l,eH⟩
 ·subst ey eH
  obtain ⟨z,hd,vs,rel,dd⟩:=z3v I.hok e
  have hz:vs.length≤sizeLine:=by rw [← rel.length];exact z
  have hl:(yB kvs k v).length≤sizeLine:=by have:=z7c kvs k v;omega
  refine wpAny_setItem_pairs (hsz:=hz) (j1 ry) dd fun h' dd' hs=>h _ ?_
  have he:∃ q,h'.get? a=some q:=let ⟨q,_,_,hq,_⟩:=dd';⟨q,hq⟩
  exact z1a I (by rw [e];exact True.intro) hs he (z1b hl hd (rel.put k rv) dd')
 ·subst ey eH
  cases (show u=Value.ref b from ry)
  obtain ⟨z,hd,xs,rel,dd⟩:=zcZ I.hok e
  have hz:xs.length≤sizeLine:=by rw [← Paired.length rel];exact z
  have hl:(yB kvs k v).length≤sizeLine:=by have:=z7c kvs k v;omega
  refine wpAny_setItem_heap (hsz:=hz) (tupleKind_room_in1 hu) (JT I.hok eb) dd fun h' dd' hs=>h _ ?_
  obtain ⟨q,es,ep,hq,h2,h3,h4,_,h5⟩:=dd'
  refine z1a I (by rw [e];exact True.intro) hs ⟨q,hq⟩ ⟨hl,hd,_,(rel.put k eb rv).keeps fun c ys ec=>?_,q,es,ep,hq,h2,h3,h4,h5⟩
  rw [z6 (yX ec e (fun z=>nomatch z))]
  exact ec
end
section
variable {X:Cx} {pins:List (Addr × Obj)} {σ : St} {H:Hp} {s:Shared} {a:Addr} {kvs:List (Key × V)} {k:Key} {u:Value} {A:Around} {E:Value→Shared→Prop}
theorem zmp {Q:Unit→Shared→Prop} (I:Inv X pins σ H s) (e:H a=some (.dK kvs)) (ry:RelV (kV k) u) (l:(yu kvs k).isSome=true) (h:∀ s',Inv X pins σ (upd H a (.dK (Yq kvs k))) s'→Q () s') :
  wpAny (model X.prog X.w) A (delItem (.ref a) u) Q E s:=by
 obtain ⟨z,hd,vs,rel,dd⟩:=z3v I.hok e
 refine wpAny_delItem_slot dd.typeIs (by decide) PySem.F.slot_dict_delitem
  (call_meetsIn PySem.F.slot_dict_delitem dd.typeIs PySem.F.entry_dict_delitem (PySem.F.args_dict_delitem_2 _ _) (meets_dict_delitem_pairs (y9 X.prog X.w) a (j1 ry)) ⟨vs,dd,by rw [← rel.length];exact z,by rw [← (rel.val k).isSome_eq];exact l,fun h' dd' hs=>h _ ?_⟩)
 have he:∃ q,h'.get? a=some q:=let ⟨q,_,_,hq,_⟩:=dd';⟨q,hq⟩
 exact z1a I (by rw [e];exact True.intro) hs he (z1b (Nat.le_trans (z6r kvs k) z) hd (rel.drop k) dd')
theorem zcU {v:V} {more:List Value} {Q:Value→Shared→Prop} (I:Inv X pins σ H s) (e:H a=some (.dK kvs)) (ry:RelV (kV k) u) (l:yu kvs k=some v) (hm:more=[]∨∃ x,more=[x])
  (h:∀ w' s',Inv X pins σ (upd H a (.dK (Yq kvs k))) s'→RelV v w'→Q w' s'):wpAny (model X.prog X.w) A (call (.builtin "dict.pop") (.ref a :: u :: more)) Q E s:=by
 obtain ⟨z,hd,vs,rel,dd⟩:=z3v I.hok e
 obtain ⟨w',hw,rw'⟩:=RelO.some_of (v:=v) (o:=valueAt vs k) (by rw [← l];exact rel.val k)
 have hp:(keyPart u).isSome=true:=by
  cases k with
  | inl i=>obtain ⟨t,q⟩:=(show ∃ t,u=Value.int i t from ry);subst q;rfl
  | inr x=>obtain ⟨t,q⟩:=(show ∃ t,u=Value.str x t from ry);subst q;rfl
 have ha:argsOk "dict.pop" ⟨.ref a :: u :: more,[]⟩:=by
  rcases hm with q | ⟨x,q⟩
  ·subst q;exact PySem.F.args_dict_pop_2 _ _
  ·subst q;exact PySem.F.args_dict_pop_3 _ _ _
 refine call_meetsIn PySem.F.slot_dict_pop dd.typeIs PySem.F.entry_dict_pop ha (meets_dict_pop_there (y9 X.prog X.w) a (j1 ry) more hm hp)
  ⟨vs,w',dd,by rw [← rel.length];exact z,hw,fun h' dd' hs=>h w' _ ?_ rw'⟩
 have he:∃ q,h'.get? a=some q:=let ⟨q,_,_,hq,_⟩:=dd';⟨q,hq⟩
 exact z1a I (by rw [e];exact True.intro) hs he (z1b (Nat.le_trans (z6r kvs k) z) hd (rel.drop k) dd')
theorem zcS {Q:Value→Shared→Prop} (I:Inv X pins σ H s) (e:Rd H a (.dK kvs)) (h:∀ t s',Inv X pins σ H s'→Q (.int kvs.length t) s'):wpAny (model X.prog X.w) A (call (.builtin "len") [.ref a]) Q E s:=by
 obtain ⟨z,hd,vs,rel,dd⟩:=ZC I.hok e
 refine call_len_dict hd dd (by rw [← rel.length];rw [sizeLine_eq] at z;omega) ?_
 rw [← rel.length]
 exact h _ _ (I.tok _)
end
def z5N (i:Expr):Prop:=∀ ov iv,subscripted i false ov iv=operate [ov,iv] (getItem ov iv)
theorem zky {prog:Program} {w:World} {A:Around} {E:Value→Shared→Prop} {s:Shared} {env:Env} {value slice:Expr} {pos:Pos} {T id:String} {Q:Value→Shared→Prop}
  (hl:typeLookup (.type T) "__getitem__" = pure (some (.builtin id))) (hs:z5N slice)
  (h:wpAny (model prog w) A (eval value env) (fun o s₁=>wpAny (model prog w) A (eval slice env) (fun i s₂=>s₂.TypeIs o T∧wpAny (model prog w) A (getItem o i) Q E s₂) E s₁) E s) :
  wpAny (model prog w) A (eval (.Subscript value slice pos) env) Q E s:=by
 refine Subscript_ (wpAny_mono h (fun o s₁ h₁=>wpAny_mono h₁ (fun i s₂ h₂=>?_) fun _ _ x=>x) fun _ _ x=>x)
 obtain ⟨hT,h₂⟩:=h₂
 unfold subscriptTail
 refine wpAny_bind ?_
 rw [getitemInPython_of_ne hT.not_modules]
 refine wpAny_bind (wpAny_specialOf hT hl ?_)
 have fin:wpAny (model prog w) A (subscripted slice false o i) (fun r s₃=>wpAny (model prog w) A (letTemporaryGo value o r >>= fun _=>pure r) Q E s₃) E s₂:=by
  rw [hs o i]
  exact wpAny_operating (wpAny_mono h₂ (fun r s₃ h₃=>wpAny_bind (wpAny_letTemporaryGo (wpAny_pure h₃))) fun _ _ x=>x)
 first
  | exact wpAny_pure (wpAny_bind fin)
  | exact wpAny_bind (wpAny_pure (wpAny_bind fin))
  | exact wpAny_bind fin
theorem zcV {X:Cx} {pins:List (Addr × Obj)} {σ : St} {H:Hp} {s:Shared} {a:Addr} {y:V} {o:Option V} (I:Inv X pins σ H s) (g:DGet H a y o):s.TypeIs (.ref a) "dict":=by
 rcases g with ⟨kvs,k,e,_,_⟩ | ⟨kvs,k,b,e,_,_,_⟩
 ·obtain ⟨_,_,vs,_,dd⟩:=ZC I.hok e
  exact dd.typeIs
 ·obtain ⟨_,_,xs,_,dd⟩:=jj I.hok e
  exact dd.typeIs
def z5s (td ty:TE):TE:=fun σ H Q=>td σ H fun x H1=>ty σ H1 fun y H2=>∃ a v,x = .ref a∧DGet H2 a y (some v)∧Q v H2
def zb6 (ty td:TE):TE:=fun σ H Q=>ty σ H fun y H1=>td σ H1 fun x H2=>∃ a o,x = .ref a∧DGet H2 a y o∧Q (.bl o.isSome) H2
def z5t (ty td:TE):TE:=fun σ H Q=>ty σ H fun y H1=>td σ H1 fun x H2=>∃ a o,x = .ref a∧DGet H2 a y o∧Q (.bl (!o.isSome)) H2
def z8G (td ty tv:TE):TS:=fun D σ H=>tv σ H fun v H1=>td σ H1 fun x H2=>ty σ H2 fun y H3=>∃ a H4,x = .ref a∧DPut H3 a y v H4∧D.nx σ H4
def z8F (td ty tv:TE) (rd:V→V→Hp→VK→Prop):TS:=fun D σ H=>td σ H fun x H1=>ty σ H1 fun y H2=>∃ a v,x = .ref a∧DGet H2 a y (some v) ∧
 tv σ H2 fun y2 H3=>rd v y2 H3 fun z H4=>∃ H5,DPut H4 a y z H5∧D.nx σ H5
section
variable {X:Cx} {o i e value:Expr} {pos pos' tpos:Pos} {td ty tv:TE}
theorem Z5 (hu:X.A.units + 1 < cLine) (ho:PE X o td) (hi:PE X i ty) (hs:z5N i):PE X (.Subscript o i pos) (z5s td ty):=by
 intro pins s σ H Q I h
 refine zky PySem.F.slot_dict_getitem.lookup hs (thn (ho pins s σ H _ I h) fun u s1 ⟨x,H1,I1,rx,q1⟩=>thn (hi pins s1 σ H1 _ I1 q1) fun iv s2 ⟨y,H2,I2,ry,a,v,ex,g,q2⟩=>?_)
 subst ex
 obtain rfl:u=Value.ref a:=rx
 exact ⟨zcV I2 g,z6k hu I2 g ry fun w' s3 I3 rw'=>⟨v,H2,I3,rw',q2⟩⟩
theorem zhX (hu:X.A.units + 1 < cLine) (hi:PE X i ty) (ho:PE X o td):PC X .In i o (zb6 ty td):=by
 intro pins s σ H Q I h
 refine thn (hi pins s σ H _ I h) fun iv s1 ⟨y,H1,I1,ry,q1⟩=>thn (ho pins s1 σ H1 _ I1 q1) fun u s2 ⟨x,H2,I2,rx,a,ov,ex,g,q2⟩=>?_
 subst ex
 obtain rfl:u=Value.ref a:=rx
 exact zcR hu I2 g ry fun s3 I3=>⟨.bl ov.isSome,H2,I3,rfl,q2⟩
theorem z4G (hu:X.A.units + 1 < cLine) (hi:PE X i ty) (ho:PE X o td):PC X .NotIn i o (z5t ty td):=by
 intro pins s σ H Q I h
 refine thn (hi pins s σ H _ I h) fun iv s1 ⟨y,H1,I1,ry,q1⟩=>thn (ho pins s1 σ H1 _ I1 q1) fun u s2 ⟨x,H2,I2,rx,a,ov,ex,g,q2⟩=>?_
 subst ex
 obtain rfl:u=Value.ref a:=rx
 exact zcT hu I2 g ry fun s3 I3=>⟨.bl (!ov.isSome),H2,I3,rfl,q2⟩
theorem z00 (hu:X.A.units + 1 < cLine) (ho:PE X o td) (hi:PE X i ty) (hv:PE X value tv) (hs:swapsWith value (some (.Subscript o i pos')) pos.line X.env=pure false) :
  PS X (.Assign [.Subscript o i pos'] value pos) (z8G td ty tv):=by
 intro pins s σ H D I h
 refine wpAny_Assign_Subscript (thn (hv pins s σ H _ I h) fun r s1 ⟨v,H1,I1,rv,q1⟩=>thn (ho pins s1 σ H1 _ I1 q1) fun u s2 ⟨x,H2,I2,rx,q2⟩=>thn (hi pins s2 σ H2 _ I2 q2) fun iv s3 ⟨y,H3,I3,ry,a,H4,ex,g,q3⟩=>?_) hs
 subst ex
 obtain rfl:u=Value.ref a:=rx
 exact z6l hu I3 g ry rv fun s4 I4=>⟨σ,H4,I4,q3⟩
theorem ziE {op:Operator} {rd:V→V→Hp→VK→Prop} (hu:X.A.units + 1 < cLine) (ho:PE X o td) (hi:PE X i ty) (hv:PE X value tv) (hop:z0Y X op rd)
  (ha:∀ ov iv new,augStore i ov iv new=(do holding [new,ov,iv] (setItem ov iv new);release [new,ov,iv] [];pure .next)):PS X (.AugAssign (.Subscript o i tpos) op value pos) (z8F td ty tv rd):=by
 intro pins s σ H D I h
 refine wpAny_AugAssign_SubscriptAny (thn (ho pins s σ H _ I h) fun u s1 ⟨x,H1,I1,rx,q1⟩=>thn (hi pins s1 σ H1 _ I1 q1) fun iv s2 ⟨y,H2,I2,ry,a,v,ex,g,q2⟩=>?_) ha
 subst ex
 obtain rfl:u=Value.ref a:=rx
 refine z6k hu I2 g ry fun w' s3 I3 rw'=>thn (hv pins s3 σ H2 _ I3 q2) fun w2 s4 ⟨y2,H3,I4,ry2,q3⟩=>thn (hop pins s4 σ H3 v y2 w' w2 _ I4 rw' ry2 q3) fun w3 s5 ⟨z,H4,I5,rz,H5,g5,q4⟩=>?_
 exact z6l hu I5 g5 ry rz fun s6 I6=>⟨σ,H5,I6,q4⟩
end
theorem zcW {P:Program} {w:World} {H:Hp} (h:Heap) (hb:sysModules < h.objs.size):ObjOk P w H (h.push { cls:=.type "dict",data:=.dict #[] }) h.objs.size (.dK []) :=
 ⟨Nat.zero_le _,beq_eq_false_iff_ne.mpr (Ne.symm (Nat.ne_of_lt hb)),[],.nil,Heap.DictOf.new h⟩
def zb7:TE:=fun _ H Q=>∀ p,H p=none→Q (.ref p) (upd H p (.dK []))
section
variable {X:Cx} {pos:Pos}
theorem Yd:PE X (.Dict [] [] pos) zb7:=fun pins s σ H Q I h=>
 wpAny_Dict_empty ⟨.ref s.heap.objs.size,_,I.laid (a:=s.heap.objs.size) (o:=.dK []) (t':=s.toks) (fun _ _ q=>Heap.get?_push_of_some _ q) (Nat.le_refl _) (zcW s.heap I.big),rfl,h _ (I.hok.fresh (Nat.le_refl _))⟩
end
structure M1 (X:Cx) (o:Expr) (m:Str) (apos:Pos) (e:Expr) (cpos:Pos):Prop where
 base:attributeBase o m X.env (eval o X.env)=eval o X.env
 few:((backTo cpos (starEach [e] X.env)).all (fun x=>!x.1) && (backToKw cpos (keywordEach [] X.env)).all (fun x=>x.1.isSome)
  && decide (([e]:List Expr).length + ([]:List Keyword).length + (if ([]:List Keyword).isEmpty then 0 else 1) < 30))=true
 line:(apos.endLine == cpos.line)=true
 trees:backTo cpos (starEach [e] X.env)=[(false,eval e X.env)]
structure M2 (X:Cx) (o:Expr) (m:Str) (apos:Pos) (e f:Expr) (cpos:Pos):Prop where
 base:attributeBase o m X.env (eval o X.env)=eval o X.env
 few:((backTo cpos (starEach [e,f] X.env)).all (fun x=>!x.1) && (backToKw cpos (keywordEach [] X.env)).all (fun x=>x.1.isSome)
  && decide (([e,f]:List Expr).length + ([]:List Keyword).length + (if ([]:List Keyword).isEmpty then 0 else 1) < 30))=true
 line:(apos.endLine == cpos.line)=true
 trees:backTo cpos (starEach [e,f] X.env)=[(false,eval e X.env),(false,eval f X.env)]
def IsD (H:Hp) (a:Addr):Prop:=(∃ kvs,Rd H a (.dK kvs))∨∃ kvs,Rd H a (.dT kvs)
theorem z75 {X:Cx} {pins:List (Addr × Obj)} {σ : St} {H:Hp} {s:Shared} {a:Addr} (I:Inv X pins σ H s) (d:IsD H a) :
  s.TypeIs (.ref a) "dict"∧(∀ b,Value.ref a = .ref b→∃ ob,s.heap.get? b=some ob∧ob.dict=none)∧(a == sysModules)=false:=by
 rcases d with ⟨kvs,e⟩ | ⟨kvs,e⟩
 ·obtain ⟨_,hd,vs,_,dd⟩:=ZC I.hok e
  refine ⟨dd.typeIs,fun b q=>?_,hd⟩
  cases q
  obtain ⟨ob,_,_,h1,h2,_⟩:=dd
  exact ⟨ob,h1,h2.2.1⟩
 ·obtain ⟨_,hd,xs,_,dd⟩:=jj I.hok e
  refine ⟨dd.typeIs,fun b q=>?_,hd⟩
  cases q
  obtain ⟨ob,_,_,h1,h2,_⟩:=dd
  exact ⟨ob,h1,h2.2.1⟩
section
variable {X:Cx} {pins:List (Addr × Obj)} {σ : St} {H:Hp} {s:Shared} {a:Addr} {y d:V} {u r:Value} {o:Option V} {A:Around} {E:Value→Shared→Prop}
theorem zcQ {Q:Value→Shared→Prop} (hu:A.units + 1 < cLine) (I:Inv X pins σ H s) (g:DGet H a y o) (ry:RelV y u) (rd:RelV d r) (h:∀ w' s',Inv X pins σ H s'→RelV (o.getD d) w'→Q w' s') :
  wpAny (model X.prog X.w) A (call (.builtin "dict.get") [.ref a,u,r]) Q E s:=by
 rcases g with ⟨kvs,k,e,ey,l⟩ | ⟨kvs,k,b,e,ey,eb,l⟩
 ·subst ey
  obtain ⟨z,hd,vs,rel,dd⟩:=ZC I.hok e
  refine call_meetsIn PySem.F.slot_dict_get dd.typeIs PySem.F.entry_dict_get (PySem.F.args_dict_get_3 _ _ _) (meets_dict_get_default (y9 X.prog X.w) a (j1 ry) hd r) ⟨_,dd.mapOf,h _ _ (I.tok _) ?_⟩
  rw [l]
  exact (rel.val k).getD rd
 ·subst ey
  cases (show u=Value.ref b from ry)
  obtain ⟨z,hd,xs,rel,dd⟩:=jj I.hok e
  refine call_meetsIn PySem.F.slot_dict_get dd.typeIs PySem.F.entry_dict_get (PySem.F.args_dict_get_3 _ _ _) (meetsH_dict_get_default (tupleKind (y9 X.prog X.w)) a b hd r) ⟨tupleKind_room_in1 hu,k,xs,JT I.hok eb,dd,h _ _ (I.tok _) ?_⟩
  rw [l]
  exact (rel.val k).getD rd
end
def zb5 (td ty tx:TE):TE:=fun σ H Q=>td σ H fun x H1=>∃ a,x = .ref a∧IsD H1 a∧ty σ H1 fun y H2=>tx σ H2 fun z H3=>∃ o,DGet H3 a y o∧Q (o.getD z) H3
def zb8 (td ty:TE):TE:=fun σ H Q=>td σ H fun x H1=>∃ a,x = .ref a∧IsD H1 a∧ty σ H1 fun y H2=>∃ kvs k v,H2 a=some (.dK kvs)∧y=kV k∧yu kvs k=some v∧Q v (upd H2 a (.dK (Yq kvs k)))
section
variable {X:Cx} {o e f:Expr} {apos cpos:Pos} {td ty tx:TE}
theorem zi1 (hu:X.A.units + 1 < cLine) (ho:PE X o td) (he:PE X e ty) (hf:PE X f tx) (m:M2 X o "get" apos e f cpos):PE X (.Call (.Attribute o "get" apos) [e,f] [] cpos) (zb5 td ty tx):=by
 intro pins s σ H Q I h
 refine wpAny_Call_method m.base m.few m.line PySem.F.plainAttrs_dict PySem.F.slot_dict_get PySem.F.type_dict_get (thn (ho pins s σ H _ I h) fun u s1 ⟨x,H1,I1,rx,a,ex,d,q1⟩=>?_)
 subst ex
 obtain rfl:u=Value.ref a:=rx
 obtain ⟨t1,t2,_⟩:=z75 I1 d
 refine ⟨t1,t2,?_⟩
 rw [m.trees]
 refine Calls.callWith_builtin rfl (Calls.evalArgs_plain (Calls.spliced_cons (thn (he pins s1 σ H1 _ I1 q1) fun iv s2 ⟨y,H2,I2,ry,q2⟩=>
  Calls.spliced_cons (thn (hf pins s2 σ H2 _ I2 q2) fun fv s3 ⟨z,H3,I3,rz,ov,g,q3⟩=>Calls.spliced_nil ?_))))
 exact zcQ hu I3 g ry rz fun w' s4 I4 rw'=>⟨_,H3,I4,rw',q3⟩
theorem zi2 (ho:PE X o td) (he:PE X e ty) (m:M1 X o "pop" apos e cpos):PE X (.Call (.Attribute o "pop" apos) [e] [] cpos) (zb8 td ty):=by
 intro pins s σ H Q I h
 refine wpAny_Call_method m.base m.few m.line PySem.F.plainAttrs_dict PySem.F.slot_dict_pop PySem.F.type_dict_pop (thn (ho pins s σ H _ I h) fun u s1 ⟨x,H1,I1,rx,a,ex,d,q1⟩=>?_)
 subst ex
 obtain rfl:u=Value.ref a:=rx
 obtain ⟨t1,t2,_⟩:=z75 I1 d
 refine ⟨t1,t2,?_⟩
 rw [m.trees]
 refine Calls.callWith_builtin rfl (Calls.evalArgs_plain (Calls.spliced_cons (thn (he pins s1 σ H1 _ I1 q1) fun iv s2 ⟨y,H2,I2,ry,kvs,k,v,ea,ey,l,q2⟩=>Calls.spliced_nil ?_)))
 subst ey
 exact zcU I2 ea ry l (.inl rfl) fun w' s3 I3 rw'=>⟨v,_,I3,rw',q2⟩
end
section
variable {X:Cx} {pins:List (Addr × Obj)} {σ : St} {H:Hp} {s:Shared} {a:Addr} {kvs:List (Key × V)} {A:Around} {E:Value→Shared→Prop}
theorem zcP {Q:Value→Shared→Prop} (I:Inv X pins σ H s) (e:Rd H a (.dK kvs)) (h:∀ p s',H p=none→Inv X pins σ (upd H p (.dK kvs)) s'→Q (.ref p) s'):wpAny (model X.prog X.w) A (call (.type "dict") [.ref a]) Q E s:=by
 obtain ⟨z,hd,vs,rel,dd⟩:=ZC I.hok e
 refine kt_call_dict hd dd (by rw [← rel.length];exact z) fun h' dd' hs=>?_
 refine h _ _ (I.hok.fresh (Nat.le_refl _)) (I.laid (a:=s.heap.objs.size) (o:=.dK kvs) (t':=s.toks) (fun b q hq=>?_) (Nat.le_refl _) (z1b z (beq_eq_false_iff_ne.mpr (Ne.symm (Nat.ne_of_lt I.big))) rel dd'))
 exact (hs.2 b (Nat.ne_of_lt (Heap.lt_size hq))).trans (Heap.get?_push_of_some _ hq)
end
end L2
namespace L2
open PySem PySem.Spec PyProof.Rows
section
variable {X:Cx} {pins:List (Addr × Obj)} {σ : St} {H:Hp} {s:Shared} {h':Heap}
theorem Inv.turnedL {t':Nat} {ch:List Addr} (I:Inv X pins σ H s) (k:∀ b o,b ∉ ch→s.heap.get? b=some o→h'.get? b=some o) (hf:∀ b∈ch,Zw X pins H b):Inv X pins σ H { s with heap:=h',toks:=t' }:=by
 have nit:∀ b u,H b=some u→b ∉ ch:=fun b u e z=>by
  have q:=(hf b z).1
  rw [q] at e;cases e
 refine I.step (g':=s.gens) (d':=s.drawn) (ch:=ch) (fun b hb=>⟨(hf b hb).2.2.2.1,(hf b hb).2.1,(hf b hb).2.2.2.2.1,(hf b hb).2.2.2.2.2⟩) (fun b o _ _ hc e _=>k b o hc e) (fun b o _ _ hc e _=>⟨o.slots,k b o hc e⟩)
  (fun _ _ _ _ n=>n) (fun b o hc e=>⟨o,k b o hc e⟩) (fun _ _ e=>e) (fun _ _ _ e=>e) (fun b ps e=>⟨#[],by rw [e];simp⟩) (fun m hm=>?_) (fun b u e=>?_) I.bare
 ·obtain ⟨o,es,ep,ho,r⟩:=hm
  exact ⟨o,es,ep,k _ o (fun z=>(hf _ z).2.1 rfl) ho,r⟩
 ·refine (I.hok b u e).stay (fun c v hc q=>k c v ?_ q) (fun _ q=>q) fun _ _ q=>q
  rcases hc with z | z
  ·rw [z];exact nit b u e
  ·exact nit c _ z
theorem Inv.turnedNew {t':Nat} {ch:List Addr} {T:Addr} {ob:HO} (I:Inv X pins σ H s) (k:∀ b o,b ∉ ch→s.heap.get? b=some o→h'.get? b=some o) (hf:∀ b∈ch,Zw X pins H b) (hT:s.heap.objs.size≤T)
  (new:ObjOk X.prog X.w (upd H T ob) h' T ob):Inv X pins σ (upd H T ob) { s with heap:=h',toks:=t' }:=by
 have hn:H T=none:=I.hok.fresh hT
 have nit:∀ b u,H b=some u→b ∉ ch:=fun b u e z=>by
  have q:=(hf b z).1
  rw [q] at e;cases e
 refine I.step (g':=s.gens) (d':=s.drawn) (ch:=ch) (fun b hb=>⟨(hf b hb).2.2.2.1,(hf b hb).2.1,(hf b hb).2.2.2.2.1,(hf b hb).2.2.2.2.2⟩) (fun b o _ _ hc e _=>k b o hc e) (fun b o _ _ hc e _=>⟨o.slots,k b o hc e⟩)
  (fun b o _ e n=>?_) (fun b o hc e=>⟨o,k b o hc e⟩) (fun b xs e=>?_) (fun b o u e=>?_) (fun b ps e=>⟨#[],?_⟩) (fun m hm=>?_) (fun b u e=>?_) I.bare
 ·rw [z6 (Nat.ne_of_lt (Nat.lt_of_lt_of_le (Heap.lt_size e) hT))];exact n
 ·rw [z6 (zd e hn)];exact e
 ·rw [z6 (zd e hn)];exact e
 ·rw [z6 (zd e hn),e];simp
 ·obtain ⟨o,es,ep,ho,r⟩:=hm
  exact ⟨o,es,ep,k _ o (fun z=>(hf _ z).2.1 rfl) ho,r⟩
 ·by_cases hb:b=T
  ·subst hb
   rw [z9] at e
   cases e
   exact new
  ·rw [z6 hb] at e
   refine (I.hok b u e).stay (fun c v hc q=>k c v ?_ q) (fun c q=>by rw [z6 (zd q hn)];exact q) fun c xs q=>by rw [z6 (zd q hn)];exact q
   rcases hc with z | z
   ·rw [z];exact nit b u e
   ·exact nit c _ z
theorem Inv.lock {d:Addr} {u:HO} (I:Inv X pins σ H s) (h:H d=some u) (mu:Mut (some u)):∃ od,Inv X pins σ (upd H d (.frz od u)) s:=by
 have x:=I.hok d u h
 have ex:∃ od,s.heap.get? d=some od:=by
  cases u with
  | lst xs=>obtain ⟨_,_,_,_,e⟩:=x;exact ⟨_,e⟩
  | dK kvs=>obtain ⟨_,_,_,_,o,_,_,e,_⟩:=x;exact ⟨o,e⟩
  | dT kvs=>obtain ⟨_,_,_,_,o,_,_,e,_⟩:=x;exact ⟨o,e⟩
  | set S n=>obtain ⟨o,_,_,_,e,_⟩:=x;exact ⟨o,e⟩
  | ins C dx fs=>obtain ⟨_,_,_,e,_⟩:=x;exact ⟨_,e⟩
  | ext φ=>obtain ⟨_,⟨_,e⟩,_⟩:=x;exact ⟨_,e⟩
  | _=>exact False.elim mu
 obtain ⟨od,e⟩:=ex
 have new:ObjOk X.prog X.w (upd H d (.frz od u)) s.heap d (.frz od u):=by
  refine ⟨e,x.stay (fun b v _ q=>q) (fun b q=>?_) fun b xs q=>?_⟩
  ·rw [z6 (fun z=>by rw [z,h] at q;cases q;exact mu)];exact q
  ·rw [z6 (fun z=>by rw [z,h] at q;cases q;exact mu)];exact q
 exact ⟨od,I.write (x:=d) (e:=d) (t':=s.toks) (h':=s.heap) (by rw [h];exact mu) (.inl rfl) (fun b v _ q=>q) ⟨od,e⟩ new⟩
theorem Inv.nofrz {d:Addr} {u:HO} (I:Inv X pins σ H s) (h:H d=some u) (mu:Mut (some u)):∀ o' u',X.H_0 d≠some (.frz o' u'):=fun o' u' e=>by
 have q:=I.base.frzs d o' u' e
 rw [h] at q
 cases q
 exact mu
theorem Inv.unlock {d:Addr} {od:Obj} {u:HO} (I:Inv X pins σ H s) (h:H d=some (.frz od u)) (hn:∀ o' u',X.H_0 d≠some (.frz o' u')):Inv X pins σ (upd H d u) s:=by
 have neH:∀ b o,H b=some o→(∀ o' u',o≠.frz o' u')→b≠d:=fun b o e hne z=>by
  rw [z,h] at e
  cases e
  exact hne _ _ rfl
 have neN:∀ b,H b=none→b≠d:=fun b e z=>by rw [z,h] at e;cases e
 refine ⟨I.ok,I.os,I.bare,⟨I.base.keep,I.base.slot,fun b o e n hx=>?_,I.base.there,fun b xs e=>?_,fun b o x e=>?_,fun b ps e=>?_⟩,I.loc,I.cell,?_,fun x c e=>?_,fun p hp=>?_,fun b o e=>?_,I.len⟩
 ·rw [z6 (neN b (I.base.free b o e n hx))];exact I.base.free b o e n hx
 ·have q:=I.base.tups b xs e
  rw [z6 (neH b _ q (fun _ _ z=>nomatch z))];exact q
 ·have q:=I.base.frzs b o x e
  rw [z6 (fun z=>by rw [z] at e;exact hn _ _ e)];exact q
 ·obtain ⟨m,q⟩:=I.base.tbls b ps e
  exact ⟨m,by rw [z6 (neH b _ q (fun _ _ z=>nomatch z))];exact q⟩
 ·rw [z6 (neN _ I.free)];exact I.free
 ·rw [z6 (neN c (I.freeC x c e))];exact I.freeC x c e
 ·obtain ⟨e,n,r⟩:=I.pin p hp
  exact ⟨e,by rw [z6 (neN _ n)];exact n,r⟩
 ·by_cases hb:b=d
  ·rw [hb,z9] at e
   cases e
   rw [hb]
   obtain ⟨_,x⟩:=I.hok d _ h
   exact x.stay (fun c v _ q=>q) (fun c q=>by rw [z6 (neH c _ q (fun _ _ z=>nomatch z))];exact q) fun c xs q=>by rw [z6 (neH c _ q (fun _ _ z=>nomatch z))];exact q
  ·rw [z6 hb] at e
   exact (I.hok b o e).stay (fun c v _ q=>q) (fun c q=>by rw [z6 (neH c _ q (fun _ _ z=>nomatch z))];exact q) fun c xs q=>by rw [z6 (neH c _ q (fun _ _ z=>nomatch z))];exact q
end
def zbb (t:TS):TS:=fun D σ H=>∃ d u,H d=some u∧Mut (some u)∧∀ od,t ⟨fun σ' H'=>H' d=some (.frz od u)∧D.nx σ' (upd H' d u),fun v H'=>H' d=some (.frz od u)∧D.rt v (upd H' d u),fun σ' H'=>H' d=some (.frz od u)∧D.bk σ' (upd H' d u),fun σ' H'=>H' d=some (.frz od u)∧D.ct σ' (upd H' d u)⟩ σ (upd H d (.frz od u))
section
variable {X:Cx}
theorem ja {st:Stmt} {t:TS} (h:PS X st t):PS X st (zbb t):=by
 intro pins s σ H D I hw
 obtain ⟨d,u,hd,mu,hw⟩:=hw
 obtain ⟨od,I1⟩:=I.lock hd mu
 refine thn (h pins s σ _ _ I1 (hw od)) fun f s1 q=>?_
 cases f with
 | next=>obtain ⟨σ',H',I2,e,q⟩:=q;exact ⟨σ',_,I2.unlock e (I.nofrz hd mu),q⟩
 | brk=>obtain ⟨σ',H',I2,e,q⟩:=q;exact ⟨σ',_,I2.unlock e (I.nofrz hd mu),q⟩
 | cont=>obtain ⟨σ',H',I2,e,q⟩:=q;exact ⟨σ',_,I2.unlock e (I.nofrz hd mu),q⟩
 | ret v=>obtain ⟨x,σ',H',I2,r,e,q⟩:=q;exact ⟨x,σ',_,I2.unlock e (I.nofrz hd mu),r,q⟩
theorem z1K {tg:Expr} {pins:List (Addr × Obj)} {σ : St} {H:Hp} {s:Shared} {R:It→Hp→Prop} {J:It} {tn:Nat→Heap→Prop} {tk:Nat} (I:Inv X pins σ H s) (o:Obj)
  (T:Turn X.prog X.w X.K tg J [s.heap.objs.size] s.heap.objs.size tn) (st:tn 0 (s.heap.push o)) (q:R J H):PIE X pins σ tg R (.ref s.heap.objs.size) { s with heap:=s.heap.push o,toks:=tk }:=by
 refine ⟨s.heap.objs.size,[s.heap.objs.size],tn,J,H,rfl,I.kept fun b ob e=>Heap.get?_push_of_some _ e,T,st,fun b hb=>?_,q⟩
 have e:b=s.heap.objs.size:=by simpa using hb
 subst e
 exact I.fpOk (Nat.le_refl _) (I.hok.fresh (Nat.le_refl _))
end
section
variable {prog:Program} {w:World} {A:Around} {E:Value→Shared→Prop} {s:Shared}
theorem z78 {d:Addr} {o:Obj} {es:Array DictEntry} {ep:Nat} {Q:Value→Shared→Prop} (hd:(d == sysModules)=false) (ho:s.heap.get? d=some o) (hc:o.ExactDict) (hdat:o.data = .dict es ep)
  (hQ:Q (.ref s.heap.objs.size) { s with heap:=s.heap.push { cls:=.type "dict_keyiterator",data:=.fields #[.ref d,.int 0 0,.int es.size 0,.int ep 0] } }) :
  wpAny (model prog w) A (pyIter (.ref d)) Q E s:=by
 have hT:s.TypeIs (.ref d) "dict":=⟨o,ho,hc.1⟩
 refine wpAny_pyIter_slot hT F.slot_dict_iter (wpAny_call_entry F.slot_dict_iter hT F.entry_dict_iter ?_ (F.args_dict_iter_1 _))
 unfold Builtin.«dict.__iter__»
 refine wpAny_bind ?_
 unfold Builtin.Dict.dictSlotNone
 refine wpAny_bind (wpAny_notOrdered_dict hT ?_)
 show wpAny _ _ (pure (Value.ref d)) _ _ s
 refine wpAny_pure ?_
 show wpAny _ _ (Builtin.Dict.showsAll d >>= _) _ _ s
 unfold Builtin.Dict.showsAll
 rw [if_neg (by rw [hd];exact Bool.false_ne_true)]
 refine wpAny_bind (wpAny_pure ?_)
 refine wpAny_bind (wpAny_dictEntries ho hdat ?_)
 refine wpAny_bind (wpAny_dictEpoch ho hdat ?_)
 refine wpAny_bind (wpAny_newObj_type (wpAny_pure ⟨_,rfl, "dict_keyiterator",_,⟨_,Heap.get?_push_size _ rfl,rfl⟩,F.slot_dict_keyiterator_next.lookup,?_⟩))
 simpa [rawInt] using hQ
theorem zgs {it d:Addr} {i n ep:Nat} {od:Obj} {es:Array DictEntry} {en:DictEntry} {Q:Option Value→Shared→Prop} (hit:s.heap.IsKeyIter it d i n ep) (hod:s.heap.get? d=some od) (hdd:od.data = .dict es ep)
  (hsz:es.size=n) (hx:es[i]?=some en) (hQ:∀ h',h'.IsKeyIter it d (i + 1) n ep→Heap.SameBut it s.heap h'→Q (some en.key) { s with heap:=h' }):wpAny (model prog w) A (pyNext (.ref it)) Q E s:=by
 obtain ⟨o,ho,hc,hd⟩:=id hit
 unfold pyNext
 refine wpAny_bind (wpAny_attempt (wpAny_callSpecial?_slot (name:=Str.ofString "__next__") hit.typeIs F.slot_dict_keyiterator_next
  (wpAny_call_entry F.slot_dict_keyiterator_next hit.typeIs F.entry_dict_keyiterator_next ?_ (F.args_dict_keyiterator_next_1 _))))
 refine wpAny_bind (wpAny_pure ?_)
 refine wpAny_bind ?_
 refine wpAny_bind ?_
 first | refine wpAny_bind (wpAny_typeNameOfWhole_keyiter hit.typeIs (wpAny_pure ?_)) | refine wpAny_bind (wpAny_typeNameOf_keyiter hit.typeIs (wpAny_pure ?_))
 refine wpAny_bind (wpAny_fieldsOf ho hd ?_)
 have hown:Builtin.Dict_items.ownsTuple "dict_keyiterator" = false:=by decide
 simp only [hown,Bool.false_eq_true,if_false]
 show wpAny _ _ (if (Value.ref d == Value.none)=true then _ else _) _ _ s
 rw [if_neg (show ¬ ((Value.ref d == Value.none)=true) from Bool.false_ne_true)]
 refine wpAny_bind (wpAny_pure ?_)
 refine wpAny_bind (wpAny_dictEntries hod hdd ?_)
 rw [if_neg (by rw [hsz];simp)]
 refine wpAny_bind (wpAny_pure ?_)
 refine wpAny_bind (wpAny_dictEpoch hod hdd ?_)
 rw [if_neg (by simp)]
 refine wpAny_pure ?_
 obtain ⟨hlt',hen⟩:=Array.getElem?_eq_some_iff.mp hx
 simp only [show ¬ ((i:Int) < 0) from by omega,if_false,Int.toNat_natCast,Array.getElem?_eq_getElem hlt']
 refine wpAny_bind ?_
 first | refine wpAny_bind (wpAny_typeNameOfWhole_keyiter hit.typeIs (wpAny_pure ?_)) | refine wpAny_bind (wpAny_typeNameOf_keyiter hit.typeIs (wpAny_pure ?_))
 refine wpAny_bind (wpAny_isOneOf_keyiter hit.typeIs ?_)
 show wpAny _ _ (setField (.ref it) 1 (rawInt ((i:Int) + 1)) >>= _) _ _ s
 refine wpAny_bind (wpAny_setField ho hd (by simp) ?_)
 have hit':(s.heap.update it (Obj.mapFields (·.setIfInBounds 1 (rawInt ((i:Int) + 1))))).IsKeyIter it d (i + 1) n ep :=
  ⟨_,Heap.get?_update_self _ ho (Obj.isFreed_of_fields (Obj.data_mapFields hd _)),(Obj.cls_mapFields ..).trans hc,by rw [Obj.data_mapFields hd];simp [rawInt]⟩
 refine wpAny_bind (wpAny_holding ?_)
 refine wpAny_bind (wpAny_isOneOf_keyiter (s:={ s with heap:=s.heap.update it (Obj.mapFields (·.setIfInBounds 1 (rawInt ((i:Int) + 1)))) }) hit'.typeIs ?_)
 show wpAny _ _ (pure es[i].key) _ _ _
 rw [hen]
 exact wpAny_pure (wpAny_pure ⟨_,rfl,wpAny_pure (hQ _ hit' (Heap.SameBut.update ..))⟩)
theorem z7R {it d:Addr} {i n ep:Nat} {od:Obj} {es:Array DictEntry} {Q:Option Value→Shared→Prop} (hh:A.handled=none) (hit:s.heap.IsKeyIter it d i n ep) (hod:s.heap.get? d=some od) (hdd:od.data = .dict es ep)
  (hsz:es.size=n) (hge:n≤i) (hQ:∀ h',Heap.ExtBut it s.heap h'→Q none { s with heap:=h' }):wpAny (model prog w) A (pyNext (.ref it)) Q E s:=by
 obtain ⟨o,ho,hc,hd⟩:=id hit
 unfold pyNext
 refine wpAny_bind (wpAny_attempt (wpAny_callSpecial?_slot (name:=Str.ofString "__next__") hit.typeIs F.slot_dict_keyiterator_next
  (wpAny_call_entry F.slot_dict_keyiterator_next hit.typeIs F.entry_dict_keyiterator_next ?_ (F.args_dict_keyiterator_next_1 _))))
 refine wpAny_bind (wpAny_pure ?_)
 refine wpAny_bind ?_
 refine wpAny_bind ?_
 first | refine wpAny_bind (wpAny_typeNameOfWhole_keyiter hit.typeIs (wpAny_pure ?_)) | refine wpAny_bind (wpAny_typeNameOf_keyiter hit.typeIs (wpAny_pure ?_))
 refine wpAny_bind (wpAny_fieldsOf ho hd ?_)
 have hown:Builtin.Dict_items.ownsTuple "dict_keyiterator" = false:=by decide
 simp only [hown,Bool.false_eq_true,if_false]
 show wpAny _ _ (if (Value.ref d == Value.none)=true then _ else _) _ _ s
 rw [if_neg (show ¬ ((Value.ref d == Value.none)=true) from Bool.false_ne_true)]
 refine wpAny_bind (wpAny_pure ?_)
 refine wpAny_bind (wpAny_dictEntries hod hdd ?_)
 rw [if_neg (by rw [hsz];simp)]
 refine wpAny_bind (wpAny_pure ?_)
 refine wpAny_bind (wpAny_dictEpoch hod hdd ?_)
 rw [if_neg (by simp)]
 refine wpAny_pure ?_
 have hge':es.size≤i:=by rw [hsz];exact hge
 simp only [show ¬ ((i:Int) < 0) from by omega,if_false,Int.toNat_natCast,Array.getElem?_eq_none hge']
 refine wpAny_bind ?_
 first | refine wpAny_bind (wpAny_typeNameOfWhole_keyiter hit.typeIs (wpAny_pure ?_)) | refine wpAny_bind (wpAny_typeNameOf_keyiter hit.typeIs (wpAny_pure ?_))
 show wpAny _ _ (setField (.ref it) 0 .none >>= _) _ _ s
 refine wpAny_bind (wpAny_setField ho hd (by simp) ?_)
 show wpAny _ _ (newExc (.type "StopIteration") [] >>= _) _ _ _
 refine wpAny_bind ?_
 simp only [newExc,newTuple]
 refine wpAny_bind (wpAny_newObj_type ?_ (by size_fits))
 refine wpAny_bind (m:=firstArgMember _ _) (wpAny_of_eq (a:=Value.none) (by first | rfl | (simp only [firstArgMember];rfl)) ?_)
 refine wpAny_newObj_type ?_ (by size_fits)
 simp only [raiseNew]
 refine wpAny_bind (wpAny_handled ?_)
 rw [show A.in1.handled=none from hh]
 refine wpAny_bind (wpAny_pure (wpAny_throw ?_))
 refine wpAny_bind (wpAny_isInstance (T:="StopIteration") (b:=true) ⟨_,Heap.get?_push_size _ rfl,rfl⟩ isSubtype_stop ?_)
 exact wpAny_pure (hQ _ (((Heap.SameBut.update ..).extBut.push _).push _))
end
theorem z41 {κ : Type} {kvs:List (κ × V)} {vs:List (κ × Value)} (h:KV kvs vs):∀ {i:Nat} {k : κ} {v:V},kvs[i]?=some (k,v)→∃ u,vs[i]?=some (k,u)∧RelV v u:=by
 unfold KV at h
 induction h with
 | nil=>intro i k v e;simp at e
 | @cons a b l₁ l₂ r t ih=>
  intro i k v e
  cases i with
  | zero=>
   simp only [List.getElem?_cons_zero,Option.some.injEq] at e
   subst e
   refine ⟨b.2,?_,r.2⟩
   simp only [List.getElem?_cons_zero]
   exact congrArg some (Prod.ext r.1.symm rfl)
  | succ j=>
   simp only [List.getElem?_cons_succ] at e ⊢
   exact ih e
theorem zhS {α β : Type} {G : α→β→Prop} {l₁ : List α} {l₂ : List β} (h:Paired G l₁ l₂):∀ {i:Nat} {a : α},l₁[i]?=some a→∃ b,l₂[i]?=some b∧G a b:=by
 induction h with
 | nil=>intro i a e;simp at e
 | @cons a b l₁ l₂ r t ih=>
  intro i a' e
  cases i with
  | zero=>
   simp only [List.getElem?_cons_zero,Option.some.injEq] at e
   subst e
   exact ⟨b,rfl,r⟩
  | succ j=>
   simp only [List.getElem?_cons_succ] at e ⊢
   exact ih e
theorem z8x {k:Key} {u:Value} (h:Y9 k u=true):RelV (kV k) u:=by
 rcases ZV h with ⟨i,t,rfl,rfl⟩ | ⟨x,t,rfl,rfl⟩
 ·exact ⟨t,rfl⟩
 ·exact ⟨t,rfl⟩
section
variable {X:Cx} {pins:List (Addr × Obj)} {σ : St} {H:Hp} {s:Shared} {d:Addr} {o:Obj}
theorem Inv.frzK {kvs:List (Key × V)} (I:Inv X pins σ H s) (h:H d=some (.frz o (.dK kvs))) :
  (d == sysModules)=false∧s.heap.get? d=some o∧o.ExactDict∧∃ (es:Array DictEntry) (ep:Nat) (vs:List (Key × Value)),o.data = .dict es ep∧es.size=kvs.length∧KV kvs vs∧s.heap.DictAt (y9 X.prog X.w) d vs ep:=by
 obtain ⟨hd,z,hs,vs,kv,o',es,ep,ho,hx,hdt,r⟩:=I.hok d _ h
 rw [hd] at ho
 cases ho
 refine ⟨hs,hd,hx,es,ep,vs,hdt,?_,kv,o,es,hd,hx,hdt,r⟩
 have l1:=r.2.1.length
 have l2:kvs.length=vs.length:=Paired.length kv
 rw [Array.length_toList] at l1
 omega
theorem Inv.frzT {kvs:List (List Key × V)} (I:Inv X pins σ H s) (h:H d=some (.frz o (.dT kvs))) :
  (d == sysModules)=false∧s.heap.get? d=some o∧o.ExactDict∧∃ (es:Array DictEntry) (ep:Nat),o.data = .dict es ep∧es.size=kvs.length ∧
   ∀ (i:Nat) (k:List Key) (v:V),kvs[i]?=some (k,v)→∃ (en:DictEntry) (q:Addr),es[i]?=some en∧en.key = .ref q∧H q=some (.tup (k.map kV)):=by
 obtain ⟨hd,z,hs,xs,pr,o',es,ep,ho,hx,hdt,he,_⟩:=I.hok d _ h
 rw [hd] at ho
 cases ho
 refine ⟨hs,hd,hx,es,ep,hdt,?_,fun i k v e=>?_⟩
 ·have l1:es.size=xs.length:=size_of_entries he
  have l2:kvs.length=xs.length:=Paired.length pr
  omega
 ·obtain ⟨b,hb,e1,e2,_⟩:=zhS pr e
  have q:=entry_at he i
  rw [hb] at q
  exact ⟨_,b.2.1,q,rfl,e2⟩
end
def Itk (d:Addr) (o:Obj) (kvs:List (Key × V)):It :=
 ⟨fun i H=>H d=some (.frz o (.dK kvs))∧i < kvs.length,fun i H x H'=>H'=H∧∃ k v,kvs[i]?=some (k,v)∧x=kV k,fun i H=>H d=some (.frz o (.dK kvs))∧kvs.length≤i⟩
def z3a (d:Addr) (o:Obj) (kvs:List (List Key × V)):It :=
 ⟨fun i H=>H d=some (.frz o (.dT kvs))∧i < kvs.length,fun i H x H'=>H'=H∧∃ (k:List Key) (v:V) (q:Addr),kvs[i]?=some (k,v)∧x = .ref q∧H q=some (.tup (k.map kV)),fun i H=>H d=some (.frz o (.dT kvs))∧kvs.length≤i⟩
def Itd (d:Addr) (o:Obj) (kvs:List (Key × V)):It :=
 ⟨fun i H=>H d=some (.frz o (.dK kvs))∧i < kvs.length,fun i H x H'=>H'=H∧∃ k,kvs[i]?=some (k,x),fun i H=>H d=some (.frz o (.dK kvs))∧kvs.length≤i⟩
def Iti (d:Addr) (o:Obj) (kvs:List (Key × V)):It :=
 ⟨fun i H=>H d=some (.frz o (.dK kvs))∧i < kvs.length,fun i H x H'=>∃ T k v,kvs[i]?=some (k,v)∧x = .ref T∧H T=none∧H'=upd H T (.tup [kV k,v]),fun i H=>H d=some (.frz o (.dK kvs))∧kvs.length≤i⟩
theorem YK {o:Obj} {es es':Array DictEntry} {ep ep':Nat} (h:o.data = .dict es ep) (h':o.data = .dict es' ep'):es'=es∧ep'=ep:=by
 rw [h] at h'
 cases h'
 exact ⟨rfl,rfl⟩
section
variable {P:Program} {w:World} {K:PySem.W.Frag} {tg:Expr} {d:Addr} {o:Obj} {es:Array DictEntry} {ep:Nat}
theorem zkR {kvs:List (Key × V)} (it:Addr) (hod:o.data = .dict es ep):Turn P w K tg (Itk d o kvs) [it] it (fun i h=>h.IsKeyIter it d i kvs.length ep) where
 mem:=by simp
 obj:=fun i h st b hb=>by
  have e:b=it:=by simpa using hb
  subst e
  obtain ⟨oi,e,c,dd⟩:=st
  exact ⟨oi,e,fun v z=>by rw [dd] at z;cases z⟩
 keep:=fun i h h' st k=>st.at fun oi e=>k it (by simp) oi e
 item:=by
  intro X hP hw hK hc i pins s σ H E I hf st hg
  subst hP hw hK
  obtain ⟨hd,hi⟩:=hg
  obtain ⟨f0,f1,f2,f3,f4,f5⟩:=hf it (by simp)
  obtain ⟨hs,hgd,hx,es',ep',vs,hdt,hsz,kv,hm⟩:=I.frzK hd
  obtain ⟨rfl,rfl⟩:=YK hod hdt
  obtain ⟨⟨k,v⟩,hkv⟩:∃ p,kvs[i]?=some p:=⟨kvs[i],List.getElem?_eq_getElem hi⟩
  obtain ⟨u,hu,ru⟩:=z41 kv hkv
  have hl:kvs.length=vs.length:=Paired.length kv
  rw [hl] at st
  refine wpAny_pyNext_dict_item st hm hu fun key h' hkey st' sb=>?_
  have I1:Inv X pins σ H { s with heap:=h' }:=I.turned (t':=s.toks) (fun b ob hb e=>(sb.2 b hb).trans e) f0 f1 f3 f4 f5
  obtain ⟨oi,e,c,dd⟩:=id st'
  refine ⟨key,rfl,z0t (s:={ s with heap:=h' }) e c dd (by decide) ⟨kV k,H,I1,z8x (show Y9 k key=true from hkey),⟨rfl,k,v,hkv,rfl⟩,?_,fun b hb=>(hf b hb).1⟩⟩
  show h'.IsKeyIter it d (i + 1) kvs.length _
  rw [hl]
  exact st'
 done:=by
  intro X hP hw hK hc i pins s σ H E I hf st hg
  subst hP hw hK
  obtain ⟨hd,hi⟩:=hg
  obtain ⟨f0,f1,f2,f3,f4,f5⟩:=hf it (by simp)
  obtain ⟨hs,hgd,hx,es',ep',vs,hdt,hsz,kv,hm⟩:=I.frzK hd
  obtain ⟨rfl,rfl⟩:=YK hod hdt
  exact z7R (I.ok.hd hc) st hgd hdt hsz hi fun h' eb=>⟨rfl,I.turned (t':=s.toks) (fun b ob hb e=>eb b ob hb e) f0 f1 f3 f4 f5⟩
 self:=fun A i s Q E st h=>wpAny_pyIter_keyiter st h
theorem zkS {kvs:List (List Key × V)} (it:Addr) (hod:o.data = .dict es ep):Turn P w K tg (z3a d o kvs) [it] it (fun i h=>h.IsKeyIter it d i kvs.length ep) where
 mem:=by simp
 obj:=fun i h st b hb=>by
  have e:b=it:=by simpa using hb
  subst e
  obtain ⟨oi,e,c,dd⟩:=st
  exact ⟨oi,e,fun v z=>by rw [dd] at z;cases z⟩
 keep:=fun i h h' st k=>st.at fun oi e=>k it (by simp) oi e
 item:=by
  intro X hP hw hK hc i pins s σ H E I hf st hg
  subst hP hw hK
  obtain ⟨hd,hi⟩:=hg
  obtain ⟨f0,f1,f2,f3,f4,f5⟩:=hf it (by simp)
  obtain ⟨hs,hgd,hx,es',ep',hdt,hsz,ent⟩:=I.frzT hd
  obtain ⟨rfl,rfl⟩:=YK hod hdt
  obtain ⟨⟨k,v⟩,hkv⟩:∃ p,kvs[i]?=some p:=⟨kvs[i],List.getElem?_eq_getElem hi⟩
  obtain ⟨en,q,hen,hkey,hq⟩:=ent i k v hkv
  refine zgs st hgd hdt hsz hen fun h' st' sb=>?_
  have I1:Inv X pins σ H { s with heap:=h' }:=I.turned (t':=s.toks) (fun b ob hb e=>(sb.2 b hb).trans e) f0 f1 f3 f4 f5
  obtain ⟨oi,e,c,dd⟩:=id st'
  exact ⟨en.key,rfl,z0t (s:={ s with heap:=h' }) e c dd (by decide) ⟨.ref q,H,I1,hkey,⟨rfl,k,v,q,hkv,rfl,hq⟩,st',fun b hb=>(hf b hb).1⟩⟩
 done:=by
  intro X hP hw hK hc i pins s σ H E I hf st hg
  subst hP hw hK
  obtain ⟨hd,hi⟩:=hg
  obtain ⟨f0,f1,f2,f3,f4,f5⟩:=hf it (by simp)
  obtain ⟨hs,hgd,hx,es',ep',hdt,hsz,ent⟩:=I.frzT hd
  obtain ⟨rfl,rfl⟩:=YK hod hdt
  exact z7R (I.ok.hd hc) st hgd hdt hsz hi fun h' eb=>⟨rfl,I.turned (t':=s.toks) (fun b ob hb e=>eb b ob hb e) f0 f1 f3 f4 f5⟩
 self:=fun A i s Q E st h=>by
  refine wpAny_pyIter_slot st.typeIs F.slot_dict_keyiterator_iter (wpAny_call_entry F.slot_dict_keyiterator_iter st.typeIs F.entry_dict_keyiterator_iter ?_ (F.args_dict_keyiterator_iter_1 _))
  show wpAny _ _ (ret (.ref it)) _ _ s
  exact wpAny_pure ⟨_,rfl, "dict_keyiterator",_,st.typeIs,F.slot_dict_keyiterator_next.lookup,h⟩
theorem zkW {kvs:List (Key × V)} (it:Addr) (hod:o.data = .dict es ep):Turn P w K tg (Itd d o kvs) [it] it (fun i h=>h.IsValIter it d i kvs.length ep) where
 mem:=by simp
 obj:=fun i h st b hb=>by
  have e:b=it:=by simpa using hb
  subst e
  obtain ⟨oi,e,c,dd⟩:=st
  exact ⟨oi,e,fun v z=>by rw [dd] at z;cases z⟩
 keep:=fun i h h' st k=>st.at fun oi e=>k it (by simp) oi e
 item:=by
  intro X hP hw hK hc i pins s σ H E I hf st hg
  subst hP hw hK
  obtain ⟨hd,hi⟩:=hg
  obtain ⟨f0,f1,f2,f3,f4,f5⟩:=hf it (by simp)
  obtain ⟨hs,hgd,hx,es',ep',vs,hdt,hsz,kv,hm⟩:=I.frzK hd
  obtain ⟨rfl,rfl⟩:=YK hod hdt
  obtain ⟨⟨k,v⟩,hkv⟩:∃ p,kvs[i]?=some p:=⟨kvs[i],List.getElem?_eq_getElem hi⟩
  obtain ⟨u,hu,ru⟩:=z41 kv hkv
  have hl:kvs.length=vs.length:=Paired.length kv
  rw [hl] at st
  refine wpAny_pyNext_values_item st hm hu fun h' st' sb=>?_
  have I1:Inv X pins σ H { s with heap:=h' }:=I.turned (t':=s.toks) (fun b ob hb e=>(sb.2 b hb).trans e) f0 f1 f3 f4 f5
  obtain ⟨oi,e,c,dd⟩:=id st'
  refine ⟨u,rfl,z0t (s:={ s with heap:=h' }) e c dd (by decide) ⟨v,H,I1,ru,⟨rfl,k,hkv⟩,?_,fun b hb=>(hf b hb).1⟩⟩
  show h'.IsValIter it d (i + 1) kvs.length _
  rw [hl]
  exact st'
 done:=by
  intro X hP hw hK hc i pins s σ H E I hf st hg
  subst hP hw hK
  obtain ⟨hd,hi⟩:=hg
  obtain ⟨f0,f1,f2,f3,f4,f5⟩:=hf it (by simp)
  obtain ⟨hs,hgd,hx,es',ep',vs,hdt,hsz,kv,hm⟩:=I.frzK hd
  obtain ⟨rfl,rfl⟩:=YK hod hdt
  have hl:kvs.length=vs.length:=Paired.length kv
  rw [hl] at st
  exact wpAny_pyNext_values_end (I.ok.hd hc) st hm (List.getElem?_eq_none (by omega)) fun h' eb=>⟨rfl,I.turned (t':=s.toks) (fun b ob hb e=>eb b ob hb e) f0 f1 f3 f4 f5⟩
 self:=fun A i s Q E st h=>wpAny_pyIter_valiter st h
theorem zkQ {kvs:List (Key × V)} {elts:List Expr} {kk:Nat} {tpos:Pos} (it:Addr) (hod:o.data = .dict es ep) :
  Turn P w K (.Tuple elts kk tpos) (Iti d o kvs) [it] it (fun i h=>∃ ok ov,IsItemIter h it d i kvs.length ep ok ov) where
 mem:=by simp
 obj:=fun i h st b hb=>by
  have e:b=it:=by simpa using hb
  subst e
  obtain ⟨ok,ov,e⟩:=st
  exact ⟨_,e,fun v z=>nomatch z⟩
 keep:=fun i h h' st k=>let ⟨ok,ov,e⟩:=st;⟨ok,ov,k it (by simp) _ e⟩
 item:=by
  intro X hP hw hK hc i pins s σ H E I hf st hg
  subst hP hw hK
  obtain ⟨hd,hi⟩:=hg
  obtain ⟨hs,hgd,hx,es',ep',vs,hdt,hsz,kv,hm⟩:=I.frzK hd
  obtain ⟨rfl,rfl⟩:=YK hod hdt
  obtain ⟨⟨k,v⟩,hkv⟩:∃ p,kvs[i]?=some p:=⟨kvs[i],List.getElem?_eq_getElem hi⟩
  obtain ⟨u,hu,ru⟩:=z41 kv hkv
  have hl:kvs.length=vs.length:=Paired.length kv
  obtain ⟨ok,ov,he⟩:=st
  rw [hl] at he
  have hlt:it < s.heap.objs.size:=Heap.lt_size he
  refine wpAny_pyNext_items_item he hm hu fun key h' hkey ho hT hz hk=>?_
  refine ⟨_,rfl,wpAny_letOwnedTupleGo_items (s:={ s with heap:=h' }) ho fun h'' he' sb=>?_⟩
  have hT2:h''.get? s.heap.objs.size=some { cls:=.type "tuple",data:=.seq #[key,u] }:=(sb.2 _ (Nat.ne_of_gt hlt)).trans hT
  have new:ObjOk X.prog X.w (upd H s.heap.objs.size (.tup [kV k,v])) h'' s.heap.objs.size (.tup [kV k,v]) :=
   ⟨by show 2≤sizeLine;decide,[key,u],.cons (z8x (show Y9 k key=true from hkey)) (.cons ru .nil),⟨_,hT2,rfl,_,rfl⟩⟩
  have I1:Inv X pins σ (upd H s.heap.objs.size (.tup [kV k,v])) { s with heap:=h'' } :=
   I.turnedNew (t':=s.toks) (ch:=[it]) (fun b ob hb e=>(sb.2 b (by simpa using hb)).trans (hk b ob (by simpa using hb) e)) hf (Nat.le_refl _) new
  refine ⟨.ref s.heap.objs.size,_,I1,rfl,⟨_,k,v,hkv,rfl,I.hok.fresh (Nat.le_refl _),rfl⟩,⟨key,u,?_⟩,fun b hb=>?_⟩
  ·rw [hl];exact he'
  ·have e:b=it:=by simpa using hb
   rw [e,z6 (Nat.ne_of_lt hlt)]
   exact (hf it (by simp)).1
 done:=by
  intro X hP hw hK hc i pins s σ H E I hf st hg
  subst hP hw hK
  obtain ⟨hd,hi⟩:=hg
  obtain ⟨f0,f1,f2,f3,f4,f5⟩:=hf it (by simp)
  obtain ⟨hs,hgd,hx,es',ep',vs,hdt,hsz,kv,hm⟩:=I.frzK hd
  obtain ⟨rfl,rfl⟩:=YK hod hdt
  have hl:kvs.length=vs.length:=Paired.length kv
  obtain ⟨ok,ov,he⟩:=st
  rw [hl] at he
  exact wpAny_pyNext_items_end (I.ok.hd hc) he hm (List.getElem?_eq_none (by omega)) fun h' eb=>⟨rfl,I.turned (t':=s.toks) (fun b ob hb e=>eb b ob hb e) f0 f1 f3 f4 f5⟩
 self:=fun A i s Q E st h=>let ⟨_,_,e⟩:=st;PySem.W.kcp_self e h
end
def z6S (td:TE):TI:=fun σ H R=>td σ H fun x H1=>∃ d o,x = .ref d∧((∃ kvs,H1 d=some (.frz o (.dK kvs))∧R (Itk d o kvs) H1)∨∃ kvs,H1 d=some (.frz o (.dT kvs))∧R (z3a d o kvs) H1)
def z6V (td:TE):TI:=fun σ H R=>td σ H fun x H1=>∃ d o kvs,x = .ref d∧H1 d=some (.frz o (.dK kvs))∧R (Itd d o kvs) H1
def z6R (td:TE):TI:=fun σ H R=>td σ H fun x H1=>∃ d o kvs,x = .ref d∧H1 d=some (.frz o (.dK kvs))∧R (Iti d o kvs) H1
section
variable {X:Cx} {tg e:Expr} {td:TE} {apos cpos:Pos}
theorem z4K (he:PE X e td):PI X tg e (z6S td):=by
 intro pins s σ H R I h
 refine thn (he pins s σ H _ I h) fun u s1 ⟨x,H1,I1,rx,d,o,ex,q⟩=>?_
 subst ex
 obtain rfl:u=Value.ref d:=rx
 rcases q with ⟨kvs,hd,q⟩ | ⟨kvs,hd,q⟩
 ·obtain ⟨hs,hgd,hx,es,ep,vs,hdt,hsz,kv,hm⟩:=I1.frzK hd
  refine z78 hs hgd hx hdt (z1K (tk:=s1.toks) I1 _ (zkR _ hdt) ⟨_,Heap.get?_push_size _ rfl,rfl,?_⟩ q)
  rw [hsz] <;> rfl
 ·obtain ⟨hs,hgd,hx,es,ep,hdt,hsz,ent⟩:=I1.frzT hd
  refine z78 hs hgd hx hdt (z1K (tk:=s1.toks) I1 _ (zkS _ hdt) ⟨_,Heap.get?_push_size _ rfl,rfl,?_⟩ q)
  rw [hsz] <;> rfl
theorem zix (he:PE X e td) (hbase:attributeBase e "values" X.env (eval e X.env)=eval e X.env:=by rfl) (hline:(apos.endLine == cpos.line)=true:=by rfl):PI X tg (.Call (.Attribute e "values" apos) [] [] cpos) (z6V td):=by
 intro pins s σ H R I h
 refine wpAny_Call_method (T:="dict") (id:="dict.values") hbase rfl hline F.plainAttrs_dict F.slot_dict_values F.type_dict_values (thn (he pins s σ H _ I h) fun u s1 ⟨x,H1,I1,rx,d,o,kvs,ex,hd,q⟩=>?_)
 subst ex
 obtain rfl:u=Value.ref d:=rx
 obtain ⟨hs,hgd,hx,es,ep,vs,hdt,hsz,kv,hm⟩:=I1.frzK hd
 have hl:kvs.length=vs.length:=Paired.length kv
 refine ⟨hm.dictOf.typeIs,hm.dictOf.mapOf.noDict,?_⟩
 have I2:Inv X pins σ H1 { s1 with heap:=s1.heap.push { cls:=.type "dict_values",data:=.fields #[.ref d] } }:=I1.kept (t':=s1.toks) fun b ob q=>Heap.get?_push_of_some _ q
 have fin:wpAny (model X.prog X.w) X.A (pyIter (.ref s1.heap.objs.size)) (PIE X pins σ tg R) X.xe { s1 with heap:=s1.heap.push { cls:=.type "dict_values",data:=.fields #[.ref d] } }:=by
  refine wpAny_pyIter_values (d:=d) (knd:=y9 X.prog X.w) ⟨_,Heap.get?_push_size _ rfl,rfl,rfl⟩ (hm.push _) (z1K (tk:=s1.toks) I2 _ (zkW _ hdt) ⟨_,Heap.get?_push_size _ rfl,rfl,?_⟩ q)
  rw [hl] <;> rfl
 show wpAny _ _ (callWith cpos (.builtin "dict.values") [.ref d] [] []) _ X.xe s1
 exact method_meetsIn F.slot_dict_values F.entry_dict_values rfl (PySem.evalArgs_none ⟨rfl,hm.dictOf.typeIs,F.args_dict_values_1 _,_,meets_dict_values (y9 X.prog X.w) d hs,⟨vs,hm.dictOf⟩,fin⟩)
theorem z1J {elts:List Expr} {kk:Nat} {tpos:Pos} (he:PE X e td) (hbase:attributeBase e "items" X.env (eval e X.env)=eval e X.env:=by rfl) (hline:(apos.endLine == cpos.line)=true:=by rfl) :
  PI X (.Tuple elts kk tpos) (.Call (.Attribute e "items" apos) [] [] cpos) (z6R td):=by
 intro pins s σ H R I h
 refine wpAny_Call_method (T:="dict") (id:="dict.items") hbase rfl hline F.plainAttrs_dict F.slot_dict_items F.type_dict_items (thn (he pins s σ H _ I h) fun u s1 ⟨x,H1,I1,rx,d,o,kvs,ex,hd,q⟩=>?_)
 subst ex
 obtain rfl:u=Value.ref d:=rx
 obtain ⟨hs,hgd,hx,es,ep,vs,hdt,hsz,kv,hm⟩:=I1.frzK hd
 have hl:kvs.length=vs.length:=Paired.length kv
 refine ⟨hm.dictOf.typeIs,hm.dictOf.mapOf.noDict,?_⟩
 have I2:Inv X pins σ H1 { s1 with heap:=s1.heap.push { cls:=.type "dict_items",data:=.fields #[.ref d] } }:=I1.kept (t':=s1.toks) fun b ob q=>Heap.get?_push_of_some _ q
 have fin:wpAny (model X.prog X.w) X.A (pyIter (.ref s1.heap.objs.size)) (PIE X pins σ (.Tuple elts kk tpos) R) X.xe { s1 with heap:=s1.heap.push { cls:=.type "dict_items",data:=.fields #[.ref d] } }:=by
  refine wpAny_pyIter_items (d:=d) (knd:=y9 X.prog X.w) ⟨_,Heap.get?_push_size _ rfl,rfl,rfl⟩ (hm.push _) (z1K (tk:=s1.toks) I2 _ (zkQ _ hdt) ⟨.none,.none,?_⟩ q)
  rw [hl]
  exact Heap.get?_push_size _ rfl
 show wpAny _ _ (callWith cpos (.builtin "dict.items") [.ref d] [] []) _ X.xe s1
 exact method_meetsIn F.slot_dict_items F.entry_dict_items rfl (PySem.evalArgs_none ⟨rfl,hm.dictOf.typeIs,F.args_dict_items_1 _,_,meets_dict_items (y9 X.prog X.w) d hs,⟨vs,hm.dictOf⟩,fin⟩)
end
theorem zcn:bootBuiltins "zip" = some (.type "zip"):=by decide +kernel
def Itz (K:PySem.W.Frag) (a b:Addr):It :=
 ⟨fun i H=>∃ (xs ys:List V) (x y:V),SqL K H a xs∧SqL K H b ys∧xs[i]?=some x∧ys[i]?=some y,
  fun i H v H'=>∃ T x y,v = .ref T∧H T=none∧H'=upd H T (.tup [x,y])∧(∀ xs,SqL K H a xs→xs[i]?=some x)∧∀ ys,SqL K H b ys→ys[i]?=some y,
  fun i H=>∃ xs ys:List V,SqL K H a xs∧SqL K H b ys∧(xs.length≤i∨ys.length≤i)⟩
theorem zkX {P:Program} {w:World} {K:PySem.W.Frag} {elts:List Expr} {kk:Nat} {tpos:Pos} {a b z TI TO i1 i2:Addr} (D:ZipApart z TI TO i1 i2 a b) :
  Turn P w K (.Tuple elts kk tpos) (Itz K a b) [z,TI,TO,i1,i2] z (fun i h=>IsZip h z TI TO .none∧IsPair h TI (.ref i1) (.ref i2)∧(∃ x y,IsPair h TO x y)∧h.IsListIter i1 a i∧h.IsListIter i2 b i) where
 mem:=by simp
 obj:=fun i h st c hc=>by
  obtain ⟨hz,hTI,⟨x,y,hTO⟩,⟨o1,e1,_,d1⟩,⟨o2,e2,_,d2⟩⟩:=st
  have e':c=z∨c=TI∨c=TO∨c=i1∨c=i2:=by simpa using hc
  rcases e' with q | q | q | q | q
  ·rw [q];exact ⟨_,hz,fun v q=>nomatch q⟩
  ·rw [q];exact ⟨_,hTI,fun v q=>nomatch q⟩
  ·rw [q];exact ⟨_,hTO,fun v q=>nomatch q⟩
  ·rw [q];exact ⟨o1,e1,fun v q=>by rw [d1] at q;cases q⟩
  ·rw [q];exact ⟨o2,e2,fun v q=>by rw [d2] at q;cases q⟩
 keep:=fun i h h' st k=>by
  obtain ⟨hz,hTI,⟨x,y,hTO⟩,h1,h2⟩:=st
  exact ⟨k z (by simp) _ hz,k TI (by simp) _ hTI,⟨x,y,k TO (by simp) _ hTO⟩,h1.at fun o q=>k i1 (by simp) o q,h2.at fun o q=>k i2 (by simp) o q⟩
 item:=by
  intro X hP hw hK hc i pins s σ H E I hf st hg
  subst hP hw hK
  obtain ⟨hz,hTI,⟨x0,y0,hTO⟩,h1,h2⟩:=st
  obtain ⟨xs,ys,x,y,hqx,hqy,hx,hy⟩:=hg
  obtain ⟨its,rv,p,_⟩:=I.list hqx
  obtain ⟨its2,rv2,p2,_⟩:=I.list hqy
  obtain ⟨u,hu,ru⟩:=rv.get hx
  obtain ⟨u2,hu2,ru2⟩:=rv2.get hy
  have hzl:z < s.heap.objs.size:=Heap.lt_size hz
  refine wpAny_pyNext_zip_item D hz hTI hTO h1 h2 p.isList p2.isList (x:=u) (y:=u2) (by simpa using hu) (by simpa using hu2) fun h' z' TO' h1' h2' hT hsz hk=>?_
  refine ⟨_,rfl,wpAny_letOwnedTupleGo_zip (s:={ s with heap:=h' }) z' fun h'' z'' sb=>?_⟩
  have hT2:h''.get? s.heap.objs.size=some { cls:=.type "tuple",data:=.seq #[u,u2] }:=(sb.2 _ (Nat.ne_of_gt hzl)).trans hT
  have new:ObjOk X.prog X.w (upd H s.heap.objs.size (.tup [x,y])) h'' s.heap.objs.size (.tup [x,y]) :=
   ⟨by show 2≤sizeLine;decide,[u,u2],.cons ru (.cons ru2 .nil),⟨_,hT2,rfl,_,rfl⟩⟩
  have I1:Inv X pins σ (upd H s.heap.objs.size (.tup [x,y])) { s with heap:=h'' } :=
   I.turnedNew (t':=s.toks) (ch:=[z,TI,TO,i1,i2]) (fun c o hb q=>(sb.2 c (fun q'=>hb (by simp [q']))).trans (hk c o (fun q'=>hb (by simp [q'])) (fun q'=>hb (by simp [q'])) (fun q'=>hb (by simp [q'])) (fun q'=>hb (by simp [q'])) q)) hf (Nat.le_refl _) new
  refine ⟨.ref s.heap.objs.size,_,I1,rfl,⟨_,x,y,rfl,I.hok.fresh (Nat.le_refl _),rfl,fun l hl=>by rw [I.list_inj hl hqx];exact hx,fun l hl=>by rw [I.list_inj hl hqy];exact hy⟩,⟨z'',?_,⟨u,u2,?_⟩,?_,?_⟩,fun c hcm=>?_⟩
  ·exact (sb.2 _ D.TIz).trans (hk _ _ D.TIz D.TITO D.TIi1 D.TIi2 hTI)
  ·exact (sb.2 _ D.TOz).trans TO'
  ·exact h1'.at fun o q=>(sb.2 _ D.i1z).trans q
  ·exact h2'.at fun o q=>(sb.2 _ D.i2z).trans q
  ·have hlt:c < s.heap.objs.size:=by
    have e':c=z∨c=TI∨c=TO∨c=i1∨c=i2:=by simpa using hcm
    rcases e' with q | q | q | q | q
    ·rw [q];exact hzl
    ·rw [q];exact Heap.lt_size hTI
    ·rw [q];exact Heap.lt_size hTO
    ·rw [q];obtain ⟨_,e1,_⟩:=h1;exact Heap.lt_size e1
    ·rw [q];obtain ⟨_,e2,_⟩:=h2;exact Heap.lt_size e2
   rw [z6 (Nat.ne_of_lt hlt)]
   exact (hf c hcm).1
 done:=by
  intro X hP hw hK hc i pins s σ H E I hf st hg
  subst hP hw hK
  obtain ⟨hz,hTI,⟨x0,y0,hTO⟩,h1,h2⟩:=st
  obtain ⟨xs,ys,hqx,hqy,hend⟩:=hg
  obtain ⟨its,rv,p,_⟩:=I.list hqx
  obtain ⟨its2,rv2,p2,_⟩:=I.list hqy
  have l1:=rv.length
  have l2:=rv2.length
  have he:its.toArray[i]?=none∨its2.toArray[i]?=none:=by
   rcases hend with q | q
   ·exact .inl (by simp;omega)
   ·exact .inr (by simp;omega)
  exact wpAny_pyNext_zip_end (I.ok.hd hc) D hz hTI hTO h1 h2 p.isList p2.isList he fun h' hk=>⟨rfl,I.turnedL (t':=s.toks) (ch:=[z,TI,TO,i1,i2]) (fun c o hb q=>
   hk c o (fun q'=>hb (by simp [q'])) (fun q'=>hb (by simp [q'])) (fun q'=>hb (by simp [q'])) (fun q'=>hb (by simp [q'])) q) hf⟩
 self:=fun A i s Q E st h=>wpAny_pyIter_zip st.1 h
def z3G (K:PySem.W.Frag) (ta:TA):TI:=fun σ H R=>ta σ H fun vs H1=>∃ a b xs ys,vs=[.ref a,.ref b]∧SqL K H1 a xs∧SqL K H1 b ys∧R (Itz K a b) H1
theorem ziy {X:Cx} {e e2:Expr} {ta:TA} {p pos tpos:Pos} {elts:List Expr} {kk:Nat} (hg:Gl X "zip") (hm:X.mg "zip" = none) (ha:PA X [e,e2] ta)
  (hs:starEach [e,e2] X.env=(false,eval e X.env) :: starEach [e2] X.env:=by rfl) (hpl:(backTo pos (starEach [e2] X.env)).any (·.1)=false:=by rfl) :
  PI X (.Tuple elts kk tpos) (.Call (.Name "zip" p) [e,e2] [] pos) (z3G X.K ta):=by
 intro pins s σ H R I h
 refine Call_ (z0y I hg hm zcn (PyProof.Rows.callWith_type1 (thn (ha pos pins s σ H _ I h) fun us s1 ⟨vs,H1,I1,r1,q1⟩=>?_) hs hpl))
 obtain ⟨a,b,xs,ys,ex,hqx,hqy,q⟩:=q1
 subst ex
 cases r1 with
 | cons r rr=>
  cases rr with
  | cons r' rr=>
   cases rr
   cases r
   cases r'
   obtain ⟨its,rv,p1,_⟩:=I1.list hqx
   obtain ⟨its2,rv2,p2,_⟩:=I1.list hqy
   have la:a < s1.heap.objs.size:=p1.lt
   have lb:b < s1.heap.objs.size:=p2.lt
   refine call_zip_2 p1.isList p2.isList fun h' hz hTI hTO h1 h2 hsz hk=>wpAny_pyIter_zip hz ?_
   have I2:Inv X pins σ H1 { s1 with heap:=h' }:=I1.kept (t':=s1.toks) hk
   refine ⟨s1.heap.objs.size + 4,[s1.heap.objs.size + 4,s1.heap.objs.size + 2,s1.heap.objs.size + 3,s1.heap.objs.size,s1.heap.objs.size + 1],_,_,H1,rfl,I2,zkX (PySem.W.ktu_apart s1.heap.objs.size a b la lb),⟨hz,hTI,⟨_,_,hTO⟩,h1,h2⟩,fun c hcm=>?_,q⟩
   have e':c=s1.heap.objs.size + 4∨c=s1.heap.objs.size + 2∨c=s1.heap.objs.size + 3∨c=s1.heap.objs.size∨c=s1.heap.objs.size + 1:=by simpa using hcm
   have hle:s1.heap.objs.size≤c:=by
    rcases e' with z | z | z | z | z
    ·rw [z];exact Nat.le_add_right _ _
    ·rw [z];exact Nat.le_add_right _ _
    ·rw [z];exact Nat.le_add_right _ _
    ·rw [z];exact Nat.le_refl _
    ·rw [z];exact Nat.le_add_right _ _
   exact I1.fpOk hle (I1.hok.fresh hle)
end L2
end
section
namespace L2
open PySem PySem.Spec PyProof.Rows
open PySem.W (WData Codec OpenSpec Well WellAll ReadsW ReadsAllW)
mutual
/-- x stands for the datum d,lists and tuples all the way -/
inductive Dw (K:PySem.W.Frag) (H:Hp):V→WData→Prop
 | non:Dw K H .non .none
 | bl (b:Bool):Dw K H (.bl b) (.bool b)
 | int (i:Int):Dw K H (.int i) (.int i)
 | str (x:Str):Dw K H (.str x) (.str x)
 | byt (b:Array UInt8):Dw K H (.byt b) (.bytes b.toList)
 | lst {a:Addr} {xs:List V} {ds:List WData}:SqL K H a xs→DwAll K H xs ds→Dw K H (.ref a) (.list ds)
 | tup {a:Addr} {xs:List V} {ds:List WData}:SqT K H a xs→DwAll K H xs ds→Dw K H (.ref a) (.tuple ds)
inductive DwAll (K:PySem.W.Frag) (H:Hp):List V→List WData→Prop
 | nil:DwAll K H [] []
 | cons {v:V} {vs:List V} {d:WData} {ds:List WData}:Dw K H v d→DwAll K H vs ds→DwAll K H (v :: vs) (d :: ds)
end
theorem z6s {K:PySem.W.Frag} {H:Hp}:∀ ns:List Int,DwAll K H (ns.map V.int) (ns.map WData.int)
 | []=>.nil
 | n :: r=>.cons (.int n) (z6s r)
theorem z72 {K:PySem.W.Frag} {H:Hp}:∀ (ns:List Int) (xs:List V),DwAll K H xs (ns.map WData.int)→xs=ns.map V.int
 | [],xs,h=>by
  cases h
  rfl
 | n :: r,xs,h=>by
  cases h with
  | cons h1 h2=>
   cases h1
   rw [z72 r _ h2] <;> rfl
section
variable {P:Program} {w:World} {K:PySem.W.Frag} {H:Hp} {h:Heap} {R:PySem.W.WRecords} {cl:Str→Option Addr}
theorem zku {a:Addr} {xs:List V} (hok:HOk P w H h) (KX:K.In h) (q:SqL K H a xs):∃ (its:List Value) (o:Obj) (n:Nat),Vals xs its∧h.get? a=some o∧o.cls = .type "list"∧o.data = .seq its.toArray n:=by
 rcases q with q | ⟨o,its,n,e,hc,_,hd,_,hv⟩
 ·obtain ⟨_,its,n,hv,e⟩:=(show ObjOk P w H h a (.lst xs) from q.ok hok)
  exact ⟨its,_,n,hv,e,rfl,rfl⟩
 ·exact ⟨its.toList,o,n,hv,KX _ _ e,hc,by simp [hd]⟩
theorem zkv {a:Addr} {xs:List V} (hok:HOk P w H h) (KX:K.In h) (q:SqT K H a xs):∃ (its:List Value) (o:Obj) (n:Nat),Vals xs its∧h.get? a=some o∧o.cls = .type "tuple"∧o.data = .seq its.toArray n:=by
 rcases q with q | ⟨o,its,n,e,hc,hd,_,hv⟩
 ·obtain ⟨_,its,hv,o,e,hc,n,hd⟩:=(show ObjOk P w H h a (.tup xs) from q.ok hok)
  exact ⟨its,o,n,hv,e,hc,hd⟩
 ·exact ⟨its.toList,o,n,hv,KX _ _ e,hc,by simp [hd]⟩
mutual
theorem Dw.reads (hok:HOk P w H h) (KX:K.In h):∀ (d:WData) (v:V) (u:Value),Dw K H v d→RelV v u→∃ as,ReadsW R cl h u d as
 | .none,_,_,x,r=>by
  cases x
  cases r
  exact ⟨_,ReadsW.none⟩
 | .bool b,_,_,x,r=>by
  cases x
  cases r
  exact ⟨_,ReadsW.bool b⟩
 | .int i,_,_,x,r=>by
  cases x
  obtain ⟨t,rfl⟩:=r
  exact ⟨_,ReadsW.int i t⟩
 | .str s,_,_,x,r=>by
  cases x
  obtain ⟨t,rfl⟩:=r
  exact ⟨_,ReadsW.str s t⟩
 | .bytes b,_,_,x,r=>by
  cases x
  obtain ⟨t,rfl⟩:=r
  exact ⟨_,ReadsW.bytes _ t⟩
 | .list ds,_,_,x,r=>by
  cases x with
  | lst hs ha=>
   cases r
   obtain ⟨its,o,n,rv,ho,hc,hd⟩:=zku hok KX hs
   obtain ⟨as,hr⟩:=Dw.readsAll hok KX ds _ its ha rv
   exact ⟨_,ReadsW.list ho hc hd hr⟩
 | .tuple ds,_,_,x,r=>by
  cases x with
  | tup hs ha=>
   cases r
   obtain ⟨its,o,n,rv,ho,hc,hd⟩:=zkv hok KX hs
   obtain ⟨as,hr⟩:=Dw.readsAll hok KX ds _ its ha rv
   exact ⟨_,ReadsW.tuple ho hc hd hr⟩
 | .float _,_,_,x,_=>by cases x
 | .dict _,_,_,x,_=>by cases x
 | .bytearray _,_,_,x,_=>by cases x
 | .set _,_,_,x,_=>by cases x
 | .frozenset _,_,_,x,_=>by cases x
 | .obj _ _,_,_,x,_=>by cases x
theorem Dw.readsAll (hok:HOk P w H h) (KX:K.In h):∀ (ds:List WData) (vs:List V) (us:List Value),DwAll K H vs ds→Vals vs us→∃ as,ReadsAllW R cl h us ds as
 | [],_,_,x,r=>by
  cases x
  cases r
  exact ⟨_,ReadsAllW.nil⟩
 | d :: ds,_,_,x,r=>by
  cases x with
  | cons h1 h2=>
   cases r with
   | cons r1 r2=>
    obtain ⟨as,q1⟩:=Dw.reads hok KX d _ _ h1 r1
    obtain ⟨bs,q2⟩:=Dw.readsAll hok KX ds _ _ h2 r2
    exact ⟨_,ReadsAllW.cons q1 q2⟩
end
end
mutual
/-- data that a codec tells -/
def plW:WData→Bool
 | .none=>true
 | .bool _=>true
 | .int _=>true
 | .str _=>true
 | .bytes _=>true
 | .list xs=>ZL xs
 | .tuple xs=>ZL xs
 | _=>false
def ZL:List WData→Bool
 | []=>true
 | x :: r=>plW x && ZL r
end
theorem z86 {α : Type} {f : α→WData} (h:∀ a,plW (f a)=true):∀ l:List α,ZL (l.map f)=true
 | []=>rfl
 | x :: r=>by
  show (plW (f x) && ZL (r.map f))=true
  rw [h x,z86 h r] <;> rfl
theorem j9:∀ (c:Codec) (a:c.denote),plW (c.enc a)=true
 | .unit,_=>rfl
 | .bool,_=>rfl
 | .int _ _,_=>rfl
 | .nat _ _,_=>rfl
 | .u8,_=>rfl
 | .bytes _ _,_=>rfl
 | .text _ _ _ _,_=>rfl
 | .list _ _ c,a=>z86 (fun x=>j9 c x) a
 | .pair c d,a=>by
  show (plW (c.enc a.1) && (plW (d.enc a.2) && true))=true
  rw [j9 c a.1,j9 d a.2] <;> rfl
 | .triple c d e,a=>by
  show (plW (c.enc a.1) && (plW (d.enc a.2.1) && (plW (e.enc a.2.2) && true)))=true
  rw [j9 c a.1,j9 d a.2.1,j9 e a.2.2] <;> rfl
 | .option c,none=>rfl
 | .option c,some x=>j9 c x
theorem z87:∀ (cs:List Codec) (a:Codec.denoteAll cs),ZL (Codec.encAll cs a)=true
 | [],_=>rfl
 | c :: cs,a=>by
  show (plW (c.enc a.1) && ZL (Codec.encAll cs a.2))=true
  rw [j9 c a.1,z87 cs a.2] <;> rfl
theorem z5C:∀ {xs:List WData} {d:WData},d∈xs→d.weight≤WData.weightAll xs
 | [],d,h=>absurd h (by simp)
 | x :: r,d,h=>by
  show d.weight≤x.weight + 1 + WData.weightAll r
  rcases List.mem_cons.mp h with e | m
  ·rw [e]
   omega
  ·have z:=z5C m
   omega
def toV:Value→V
 | .none=>.non
 | .bool b=>.bl b
 | .int i _=>.int i
 | .str x _=>.str x
 | .bytes b _=>.byt b
 | .ref a=>.ref a
 | _=>.non
def OkU (A:List Addr):Value→Prop
 | .none=>True
 | .bool _=>True
 | .int _ _=>True
 | .str _ _=>True
 | .bytes _ _=>True
 | .ref a=>a∈A
 | _=>False
theorem OkU.mono {A B:List Addr} (h:∀ a∈A,a∈B):∀ {u:Value},OkU A u→OkU B u:=fun {u} x=>by
 cases u with
 | ref a=>exact h a x
 | none=>trivial
 | bool b=>trivial
 | int i t=>trivial
 | str s t=>trivial
 | bytes b t=>trivial
 | _=>exact False.elim x
theorem zjF {A:List Addr} {u:Value} (x:OkU A u):RelV (toV u) u:=by
 cases u with
 | ref a=>rfl
 | none=>rfl
 | bool b=>rfl
 | int i t=>exact ⟨t,rfl⟩
 | str s t=>exact ⟨t,rfl⟩
 | bytes b t=>exact ⟨t,rfl⟩
 | _=>exact False.elim x
theorem z0i {A:List Addr}:∀ {vs:List Value},(∀ u∈vs,OkU A u)→Vals (vs.map toV) vs
 | [],_=>.nil
 | u :: r,h=>.cons (zjF (h u (List.mem_cons_self ..))) (z0i fun x hx=>h x (List.mem_cons_of_mem _ hx))
def ArgOb (h:Heap) (A:List Addr) (a:Addr):Prop:=∃ vs:List Value,vs.length≤sizeLine∧(∀ u∈vs,OkU A u) ∧
 (h.get? a=some { cls:=.type "list",data:=.seq vs.toArray }∨h.get? a=some { cls:=.type "tuple",data:=.seq vs.toArray })
theorem ArgOb.mono {h:Heap} {A B:List Addr} {a:Addr} (k:∀ a∈A,a∈B) (x:ArgOb h A a):ArgOb h B a:=by
 obtain ⟨vs,h1,h2,h3⟩:=x
 exact ⟨vs,h1,fun u hu=>(h2 u hu).mono k,h3⟩
theorem z2k {P:Params} {h:Heap}:∀ {vs:List Value} {ds:List WData},WellAll P h vs ds→vs.length=ds.length
 | _,_,.nil=>rfl
 | _,_,.cons _ b=>by
  show _ + 1=_ + 1
  rw [z2k b]
theorem zby {P:Params} {h:Heap} {v:Value} {ds:List WData} (x:Well P h v (.list ds)):∃ (a:Addr) (vs:List Value),v = .ref a∧h.get? a=some { cls:=.type "list",data:=.seq vs.toArray }∧WellAll P h vs ds:=by
 cases x with
 | list ho hall=>exact ⟨_,_,rfl,ho,hall⟩
theorem zbz {P:Params} {h:Heap} {v:Value} {ds:List WData} (x:Well P h v (.tuple ds)):∃ (a:Addr) (vs:List Value),v = .ref a∧h.get? a=some { cls:=.type "tuple",data:=.seq vs.toArray }∧WellAll P h vs ds:=by
 cases x with
 | tuple ho hall=>exact ⟨_,_,rfl,ho,hall⟩
theorem zbx {P:Params} {h:Heap} {us:List Value} {d:WData} {ds:List WData} (x:WellAll P h us (d :: ds)):∃ (v:Value) (vs:List Value),us=v :: vs∧Well P h v d∧WellAll P h vs ds:=by
 cases x with
 | cons a b=>exact ⟨_,_,rfl,a,b⟩
theorem z7d {n:Nat} (h:n≤1048576):n≤sizeLine:=Nat.le_trans h (by decide)
section
variable {P:Params} {h:Heap}
mutual
theorem zc7:∀ (d:WData) (v:Value),Well P h v d→plW d=true→d.weight≤1048576→∃ A:List Addr,OkU A v∧∀ a∈A,ArgOb h A a
 | .none,_,x,_,_=>by
  cases x
  exact ⟨[],trivial,fun a m=>absurd m (by simp)⟩
 | .bool b,_,x,_,_=>by
  cases x
  exact ⟨[],trivial,fun a m=>absurd m (by simp)⟩
 | .int i,_,x,_,_=>by
  cases x
  exact ⟨[],trivial,fun a m=>absurd m (by simp)⟩
 | .str s,_,x,_,_=>by
  cases x
  exact ⟨[],trivial,fun a m=>absurd m (by simp)⟩
 | .bytes b,_,x,_,_=>by
  cases x
  exact ⟨[],trivial,fun a m=>absurd m (by simp)⟩
 | .list ds,_,x,p,z=>by
  obtain ⟨a,vs,rfl,ho,hall⟩:=zby x
  have z2:WData.weightAll ds≤1048576:=z
  obtain ⟨A,h1,h2⟩:=z12 ds _ hall p fun d hd=>Nat.le_trans (z5C hd) z2
  have k:∀ b∈A,b∈a :: A:=fun b hb=>List.mem_cons_of_mem _ hb
  refine ⟨a :: A,List.mem_cons_self ..,fun b hb=>?_⟩
  rcases List.mem_cons.mp hb with e | m
  ·rw [e]
   exact ⟨vs,z7d (by rw [z2k hall];exact Nat.le_trans (PySem.W.length_le_weightAllW ds) z2),fun u hu=>(h1 u hu).mono k,.inl ho⟩
  ·exact (h2 b m).mono k
 | .tuple ds,_,x,p,z=>by
  obtain ⟨a,vs,rfl,ho,hall⟩:=zbz x
  have z2:WData.weightAll ds≤1048576:=z
  obtain ⟨A,h1,h2⟩:=z12 ds _ hall p fun d hd=>Nat.le_trans (z5C hd) z2
  have k:∀ b∈A,b∈a :: A:=fun b hb=>List.mem_cons_of_mem _ hb
  refine ⟨a :: A,List.mem_cons_self ..,fun b hb=>?_⟩
  rcases List.mem_cons.mp hb with e | m
  ·rw [e]
   exact ⟨vs,z7d (by rw [z2k hall];exact Nat.le_trans (PySem.W.length_le_weightAllW ds) z2),fun u hu=>(h1 u hu).mono k,.inr ho⟩
  ·exact (h2 b m).mono k
 | .float _,_,_,p,_=>Bool.noConfusion (show false=true from p)
 | .dict _,_,_,p,_=>Bool.noConfusion (show false=true from p)
 | .bytearray _,_,_,p,_=>Bool.noConfusion (show false=true from p)
 | .set _,_,_,p,_=>Bool.noConfusion (show false=true from p)
 | .frozenset _,_,_,p,_=>Bool.noConfusion (show false=true from p)
 | .obj _ _,_,_,p,_=>Bool.noConfusion (show false=true from p)
theorem z12:∀ (ds:List WData) (vs:List Value),WellAll P h vs ds→ZL ds=true→(∀ d∈ds,d.weight≤1048576)→∃ A:List Addr,(∀ u∈vs,OkU A u)∧∀ a∈A,ArgOb h A a
 | [],_,x,_,_=>by
  cases x
  exact ⟨[],fun u m=>absurd m (by simp),fun a m=>absurd m (by simp)⟩
 | d :: ds,_,x,p,z=>by
  obtain ⟨v,vs,rfl,x1,x2⟩:=zbx x
  have q:plW d=true∧ZL ds=true:=Bool.and_eq_true_iff.mp p
  obtain ⟨A,a1,a2⟩:=zc7 d v x1 q.1 (z d (List.mem_cons_self ..))
  obtain ⟨B,b1,b2⟩:=z12 ds vs x2 q.2 fun e he=>z e (List.mem_cons_of_mem _ he)
  have kA:∀ b∈A,b∈A ++ B:=fun b hb=>List.mem_append.mpr (.inl hb)
  have kB:∀ b∈B,b∈A ++ B:=fun b hb=>List.mem_append.mpr (.inr hb)
  refine ⟨A ++ B,fun u hu=>?_,fun b hb=>?_⟩
  ·rcases List.mem_cons.mp hu with e | m
   ·rw [e]
    exact a1.mono kA
   ·exact (b1 u m).mono kB
  ·rcases List.mem_append.mp hb with m | m
   ·exact (a2 b m).mono kA
   ·exact (b2 b m).mono kB
end
end
def z1o (o:Obj):Option HO:=match o.data with
 | .seq vs _=>if (o.cls == Value.type "list")=true then some (.frz o (.lst (vs.toList.map toV))) else some (.frz o (.tup (vs.toList.map toV)))
 | _=>none
def yH (K:PySem.W.Frag) (h:Heap) (A:List Addr):Hp:=fun b=>if b∈A then (if (K.lookup b).isNone=true then (h.get? b).bind z1o else none) else none
def z0k (H:Hp):Prop:=∀ b,H b=none∨∃ o u,H b=some (.frz o u)
theorem z6P (vs:List Value):z1o { cls:=.type "list",data:=.seq vs.toArray }=some (.frz { cls:=.type "list",data:=.seq vs.toArray } (.lst (vs.map toV))):=by
 show (if (Value.type "list" == Value.type "list")=true then some (HO.frz { cls:=.type "list",data:=.seq vs.toArray } (.lst (vs.toArray.toList.map toV))) else some (HO.frz { cls:=.type "list",data:=.seq vs.toArray } (.tup (vs.toArray.toList.map toV))))=_
 rw [if_pos (beq_self_eq_true _)]
theorem z6Q (vs:List Value):z1o { cls:=.type "tuple",data:=.seq vs.toArray }=some (.frz { cls:=.type "tuple",data:=.seq vs.toArray } (.tup (vs.map toV))):=by
 show (if (Value.type "tuple" == Value.type "list")=true then some (HO.frz { cls:=.type "tuple",data:=.seq vs.toArray } (.lst (vs.toArray.toList.map toV))) else some (HO.frz { cls:=.type "tuple",data:=.seq vs.toArray } (.tup (vs.toArray.toList.map toV))))=_
 rw [if_neg (by decide)]
section
variable {P:Program} {w:World} {K:PySem.W.Frag} {h:Heap} {A:List Addr}
theorem z13 {b:Addr} {o:Obj} (hb:b∈A) (hk:K.lookup b=none) (e:h.get? b=some o):yH K h A b=z1o o:=by
 unfold yH
 rw [if_pos hb,hk,if_pos (show (none:Option Obj).isNone=true from rfl),e] <;> rfl
theorem zgC {b:Addr} {u:HO} (q:yH K h A b=some u):b∈A∧K.lookup b=none:=by
 unfold yH at q
 by_cases hb:b∈A
 ·rw [if_pos hb] at q
  cases hk:K.lookup b with
  | none=>exact ⟨hb,rfl⟩
  | some o=>
   rw [hk,if_neg (by simp)] at q
   cases q
 ·rw [if_neg hb] at q
  cases q
theorem z14 (ar:∀ a∈A,ArgOb h A a) {b:Addr} {u:HO} (q:yH K h A b=some u):K.lookup b=none∧∃ vs:List Value,vs.length≤sizeLine∧(∀ u∈vs,OkU A u) ∧
  ((h.get? b=some { cls:=.type "list",data:=.seq vs.toArray }∧u = .frz { cls:=.type "list",data:=.seq vs.toArray } (.lst (vs.map toV))) ∨
   (h.get? b=some { cls:=.type "tuple",data:=.seq vs.toArray }∧u = .frz { cls:=.type "tuple",data:=.seq vs.toArray } (.tup (vs.map toV)))):=by
 obtain ⟨hb,hk⟩:=zgC q
 obtain ⟨vs,h1,h2,h3⟩:=ar b hb
 refine ⟨hk,vs,h1,h2,?_⟩
 rcases h3 with e | e
 ·rw [z13 hb hk e,z6P] at q
  exact .inl ⟨e,(Option.some.inj q).symm⟩
 ·rw [z13 hb hk e,z6Q] at q
  exact .inr ⟨e,(Option.some.inj q).symm⟩
theorem zc9 (ar:∀ a∈A,ArgOb h A a):z0k (yH K h A):=fun b=>by
 cases q:yH K h A b with
 | none=>exact .inl rfl
 | some u=>
  obtain ⟨_,vs,_,_,⟨_,e⟩ | ⟨_,e⟩⟩:=z14 ar q
  ·exact .inr ⟨_,_,by rw [e]⟩
  ·exact .inr ⟨_,_,by rw [e]⟩
theorem zc8 (ar:∀ a∈A,ArgOb h A a):HOk P w (yH K h A) h:=fun b u q=>by
 obtain ⟨_,vs,h1,h2,⟨e,rfl⟩ | ⟨e,rfl⟩⟩:=z14 ar q
 ·exact ⟨e,by rw [List.length_map];exact h1,vs,_,z0i h2,e⟩
 ·exact ⟨e,by rw [List.length_map];exact h1,vs,z0i h2,_,e,rfl,_,rfl⟩
theorem z21 {c c':Value} {vs us:List Value} (e:(some { cls:=c,data:=.seq vs.toArray }:Option Obj)=some { cls:=c',data:=.seq us.toArray }):c=c'∧vs=us:=by
 have e1:=Option.some.inj e
 have e2:c=c':=congrArg Obj.cls e1
 have e3:Data.seq vs.toArray=Data.seq us.toArray:=congrArg Obj.data e1
 injection e3 with e4
 refine ⟨e2,?_⟩
 have e5:=congrArg Array.toList e4
 simpa using e5
theorem zca (KX:K.In h) (ar:∀ a∈A,ArgOb h A a) {a:Addr} {vs:List Value} (ha:a∈A) (e:h.get? a=some { cls:=.type "list",data:=.seq vs.toArray }):(∀ u∈vs,OkU A u)∧SqL K (yH K h A) a (vs.map toV):=by
 obtain ⟨us,h1,h2,h3⟩:=ar a ha
 have hu:us=vs:=by
  rcases h3 with q | q
  ·rw [e] at q
   exact (z21 q).2.symm
  ·rw [e] at q
   exact absurd (Value.type.inj (z21 q).1) (by decide)
 subst hu
 refine ⟨h2,?_⟩
 cases hk:K.lookup a with
 | none=>exact .inl (.inr ⟨_,by rw [z13 ha hk e,z6P]⟩)
 | some o=>
  have e2:=KX a o hk
  rw [e] at e2
  obtain rfl:=Option.some.inj e2
  exact .inr ⟨_,us.toArray,_,hk,rfl,rfl,rfl,by rw [List.size_toArray];exact h1,by simpa using z0i h2⟩
theorem zcb (KX:K.In h) (ar:∀ a∈A,ArgOb h A a) {a:Addr} {vs:List Value} (ha:a∈A) (e:h.get? a=some { cls:=.type "tuple",data:=.seq vs.toArray }):(∀ u∈vs,OkU A u)∧SqT K (yH K h A) a (vs.map toV):=by
 obtain ⟨us,h1,h2,h3⟩:=ar a ha
 have hu:us=vs:=by
  rcases h3 with q | q
  ·rw [e] at q
   exact absurd (Value.type.inj (z21 q).1) (by decide)
  ·rw [e] at q
   exact (z21 q).2.symm
 subst hu
 refine ⟨h2,?_⟩
 cases hk:K.lookup a with
 | none=>exact .inl (.inr ⟨_,by rw [z13 ha hk e,z6Q]⟩)
 | some o=>
  have e2:=KX a o hk
  rw [e] at e2
  obtain rfl:=Option.some.inj e2
  exact .inr ⟨_,us.toArray,_,hk,rfl,rfl,by rw [List.size_toArray];exact h1,by simpa using z0i h2⟩
mutual
theorem zd2 {Pm:Params} (KX:K.In h) (ar:∀ a∈A,ArgOb h A a):∀ (d:WData) (v:Value),Well Pm h v d→plW d=true→OkU A v→Dw K (yH K h A) (toV v) d
 | .none,_,x,_,_=>by
  cases x
  exact .non
 | .bool b,_,x,_,_=>by
  cases x
  exact .bl b
 | .int i,_,x,_,_=>by
  cases x
  exact .int i
 | .str s,_,x,_,_=>by
  cases x
  exact .str s
 | .bytes b,_,x,_,_=>by
  cases x
  have z:=Dw.byt (K:=K) (H:=yH K h A) b.toArray
  exact z
 | .list ds,_,x,p,hu=>by
  obtain ⟨a,vs,rfl,ho,hall⟩:=zby x
  obtain ⟨h2,hs⟩:=zca KX ar hu ho
  exact .lst hs (z1c KX ar ds _ hall p h2)
 | .tuple ds,_,x,p,hu=>by
  obtain ⟨a,vs,rfl,ho,hall⟩:=zbz x
  obtain ⟨h2,hs⟩:=zcb KX ar hu ho
  exact .tup hs (z1c KX ar ds _ hall p h2)
 | .float _,_,_,p,_=>Bool.noConfusion (show false=true from p)
 | .dict _,_,_,p,_=>Bool.noConfusion (show false=true from p)
 | .bytearray _,_,_,p,_=>Bool.noConfusion (show false=true from p)
 | .set _,_,_,p,_=>Bool.noConfusion (show false=true from p)
 | .frozenset _,_,_,p,_=>Bool.noConfusion (show false=true from p)
 | .obj _ _,_,_,p,_=>Bool.noConfusion (show false=true from p)
theorem z1c {Pm:Params} (KX:K.In h) (ar:∀ a∈A,ArgOb h A a):∀ (ds:List WData) (vs:List Value),WellAll Pm h vs ds→ZL ds=true→(∀ u∈vs,OkU A u)→DwAll K (yH K h A) (vs.map toV) ds
 | [],_,x,_,_=>by
  cases x
  exact .nil
 | d :: ds,_,x,p,hu=>by
  obtain ⟨v,vs,rfl,x1,x2⟩:=zbx x
  have q:plW d=true∧ZL ds=true:=Bool.and_eq_true_iff.mp p
  exact .cons (zd2 KX ar d v x1 q.1 (hu _ (List.mem_cons_self ..))) (z1c KX ar ds vs x2 q.2 fun u m=>hu u (List.mem_cons_of_mem _ m))
end
end
theorem zkt {P:Program} {w:World} {K:PySem.W.Frag} {mg mb:Str→Option Value} {CX:CXT} {k:Nat} {fa:Addr} {fd:FuncData} {ps:List Str} {sp:Sp} {s₁ : Shared} {vals:List Value} {ds:List WData} {R:PySem.W.WRecords} {cl:Str→Option Addr} {d0:WData}
  (KX:K.In s₁.heap) (hns:s₁.heap.Ns mainGlobals mg) (hb:s₁.heap.Ns builtinsNs mb) (hbb:∀ x:Str,x≠"__name__"→mb x=bootBuiltins x) (hlim:s₁.heap.NoLimit) (hg:s₁.gens = #[])
  (hwl:WellAll w.params s₁.heap vals ds) (hpl:ZL ds=true) (hwt:∀ d∈ds,d.weight≤1048576) (hr:Room k callerA)
  (F:∀ base:Heap,K.In base→base.Ns mainGlobals mg→FnOk P w K mg base CX k fa fd ps sp) (hbind:∀ (s:Shared) (us:List Value),us.length=ps.length→BindsTo s fd ⟨us,[]⟩ (ps.zip us)) (hlen:ds.length=ps.length)
  (hsp:∀ (H:Hp) (xs:List V),z0k H→DwAll K H xs ds→sp xs H (fun v H'=>Dw K H' v d0) fun _ _ _=>False)
  (hCX:∀ H e s',CX [] H s₁ (fun _ _ _=>False) e s'→False) :
  codeAny (model P w) callerA (.call (.ref fa) ⟨vals,[]⟩) (fun r s'=>∃ u as,r = .ok (.ret u)∧ReadsW R cl s'.heap u d0 as∧OldK s₁.heap s'.heap∧s'.os=s₁.os∧AllBare s'.gens) s₁:=by
 obtain ⟨A,ho,ar⟩:=z12 ds vals hwl hpl hwt
 have hO:z0k (yH K s₁.heap A):=zc9 ar
 have hok:HOk P w (yH K s₁.heap A) s₁.heap:=zc8 ar
 have hS:=z1c KX ar ds vals hwl hpl ho
 have hV:=z0i ho
 have hK:∀ b u,yH K s₁.heap A b=some u→K.lookup b=none:=fun b u q=>(z14 ar q).1
 have noA:∀ {b:Addr} {o:Obj} {es:Array DictEntry} {ep:Nat},s₁.heap.get? b=some o→o.data = .dict es ep→yH K s₁.heap A b=none:=fun {b o es ep} e d=>by
  cases q:yH K s₁.heap A b with
  | none=>rfl
  | some u=>
   obtain ⟨_,vs,_,_,⟨e2,_⟩ | ⟨e2,_⟩⟩:=z14 ar q
   ·rw [e2] at e
    cases e
    have d':Data.seq vs.toArray _=Data.dict es ep:=d
    cases d'
   ·rw [e2] at e
    cases e
    have d':Data.seq vs.toArray _=Data.dict es ep:=d
    cases d'
 generalize yH K s₁.heap A=H at hO hok hS hK noA
 have base_of:∀ {b:Addr} {o:Obj},s₁.heap.get? b=some o→H b=none→(Yv s₁.heap H).get? b=some o:=fun e n=>ze1 e n
 have nsK:∀ {b:Addr} {m:Str→Option Value},s₁.heap.Ns b m→(Yv s₁.heap H).Ns b m:=fun {b m} ⟨o,es,ep,e,d,r⟩=>⟨o,es,ep,base_of e (noA e d),d,r⟩
 have nK:∀ b o,K.lookup b=some o→H b=none:=fun b o e=>by
  cases q:H b with
  | none=>rfl
  | some u=>
   rw [hK b u q] at e
   cases e
 have hKb:K.In (Yv s₁.heap H):=fun b o e=>base_of (KX b o e) (nK b o e)
 have hM:Mod K mg (Yv s₁.heap H):=⟨hKb,nsK hns,⟨mb,nsK hb,hbb⟩,let ⟨mc,h1,h2⟩:=hlim;⟨mc,nsK h1,h2⟩⟩
 have e0:Env0 P w K mg (Yv s₁.heap H) callerA [] s₁ H:=⟨rfl,hM,fun b o e=>zgD e,Nat.le_of_eq (ze2 _ _),trivial,fun b hb=>absurd (show b∈([]:List Addr) from hb) (by simp),hok,.of_eq hg⟩
 have hl:vals.length=ps.length:=by rw [z2k hwl];exact hlen
 refine codeAny_mono ((F _ hKb (nsK hns)).run callerA [] s₁ H ⟨vals,[]⟩ vals (vals.map toV) _ _ hr e0 (hbind s₁ vals hl) hV (hsp H _ hO hS)) fun r s' x=>?_
 cases r with
 | error e=>exact (hCX H e s' x).elim
 | ok fl=>
  cases fl with
  | next=>exact False.elim x
  | brk=>exact False.elim x
  | cont=>exact False.elim x
  | ret u=>
   obtain ⟨v,H',os,bare,un,hok',r',q⟩:=x
   have kept:∀ b o,s₁.heap.get? b=some o→s'.heap.get? b=some o:=fun b o e=>by
    cases q2:H b with
    | none=>exact un.keep b o e q2 (by intro z;exact absurd (show b∈([]:List Addr) from z) (by simp)) (by simp)
    | some u2=>
     rcases hO b with z | ⟨ob,u3,z⟩
     ·rw [q2] at z
      cases z
     ·have z2:=un.frzs b ob _ z
      obtain ⟨e1,_⟩:=hok b _ z
      obtain ⟨e2,_⟩:=hok' b _ z2
      rw [e] at e1
      cases e1
      exact e2
   have KX':K.In s'.heap:=fun b o e=>kept b o (KX b o e)
   obtain ⟨as,hrd⟩:=Dw.reads (R:=R) (cl:=cl) hok' KX' d0 v u q r'
   exact ⟨u,as,rfl,hrd,OldK.of_keep kept,os,bare⟩
theorem zfc {ds:List WData} (h:WData.layableAll ds=true):∀ d∈ds,d.weight≤1048576:=fun d hd=>
 (PySem.W.layableW_iff.mp (List.all_eq_true.mp h d hd)).2.2
theorem z6t:∀ (cs:List Codec) (a:Codec.denoteAll cs),(Codec.encAll cs a).length=cs.length
 | [],_=>rfl
 | c :: cs,a=>by
  show (Codec.encAll cs a.2).length + 1=cs.length + 1
  rw [z6t cs a.2]
theorem zma {r:OpenSpec} {k:Nat} {q:Program} {loose:List Str} {XP:(Str→Option Value)→Heap→Prop} {YP:World→Heap→Prop} {d:DefRec} {K:Params→PySem.W.Frag} {CX:World→CXT} {ps:List Str} {sp:World→Sp}
  (hwell:r.wellSaid=true) (hdf:d.params.defaults=[]) (hlen:r.args.length=ps.length) (hr:Room k callerA)
  (hY:∀ (w:World) (h:Heap),YP w h→(K w.params).In h)
  (F:∀ (w:World) (mg:Str→Option Value) (fa:Addr) (h:Heap),YP w h→(K w.params).In h→h.Ns mainGlobals mg→mg d.name=some (.ref fa) →
   ∃ fd:FuncData,(∀ (s:Shared) (us:List Value),us.length=ps.length→BindsTo s fd ⟨us,[]⟩ (ps.zip us)) ∧
    ∀ base:Heap,(K w.params).In base→base.Ns mainGlobals mg→FnOk r.prog w (K w.params) mg base (CX w) k fa fd ps (sp w))
  (hsp:∀ (w:World) (H:Hp) (xs:List V) (a:Codec.denoteAll r.args),z0k H→Codec.withinAll r.args a=true→Codec.app r.args r.asked a=true→DwAll (K w.params) H xs (Codec.encAll r.args a) →
   sp w xs H (fun v H'=>Dw (K w.params) H' v (r.ret.enc (Codec.app r.args r.f a))) fun _ _ _=>False)
  (hCX:∀ (w:World) (H:Hp) (s:Shared) (e:Value) (s':Shared),CX w [] H s (fun _ _ _=>False) e s'→False) :
  PySem.W.WalkOS q loose XP YP r d [] (fun f vs=>PySem.call f vs):=by
 intro w s_0 s₁ mg mb G Y fa o pm cd doc dV kV ho hd hcd hD hmg hg args vals as hpre hlay hrd hwl hlo
 obtain ⟨a,e1,e2⟩:=PySem.W.os_pre_some hpre
 obtain ⟨e3,hwi⟩:=Codec.encAll_of_decAll r.args args a e1
 subst e3
 have KX:=hY w _ Y
 obtain ⟨fd,hb,hF⟩:=F w mg fa _ Y KX G.T.g hmg
 refine PySem.W.enter_call (codeAny_mono (zkt (R:=[]) (cl:=classAt s_0.heap) (d0:=r.ret.enc (Codec.app r.args r.f a)) KX G.T.g G.T.b G.T.builtins G.T.nolimit hg hwl (z87 _ _) (zfc hlay) hr hF hb (by rw [z6t];exact hlen)
  (fun H xs hO hS=>hsp w H xs a hO hwi e2 hS) fun H e s'=>hCX w H s₁ e s') fun r' s' hq=>?_)
 obtain ⟨u,as',rfl,h1,h2,h3,h4⟩:=hq
 exact ⟨.inl ⟨u,_,as',rfl,fun _=>rfl,h1,(OpenSpec.post_iff hwell hwi _ _).mpr rfl,fun z=>Bool.noConfusion (show false=true from z)⟩,h2,h3,h4⟩
theorem zmb {r:OpenSpec} {k:Nat} {q:Program} {loose:List Str} {XP:(Str→Option Value)→Heap→Prop} {YP:World→Heap→Prop} {d:DefRec} {K:Params→PySem.W.Frag} {CX:CXT} {ps:List Str} {sp:PySem.W.Frag→Sp}
  (hwell:r.wellSaid=true) (hdf:d.params.defaults=[]) (hlen:r.args.length=ps.length) (hr:Room k callerA)
  (hY:∀ (w:World) (h:Heap),YP w h→(K w.params).In h)
  (F:∀ (w:World) (mg:Str→Option Value) (fa:Addr) (h:Heap),YP w h→(K w.params).In h→h.Ns mainGlobals mg→mg d.name=some (.ref fa) →
   ∃ fd:FuncData,(∀ (s:Shared) (us:List Value),us.length=ps.length→BindsTo s fd ⟨us,[]⟩ (ps.zip us)) ∧
    ∀ base:Heap,(K w.params).In base→base.Ns mainGlobals mg→FnOk r.prog w (K w.params) mg base CX k fa fd ps (sp (K w.params)))
  (hsp:∀ (K:PySem.W.Frag) (H:Hp) (xs:List V) (a:Codec.denoteAll r.args),z0k H→Codec.withinAll r.args a=true→Codec.app r.args r.asked a=true→DwAll K H xs (Codec.encAll r.args a) →
   sp K xs H (fun v H'=>Dw K H' v (r.ret.enc (Codec.app r.args r.f a))) fun _ _ _=>False)
  (hCX:∀ (H:Hp) (s:Shared) (e:Value) (s':Shared),CX [] H s (fun _ _ _=>False) e s'→False) :
  PySem.W.WalkOS q loose XP YP r d [] (fun f vs=>PySem.call f vs) :=
 zma (K:=K) (CX:=fun _=>CX) (sp:=fun w=>sp (K w.params)) hwell hdf hlen hr hY F (fun w H xs a h1 h2 h3 h4=>hsp (K w.params) H xs a h1 h2 h3 h4) fun _ H s e s'=>hCX H s e s'
end L2
end
section
namespace L2
open PySem PySem.Spec PyProof.Rows
def ZU (s:Stmt) (j:Nat):Stmt:=match s with
 | .ClassDef _ _ _ body _ _ _ _ _ _ _=>body.getD j (.Pass ⟨0,0,0,0⟩)
 | _=>.Pass ⟨0,0,0,0⟩
def ji (s:Stmt):Arguments:=match s with
 | .FunctionDef _ a _ _ _ _ _ _ _ _=>a
 | _=>{ posonlyargs:=[],args:=[],vararg:=none,kwonlyargs:=[],kw_defaults:=[],kwarg:=none,defaults:=[] }
def Yp (s:Stmt):List Stmt:=match s with
 | .FunctionDef _ _ b _ _ _ _ _ _ _=>b
 | _=>[]
def zl (s:Stmt):Scope:=match s with
 | .FunctionDef _ _ _ _ _ _ sc _ _ _=>sc
 | _=>{ kind:=.function,names:=[],isGenerator:=false,isCoroutine:=false }
abbrev CX0:CXT:=fun _ _ _ _ _ _=>False
abbrev E0:XK:=fun _ _ _=>False
theorem z0L {X:Cx}:YG CX0 X E0:=fun _ _ _ _ _ _ _ h=>h.elim
structure Fun (K:PySem.W.Frag) (x qual:Str) (st:Stmt) (f:Addr) (fd:FuncData):Prop where
 ex:∃ (oc:Value) (od:Option Addr) (kV doc pm:Value) (an:Option Addr) (cdv ct:Value) (osl:Array (Option Value)),
  fd=PySem.W.fnOf x qual (ji st) (Yp st) (zl st) .none kV doc pm an cdv ct∧K.lookup f=some ⟨oc,od,.func fd,osl⟩∧PySem.W.codeIn K cdv qual=true
 kp:PySem.W.keepIn K (.ref f)=true
section
variable {P:Program} {w:World} {K:PySem.W.Frag} {mg:Str→Option Value} {base:Heap}
theorem Fun.ok {x qual:Str} {st:Stmt} {f:Addr} {fd:FuncData} {N ps:List Str} {k:Nat} {sp:Sp} (F:Fun K x qual st f fd) (S:FnScope N ps (zl st)) (len:∀ vs H Q E,sp vs H Q E→vs.length=ps.length)
  (hbody:∀ (cdv:Value) (A:Around) (outer:List Env) (s:Shared) (H:Hp) (vs:List V) (Q:VK) (E:XK),Room k (A.deeper (envOfC qual (zl st) s.heap.objs.size f cdv))→sp vs H Q E →
   ∃ t,PSs (jh CX0 P w K mg base N qual (zl st) f cdv A outer s H E).nox (Yp st) t∧t { nx:=fun _ H'=>Q .non H',rt:=Q } (start N vs) H):FnOk P w K mg base CX0 (k + 1) f fd ps sp:=by
 obtain ⟨oc,od,kV,doc,pm,an,cdv,ct,osl,rfl,lk,hcd⟩:=F.ex
 refine zd7 lk hcd S len fun A outer s H vs Q E hr hsp=>?_
 obtain ⟨t,h,q⟩:=hbody cdv A outer s H vs Q E hr hsp
 exact ⟨t,h.nox,q⟩
theorem Fun.binds {x qual:Str} {st:Stmt} {f:Addr} {fd:FuncData} {ps:List Str} (F:Fun K x qual st f fd)
  (h:∀ (kV doc pm:Value) (an:Option Addr) (cdv ct:Value) (us:List Value),us.length=ps.length→bindArgs (PySem.W.fnOf x qual (ji st) (Yp st) (zl st) .none kV doc pm an cdv ct) ⟨us,[]⟩=pure (ps.zip us)):Binds K fd ps []:=by
 obtain ⟨oc,od,kV,doc,pm,an,cdv,ct,osl,rfl,lk,hcd⟩:=F.ex
 exact .all (h kV doc pm an cdv ct)
theorem zdb {x qual:Str} {st:Stmt} {f:Addr} {oc:Value} {od an:Option Addr} {osl:Array (Option Value)} {kV doc pm cdv ct:Value} (l:K.lookup f=some ⟨oc,od,.func (PySem.W.fnOf x qual (ji st) (Yp st) (zl st) .none kV doc pm an cdv ct),osl⟩)
  (c:PySem.W.codeIn K cdv qual=true) (k:PySem.W.keepIn K (.ref f)=true):Fun K x qual st f (PySem.W.fnOf x qual (ji st) (Yp st) (zl st) .none kV doc pm an cdv ct):=⟨⟨oc,od,kV,doc,pm,an,cdv,ct,osl,rfl,l,c⟩,k⟩
end
theorem yQ {A:Around} {k:Nat} (hr:Room k A):A.units + 1 < cLine:=Nat.lt_of_le_of_lt (Nat.add_le_add_left (by decide:1≤64) _) hr.units
section
variable {X:Cx}
theorem pv (i:Nat) {x:Str} {pos:Pos} (hN:X.N[i]?=some x:=by rfl) (hv:Vis X.env.scope x:=by first | exact Or.inl rfl | exact Or.inr (Or.inl rfl) | exact Or.inr (Or.inr rfl)) (hd:(x == ("__debug__" : Str))=false:=by decide)
  (hcd:(x == ("__classdict__" : Str))=false:=by decide):PE X (.Name x pos) (yg i):=zib hN hv hd hcd
theorem zct:Z7 X (.builtin "len") (fun xs H Q=>∃ a kvs,xs=[V.ref a]∧H a=some (.dK kvs)∧Q (.int kvs.length) H):=by
 intro pins s σ H xs us Q I r h
 obtain ⟨a,kvs,rfl,ha,q⟩:=h
 obtain ⟨u,rfl,ru⟩:=jR r
 cases ru
 exact zcS I (.inl ha) fun t s' I'=>⟨.int kvs.length,H,I',⟨t,rfl⟩,q⟩
end
def Same (H H':Hp):Prop:=∀ b o,H b=some o→H' b=some o
theorem Same.refl (H:Hp):Same H H:=fun _ _ h=>h
theorem Same.trans {H H1 H2:Hp} (a:Same H H1) (b:Same H1 H2):Same H H2:=fun c o h=>b c o (a c o h)
theorem Same.free {H H':Hp} (e:Same H H') {l:Addr} (h:H' l=Option.none):H l=Option.none:=by
 cases q:H l with
 | none=>rfl
 | some o=>
  rw [e l o q] at h
  cases h
theorem Same.seq {K:PySem.W.Frag} {H H':Hp} {a:Addr} {xs:List V} (e:Same H H') (h:SqL K H a xs):SqL K H' a xs:=by
 rcases h with (h | ⟨o,h⟩) | h
 ·exact .inl (.inl (e _ _ h))
 ·exact .inl (.inr ⟨o,e _ _ h⟩)
 ·exact .inr h
theorem z5X {xs:List V} {z:Int} {j:Nat} {v:V} (e:z=(j:Int)) (h:xs[j]?=some v):atI xs z=some v:=by
 rw [e]
 exact zcd h
theorem zb0:∀ {l:List Int} {i:Nat} {z:Int},l[i]?=some z→(l.take (i + 1)).sum=(l.take i).sum + z
 | [],i,z,h=>by simp at h
 | a :: r,0,z,h=>by
  have e:a=z:=Option.some.inj h
  subst e
  show ([a]:List Int).sum=([]:List Int).sum + a
  rw [List.sum_cons]
  exact Int.add_comm _ _
 | a :: r,i + 1,z,h=>by
  have ih:=zb0 (l:=r) (i:=i) (z:=z) h
  show (a :: r.take (i + 1)).sum=(a :: r.take i).sum + z
  rw [List.sum_cons,List.sum_cons,ih]
  omega
theorem Same.made {H H1:Hp} {x dx C:Addr} (nx:H x=Option.none) (nd:H dx=Option.none) (k:∀ b o,(upd (upd H dx (.own x)) x (.ins C dx [])) b=some o→b≠x→H1 b=some o):Same H H1:=fun b o e=>
 k b o (by rw [z6 (zd e nx),z6 (zd e nd)];exact e) (zd e nx)
end L2
end
namespace Hx
open Vbchaa
noncomputable def lv (l:List Lots) (a c:Nat):Int:=match l.find? fun x=>x.account == a && x.contract == c with
 | some x=>x.lots
 | none=>0
theorem z7m (s:State) (a c:Nat):lotsOf s a c=lv s.lots a c:=rfl
theorem z7p (a c:Nat):lv [] a c=0:=rfl
theorem ZJ (x:Lots) (l:List Lots) (a c:Nat):lv (x :: l) a c=if x.account=a∧x.contract=c then x.lots else lv l a c:=by
 unfold lv
 rw [List.find?_cons]
 by_cases h:x.account=a∧x.contract=c
 ·rw [if_pos h];simp [h.1,h.2]
 ·rw [if_neg h]
  have e:(x.account == a && x.contract == c)=false:=by
   cases hb:(x.account == a && x.contract == c) with
   | false=>rfl
   | true=>
    rw [Bool.and_eq_true] at hb
    exact absurd ⟨eq_of_beq hb.1,eq_of_beq hb.2⟩ h
  rw [e]
theorem z4a (a c:Nat):∀ (l:List Lots) (a' c':Nat),lv (l.filter fun x=>!(x.account == a && x.contract == c)) a' c'=if a'=a∧c'=c then 0 else lv l a' c'
 | [],a',c'=>by simp [z7p]
 | x :: l,a',c'=>by
  have ih:=z4a a c l a' c'
  by_cases hx:x.account=a∧x.contract=c
  ·rw [List.filter_cons_of_neg (by simp [hx.1,hx.2]),ih,ZJ]
   by_cases h:a'=a∧c'=c
   ·rw [if_pos h,if_pos h]
   ·rw [if_neg h,if_neg h,if_neg]
    rintro ⟨h1,h2⟩
    exact h ⟨by rw [← h1,hx.1],by rw [← h2,hx.2]⟩
  ·rw [List.filter_cons_of_pos,ZJ,ZJ,ih]
   ·by_cases h:a'=a∧c'=c
    ·rw [if_pos h,if_pos h]
     rw [if_neg]
     rintro ⟨h1,h2⟩
     exact hx ⟨by rw [h1,h.1],by rw [h2,h.2]⟩
    ·rw [if_neg h,if_neg h]
   ·simp only [Bool.not_eq_true',Bool.and_eq_false_iff,beq_eq_false_iff_ne]
    by_cases h1:x.account=a
    ·right;intro h2;exact hx ⟨h1,h2⟩
    ·left;exact h1
noncomputable def z3d (l:List Lots) (a c:Nat):Prop:=∀ x∈l,¬ (x.account=a∧x.contract=c)
theorem z1D (l:List Lots) (a c:Nat):z3d (l.filter fun x=>!(x.account == a && x.contract == c)) a c:=by
 intro x hx h
 have:=(List.mem_filter.mp hx).2
 simp [h.1,h.2] at this
theorem z7r (x:Lots):∀ (l:List Lots) (a c:Nat),z3d l x.account x.contract→lv (place x l) a c=if x.account=a∧x.contract=c then x.lots else lv l a c
 | [],a,c,_=>by show lv [x] a c=_;rw [ZJ]
 | y :: l,a,c,h=>by
  unfold place
  by_cases hb:before x y=true
  ·rw [if_pos hb,ZJ]
  ·rw [if_neg hb,ZJ,ZJ,z7r x l a c fun z hz=>h z (by simp [hz])]
   by_cases hy:y.account=a∧y.contract=c
   ·rw [if_pos hy,if_pos hy,if_neg]
    rintro ⟨h1,h2⟩
    exact h y (by simp) ⟨by rw [h1,hy.1],by rw [h2,hy.2]⟩
   ·rw [if_neg hy,if_neg hy]
theorem zfV (s:State) (a c:Nat) (n:Int) (a' c':Nat):lotsOf (addLots s a c n) a' c'=if a'=a∧c'=c then lotsOf s a c + n else lotsOf s a' c':=by
 rw [z7m,z7m s a' c']
 unfold addLots
 dsimp only
 by_cases hm:lotsOf s a c + n=0
 ·rw [if_pos hm,z4a,hm]
 ·rw [if_neg hm,z7r _ _ _ _ (z1D _ _ _),z4a]
  dsimp only
  by_cases h:a'=a∧c'=c
  ·rw [if_pos ⟨h.1.symm,h.2.symm⟩,if_pos h]
  ·rw [if_neg (fun q=>h ⟨q.1.symm,q.2.symm⟩),if_neg h,if_neg h]
noncomputable def yt (l:List Lots):Prop:=l.Pairwise fun x y=>before x y=true
theorem ZP (x y:Lots):before x y=true↔x.account < y.account∨(x.account=y.account∧x.contract < y.contract):=by
 unfold before;simp
theorem z4h (x:Lots):∀ (l:List Lots) (z:Lots),z∈place x l↔z=x∨z∈l
 | [],z=>by simp [place]
 | y :: l,z=>by
  unfold place
  by_cases hb:before x y=true
  ·rw [if_pos hb];simp
  ·rw [if_neg hb,List.mem_cons,z4h x l z,List.mem_cons]
   constructor
   ·rintro (h | h | h) <;> simp [h]
   ·rintro (h | h | h) <;> simp [h]
theorem za4 (x:Lots):∀ (l:List Lots),yt l→z3d l x.account x.contract→yt (place x l)
 | [],_,_=>by simp [place,yt]
 | y :: l,hs,hn=>by
  unfold place
  have hs':=List.pairwise_cons.mp hs
  by_cases hb:before x y=true
  ·rw [if_pos hb]
   refine List.pairwise_cons.mpr ⟨fun z hz=>?_,hs⟩
   rcases List.mem_cons.mp hz with rfl | hz
   ·exact hb
   ·have h1:=(ZP _ _).mp hb
    have h2:=(ZP _ _).mp (hs'.1 z hz)
    rw [ZP];omega
  ·rw [if_neg hb]
   refine List.pairwise_cons.mpr ⟨fun z hz=>?_,za4 x l hs'.2 fun w hw=>hn w (by simp [hw])⟩
   rcases (z4h x l z).mp hz with rfl | hz
   ·have h1:=hn y (by simp)
    rw [ZP] at hb ⊢;omega
   ·exact hs'.1 z hz
theorem z24 {l:List Lots} (p:Lots→Bool) (h:yt l):yt (l.filter p):=List.Pairwise.filter p h
theorem zg7 {s:State} {a c:Nat} {n:Int} {x:Lots} (h:x∈(addLots s a c n).lots):(x=⟨a,c,lotsOf s a c + n⟩∧lotsOf s a c + n≠0)∨(x∈s.lots∧¬ (x.account=a∧x.contract=c)):=by
 unfold addLots at h
 dsimp only at h
 by_cases hm:lotsOf s a c + n=0
 ·rw [if_pos hm] at h
  exact .inr ⟨(List.mem_filter.mp h).1,z1D _ _ _ x h⟩
 ·rw [if_neg hm] at h
  rcases (z4h _ _ _).mp h with rfl | h
  ·exact .inl ⟨rfl,hm⟩
  ·exact .inr ⟨(List.mem_filter.mp h).1,z1D _ _ _ x h⟩
theorem zkr {s:State} (a c:Nat) (n:Int) (h:yt s.lots):yt (addLots s a c n).lots:=by
 unfold addLots
 dsimp only
 by_cases hm:lotsOf s a c + n=0
 ·rw [if_pos hm];exact z24 _ h
 ·rw [if_neg hm];exact za4 _ _ (z24 _ h) (z1D _ _ _)
theorem z1u:∀ {l:List Lots},yt l→∀ {x:Lots},x∈l→lv l x.account x.contract=x.lots
 | [],_,x,h=>by simp at h
 | y :: l,hs,x,h=>by
  rw [ZJ]
  rcases List.mem_cons.mp h with rfl | h
  ·simp
  ·have hs':=List.pairwise_cons.mp hs
   have:=(ZP _ _).mp (hs'.1 x h)
   rw [if_neg (by omega),z1u hs'.2 h]
noncomputable def zw (f:Nat→Int):Nat→Int
 | 0=>0
 | n + 1=>zw f n + f (n + 1)
theorem jN {f g:Nat→Int}:∀ {n:Nat},(∀ a,1≤a→a≤n→f a=g a)→zw f n=zw g n
 | 0,_=>rfl
 | n + 1,h=>by
  show zw f n + f (n + 1)=zw g n + g (n + 1)
  rw [jN fun a h1 h2=>h a h1 (by omega),h (n + 1) (by omega) (Nat.le_refl _)]
theorem z0b {f g:Nat→Int} {a:Nat} {d:Int}:∀ {n:Nat},1≤a→a≤n→(∀ b,b≠a→g b=f b)→g a=f a + d→zw g n=zw f n + d
 | 0,h1,h2,_,_=>by omega
 | n + 1,h1,h2,hb,ha=>by
  show zw g n + g (n + 1)=zw f n + f (n + 1) + d
  by_cases e:a=n + 1
  ·subst e
   rw [jN (f:=g) (g:=f) fun b _ h3=>hb b (by omega),ha];omega
  ·rw [z0b (f:=f) (g:=g) (n:=n) h1 (by omega) hb ha,hb (n + 1) (fun q=>e q.symm)];omega
theorem zaY {f:Nat→Int}:∀ {n:Nat},(∀ a,1≤a→a≤n→0≤f a)→0≤zw f n
 | 0,_=>by simp [zw]
 | n + 1,h=>by
  have:=zaY (f:=f) (n:=n) fun a h1 h2=>h a h1 (by omega)
  have:=h (n + 1) (by omega) (Nat.le_refl _)
  show 0≤zw f n + f (n + 1);omega
theorem zaW {f:Nat→Int} {a:Nat}:∀ {n:Nat},1≤a→a≤n→(∀ b,1≤b→b≤n→0≤f b)→f a≤zw f n
 | 0,h1,h2,_=>by omega
 | n + 1,h1,h2,h=>by
  show f a≤zw f n + f (n + 1)
  by_cases e:a=n + 1
  ·subst e
   have:=zaY (f:=f) (n:=n) fun b h1 h2=>h b h1 (by omega)
   omega
  ·have:=zaW (f:=f) (a:=a) (n:=n) h1 (by omega) fun b h1 h2=>h b h1 (by omega)
   have:=h (n + 1) (by omega) (Nat.le_refl _)
   omega
theorem zaV {f g:Nat→Int}:∀ {n:Nat},zw (fun a=>f a + g a) n=zw f n + zw g n
 | 0=>by simp [zw]
 | n + 1=>by
  show zw (fun a=>f a + g a) n + (f (n + 1) + g (n + 1))=zw f n + f (n + 1) + (zw g n + g (n + 1))
  rw [zaV];omega
theorem z5r:∀ {f:Nat→Int} {n:Nat},(∀ a,1≤a→a≤n→f a=0)→zw f n=0
 | f,0,_=>rfl
 | f,n + 1,h=>by
  show zw f n + f (n + 1)=0
  rw [z5r fun a h1 h2=>h a h1 (by omega),h (n + 1) (by omega) (Nat.le_refl _)];rfl
noncomputable def yo (x:Int):Int:=if x < 0 then -x else 0
noncomputable def Ye (x:Int):Int:=if x < 0 then 0 else x
theorem ziC (x:Int):x=Ye x + -yo x:=by unfold Ye yo;split <;> omega
theorem zaX {f:Nat→Int}:∀ {n:Nat},zw (fun a=>-f a) n = - zw f n
 | 0=>by simp [zw]
 | n + 1=>by
  show zw (fun a=>-f a) n + -f (n + 1) = -(zw f n + f (n + 1))
  rw [zaX];omega
theorem zgj {f:Nat→Int} {n:Nat} (h:zw f n=0):zw (fun a=>yo (f a)) n=zw (fun a=>Ye (f a)) n:=by
 have e:zw f n=zw (fun a=>Ye (f a) + -yo (f a)) n:=jN fun a _ _=>ziC _
 rw [zaV,zaX,h] at e
 omega
theorem zfS {f:Nat→Int} {n a:Nat} {k:Int} (h:zw f n=0) (h1:1≤a) (h2:a≤n) (hk:k≤f a) (h0:0≤f a):k≤zw (fun b=>yo (f b)) n:=by
 rw [zgj h]
 have:=zaW (f:=fun b=>Ye (f b)) (a:=a) (n:=n) h1 h2 fun b _ _=>by unfold Ye;split <;> omega
 have e:Ye (f a)=f a:=by unfold Ye;rw [if_neg (by omega)]
 have:Ye (f a)≤zw (fun b=>Ye (f b)) n:=this
 omega
end Hx
namespace Hx
open Vbchaa
theorem z2f:total []=0:=rfl
theorem Zv (p:Nat × Int) (l:List (Nat × Int)):total (p :: l)=p.2 + total l:=rfl
noncomputable def yF (g:Nat × Int→Int) (l:List (Nat × Int)):Int:=l.foldr (fun p n=>g p + n) 0
theorem zbs (g:Nat × Int→Int):yF g []=0:=rfl
theorem Zm (g:Nat × Int→Int) (p:Nat × Int) (l:List (Nat × Int)):yF g (p :: l)=g p + yF g l:=rfl
theorem z2g:∀ l,total l=yF (fun p=>p.2) l
 | []=>rfl
 | p :: l=>by rw [Zv,Zm,z2g l]
theorem z5z {f g:Nat × Int→Int}:∀ {l:List (Nat × Int)},(∀ p∈l,f p≤g p)→yF f l≤yF g l
 | [],_=>Int.le_refl _
 | p :: l,h=>by
  have h1:=h p (by simp)
  have h2:=z5z (f:=f) (g:=g) (l:=l) fun q hq=>h q (by simp [hq])
  rw [Zm,Zm];omega
theorem z5y {f g:Nat × Int→Int}:∀ {l:List (Nat × Int)},(∀ p∈l,f p=g p)→yF f l=yF g l
 | [],_=>rfl
 | p :: l,h=>by rw [Zm,Zm,h p (by simp),z5y fun q hq=>h q (by simp [hq])]
theorem zbr {f:Nat × Int→Int} (c:Int):∀ {l:List (Nat × Int)},yF (fun p=>f p * c) l=yF f l * c
 | []=>by simp [zbs]
 | p :: l=>by rw [Zm,Zm,zbr c,Int.add_mul]
theorem zbq {f:Nat × Int→Int} (c:Int):∀ {l:List (Nat × Int)},yF (fun p=>c * f p) l=c * yF f l
 | []=>by simp [zbs]
 | p :: l=>by rw [Zm,Zm,zbq c,Int.mul_add]
theorem zkN {f:Nat × Int→Int} {l:List (Nat × Int)} (h:∀ p∈l,0≤f p):0≤yF f l:=by
 have:=z5z (f:=fun _=>0) (g:=f) (l:=l) h
 have e:∀ l:List (Nat × Int),yF (fun _=>0) l=0:=by
  intro l;induction l with
  | nil=>rfl
  | cons p l ih=>rw [Zm,ih];rfl
 rw [e] at this;exact this
noncomputable def ZH (g:Nat→Int) (l:List Nat):Int:=l.foldr (fun a n=>g a + n) 0
theorem z2j (g:Nat→Int):∀ l:List (Nat × Int),yF (fun p=>g p.1) l=ZH g (l.map (·.1))
 | []=>rfl
 | p :: l=>by rw [Zm,z2j g l];rfl
noncomputable def look (l:List (Nat × Int)) (a:Nat):Int:=match l.find? fun p=>p.1 == a with
 | some p=>p.2
 | none=>0
theorem z3l (r:Run) (a:Nat):assignedTo r a=look r.assigned a:=rfl
theorem z45 (a:Nat):look [] a=0:=rfl
theorem ZI (p:Nat × Int) (l:List (Nat × Int)) (a:Nat):look (p :: l) a=if p.1=a then p.2 else look l a:=by
 unfold look
 rw [List.find?_cons]
 by_cases h:p.1=a
 ·rw [if_pos h];simp [h]
 ·rw [if_neg h,beq_eq_false_iff_ne.mpr h]
theorem ZW:∀ {l:List (Nat × Int)} {a:Nat},a ∉ l.map (·.1)→look l a=0
 | [],_,_=>rfl
 | p :: l,a,h=>by
  simp only [List.map_cons,List.mem_cons,not_or] at h
  rw [ZI,if_neg (fun q=>h.1 q.symm),ZW h.2]
theorem j4:∀ {l:List (Nat × Int)},(l.map (·.1)).Nodup→∀ {p:Nat × Int},p∈l→look l p.1=p.2
 | [],_,p,h=>by simp at h
 | q :: l,hn,p,h=>by
  rw [List.map_cons,List.nodup_cons] at hn
  rw [ZI]
  rcases List.mem_cons.mp h with rfl | h
  ·rw [if_pos rfl]
  ·rw [if_neg,j4 hn.2 h]
   intro e
   exact hn.1 (by rw [e];exact List.mem_map_of_mem h)
theorem z1E {l:List Nat} (h:l.Pairwise (· < ·)):l.Nodup:=h.imp fun h=>Nat.ne_of_lt h
theorem zbj {l:List (Nat × Int)} (hn:(l.map (·.1)).Nodup):total l=ZH (look l) (l.map (·.1)):=by
 rw [z2g,← z2j]
 exact z5y fun p hp=>(j4 hn hp).symm
noncomputable def Z9 (k:Nat) (l:List (Nat × Int)):List (Nat × Int):=l.map fun q=>if q.1=k then (q.1,q.2 + 1) else q
theorem zcq (k:Nat) (l:List (Nat × Int)):(Z9 k l).map (·.1)=l.map (·.1):=by
 unfold Z9
 rw [List.map_map]
 apply List.map_congr_left
 intro q _
 show (if q.1=k then (q.1,q.2 + 1) else q).1=q.1
 split <;> rfl
theorem z44 (k:Nat):∀ (l:List (Nat × Int)) (a:Nat),look (Z9 k l) a=if a=k∧a∈l.map (·.1) then look l a + 1 else look l a
 | [],a=>by simp [Z9,z45]
 | q :: l,a=>by
  have ih:=z44 k l a
  show look ((if q.1=k then (q.1,q.2 + 1) else q) :: Z9 k l) a=_
  rw [ZI,ZI,ih]
  have e1:(if q.1=k then (q.1,q.2 + 1) else q).1=q.1:=by split <;> rfl
  rw [e1]
  by_cases h:q.1=a
  ·rw [if_pos h,if_pos h]
   by_cases hk:a=k
   ·rw [if_pos (by rw [h,hk]),if_pos ⟨hk,by simp [h]⟩]
   ·rw [if_neg (by rw [h];exact hk),if_neg (fun z=>hk z.1)]
  ·rw [if_neg h,if_neg h]
   by_cases hk:a=k∧a∈l.map (·.1)
   ·rw [if_pos hk,if_pos ⟨hk.1,by simp [hk.2]⟩]
   ·rw [if_neg hk,if_neg]
    rintro ⟨z1,z2⟩
    rw [List.map_cons,List.mem_cons] at z2
    rcases z2 with z2 | z2
    ·exact h z2.symm
    ·exact hk ⟨z1,z2⟩
theorem zbi {k:Nat}:∀ {l:List (Nat × Int)},(l.map (·.1)).Nodup→k∈l.map (·.1)→total (Z9 k l)=total l + 1
 | [],_,h=>by simp at h
 | q :: l,hn,h=>by
  rw [List.map_cons,List.nodup_cons] at hn
  show total ((if q.1=k then (q.1,q.2 + 1) else q) :: Z9 k l)=_
  rw [Zv,Zv]
  by_cases hk:q.1=k
  ·have e:Z9 k l=l:=by
    have:∀ p∈l,(if p.1=k then (p.1,p.2 + 1) else p)=p:=fun p hp=>if_neg fun e=>hn.1 (by rw [hk,← e];exact List.mem_map_of_mem hp)
    unfold Z9
    rw [List.map_congr_left this];exact List.map_id _
   rw [if_pos hk,e];dsimp only;omega
  ·rw [List.map_cons,List.mem_cons] at h
   rw [if_neg hk,zbi hn.2 (h.resolve_left fun z=>hk z.symm)];omega
structure RunI (r:Run) (N:Nat):Prop where
 keys:r.assigned.map (·.1)=r.base.map (·.1)
 rise:(r.base.map (·.1)).Pairwise (· < ·)
 rng:∀ p∈r.base,1≤p.1∧p.1≤N
 pos:∀ p∈r.base,0 < p.2∧p.2≤MOST
 asg:∀ p∈r.base,0≤look r.assigned p.1∧look r.assigned p.1≤p.2
 cnt:r.count=total r.assigned
theorem RunI.nd {r:Run} {N:Nat} (h:RunI r N):(r.base.map (·.1)).Nodup:=z1E h.rise
theorem RunI.ndA {r:Run} {N:Nat} (h:RunI r N):(r.assigned.map (·.1)).Nodup:=by rw [h.keys];exact h.nd
theorem RunI.count_sum {r:Run} {N:Nat} (h:RunI r N):r.count=yF (fun p=>look r.assigned p.1) r.base:=by
 rw [h.cnt,zbj h.ndA,h.keys,← z2j]
theorem RunI.count_nonneg {r:Run} {N:Nat} (h:RunI r N):0≤r.count:=by
 rw [h.count_sum];exact zkN fun p hp=>(h.asg p hp).1
theorem RunI.due {r:Run} {N:Nat} (h:RunI r N) (hc:r.count < total r.base):eligible r≠[]:=by
 intro e
 have hall:∀ p∈r.base,(r.count + 1) * p.2≤look r.assigned p.1 * total r.base:=fun p hp=>by
  have hn:p ∉ eligible r:=by rw [e];simp
  unfold eligible at hn
  rw [List.mem_filter] at hn
  have:¬ (assignedTo r p.1 * total r.base < (r.count + 1) * p.2):=fun z=>hn ⟨hp,decide_eq_true z⟩
  rw [z3l] at this
  omega
 have h1:=z5z hall
 rw [zbq,zbr,← h.count_sum,← z2g] at h1
 have h2:=h.count_nonneg
 rw [Int.add_mul] at h1
 omega
theorem zgt {r:Run}:∀ {l:List (Nat × Int)},next r l=none→l=[]
 | [],_=>rfl
 | p :: l,h=>by
  unfold next at h
  split at h
  ·cases h
  ·split at h <;> cases h
theorem z7S {r:Run} {p:Nat × Int}:∀ {l:List (Nat × Int)},next r l=some p→p∈l
 | [],h=>by cases h
 | q :: l,h=>by
  unfold next at h
  split at h
  ·cases h;simp
  ·rename_i z hz
   split at h
   ·cases h;simp
   ·cases h;simp [z7S hz]
theorem RunI.step {r:Run} {N:Nat} (h:RunI r N) (hc:r.count < total r.base) :
  ∃ p∈r.base,next r (eligible r)=some p∧assignOne r = { r with assigned:=Z9 p.1 r.assigned,count:=r.count + 1 }∧RunI (assignOne r) N:=by
 cases e:next r (eligible r) with
 | none=>exact absurd (zgt e) (h.due hc)
 | some p=>
  have hm:=z7S e
  unfold eligible at hm
  rw [List.mem_filter] at hm
  obtain ⟨hb,hd⟩:=hm
  have hd:=of_decide_eq_true hd
  rw [z3l] at hd
  have hs:=h.pos p hb
  have lt:look r.assigned p.1 < p.2:=by
   have h1:(r.count + 1) * p.2≤total r.base * p.2:=Int.mul_le_mul_of_nonneg_right (by omega) (by omega)
   have h2:look r.assigned p.1 * total r.base < p.2 * total r.base:=by rw [Int.mul_comm p.2];omega
   have h3:=h.count_nonneg
   exact Int.lt_of_mul_lt_mul_right h2 (by omega)
  have eq:assignOne r = { r with assigned:=Z9 p.1 r.assigned,count:=r.count + 1 }:=by unfold assignOne;rw [e];rfl
  have mk:p.1∈r.assigned.map (·.1):=by rw [h.keys];exact List.mem_map_of_mem hb
  refine ⟨p,hb,rfl,eq,?_⟩
  rw [eq]
  refine ⟨by dsimp only;rw [zcq];exact h.keys,h.rise,h.rng,h.pos,fun q hq=>?_,?_⟩
  ·dsimp only
   rw [z44]
   have hq2:=h.asg q hq
   split
   ·rename_i z
    have e2:q=p:=by
     have e3:=j4 h.nd hq
     have e4:=j4 h.nd hb
     rw [z.1,e4] at e3
     exact Prod.ext z.1 e3.symm
    subst e2
    omega
   ·exact hq2
  ·dsimp only
   rw [zbi h.ndA mk,h.cnt]
theorem RunI.assign:∀ (n:Nat) {r:Run} {N:Nat},RunI r N→r.count + n≤total r.base →
  RunI (assign n r) N∧(assign n r).base=r.base∧(assign n r).count=r.count + n∧(assign n r).exercises=r.exercises∧∀ a,look r.assigned a≤look (Vbchaa.assign n r).assigned a
 | 0,r,N,h,hc=>⟨h,rfl,by show r.count=r.count + ((0:Nat):Int);simp,rfl,fun _=>Int.le_refl _⟩
 | n + 1,r,N,h,hc=>by
  obtain ⟨p,hb,hn,eq,h'⟩:=h.step (by omega)
  have eb:(assignOne r).base=r.base:=by rw [eq]
  have ec:(assignOne r).count=r.count + 1:=by rw [eq]
  have ee:(assignOne r).exercises=r.exercises:=by rw [eq]
  obtain ⟨i1,i2,i3,i4,i5⟩:=RunI.assign n h' (by rw [eb,ec];omega)
  show RunI (Vbchaa.assign n (assignOne r)) N∧_
  refine ⟨i1,by show (Vbchaa.assign n (assignOne r)).base=_;rw [i2,eb],by show (Vbchaa.assign n (assignOne r)).count=_;rw [i3,ec];omega,by show (Vbchaa.assign n (assignOne r)).exercises=_;rw [i4,ee],fun a=>?_⟩
  refine Int.le_trans ?_ (i5 a)
  rw [eq]
  dsimp only
  rw [z44]
  split <;> omega
theorem z7j (g:Nat→Int):∀ (l:List (Nat × Int)) (a:Nat),look (l.map fun p=>(p.1,p.2 - g p.1)) a=if a∈l.map (·.1) then look l a - g a else 0
 | [],a=>by simp [z45]
 | p :: l,a=>by
  rw [List.map_cons,ZI,ZI,z7j g l a]
  dsimp only
  by_cases h:p.1=a
  ·rw [if_pos h,if_pos h,if_pos (by simp [h]),h]
  ·rw [if_neg h,if_neg h]
   by_cases h2:a∈l.map (·.1)
   ·rw [if_pos h2,if_pos (by simp [h2])]
   ·rw [if_neg h2,if_neg]
    rw [List.map_cons,List.mem_cons]
    rintro (z | z)
    ·exact h z.symm
    ·exact h2 z
theorem z7k:∀ {l:List (Nat × Int)},(l.map (·.1)).Nodup→∀ a,look (l.filter fun p=>decide (p.2≠0)) a=look l a
 | [],_,a=>rfl
 | p :: l,hn,a=>by
  rw [List.map_cons,List.nodup_cons] at hn
  have ih:=z7k hn.2 a
  by_cases hp:p.2=0
  ·rw [List.filter_cons_of_neg (by simp [hp]),ih,ZI]
   split
   ·rename_i e
    rw [hp,← e,ZW hn.1]
   ·rfl
  ·rw [List.filter_cons_of_pos (by simp [hp]),ZI,ZI,ih]
theorem z7Q {r t:Run} {N:Nat} (hr:RunI r N) (ht:RunI t N) (hb:t.base=r.base) (a:Nat):look (newly r t) a=look t.assigned a - look r.assigned a:=by
 unfold newly
 have ek:(t.assigned.map fun p=>(p.1,p.2 - assignedTo r p.1)).map (·.1)=t.assigned.map (·.1):=by rw [List.map_map];rfl
 rw [z7k (by rw [ek];exact ht.ndA)]
 have e:=z7j (fun a=>assignedTo r a) t.assigned a
 rw [e]
 split
 ·rfl
 ·rename_i h
  rw [ZW h,ZW (by rw [hr.keys,← hb,← ht.keys];exact h)];rfl
theorem z0I {r t:Run} {N:Nat} (ht:RunI t N):((newly r t).map (·.1)).Pairwise (· < ·):=by
 unfold newly
 have h1:((t.assigned.map fun p=>(p.1,p.2 - assignedTo r p.1)).map (·.1)).Pairwise (· < ·):=by
  rw [List.map_map]
  have:(t.assigned.map (·.1)).Pairwise (· < ·):=by rw [ht.keys];exact ht.rise
  exact this
 rw [List.pairwise_map] at h1 ⊢
 exact List.Pairwise.filter _ h1
theorem z4x {r t:Run} {N:Nat} (hr:RunI r N) (ht:RunI t N) (hb:t.base=r.base) (mono:∀ a,look r.assigned a≤look t.assigned a) {p:Nat × Int} (hp:p∈newly r t) :
  p.1∈r.base.map (·.1)∧0 < p.2∧p.2=look t.assigned p.1 - look r.assigned p.1:=by
 have e1:=z7Q hr ht hb p.1
 rw [j4 (z1E (z0I ht)) hp] at e1
 unfold newly at hp
 rw [List.mem_filter] at hp
 obtain ⟨hm,hz⟩:=hp
 have hz:p.2≠0:=of_decide_eq_true hz
 obtain ⟨q,hq,rfl⟩:=List.mem_map.mp hm
 have:=mono q.1
 refine ⟨?_,by dsimp only at *;omega,e1⟩
 rw [← hb,← ht.keys]
 show q.1∈_
 exact List.mem_map_of_mem (f:=fun x:Nat × Int=>x.1) hq
noncomputable def yq (f:Nat→Int):Nat→List (Nat × Int)
 | 0=>[]
 | n + 1=>yq f n ++ (if f (n + 1) < 0 then [(n + 1,-f (n + 1))] else [])
theorem z5a (s:State) (c:Nat):shorts s c=yq (fun a=>lotsOf s a c) s.cash.length:=by
 unfold shorts accounts
 generalize s.cash.length=n
 induction n with
 | zero=>rfl
 | succ n ih=>
  rw [List.range_succ,List.map_append,List.filter_append,List.map_append,ih]
  show _ ++ _=yq _ n ++ _
  congr 1
  rw [List.map_cons,List.map_nil]
  by_cases h:lotsOf s (n + 1) c < 0
  ·rw [if_pos h,List.filter_cons_of_pos (by simpa using h)];rfl
  ·rw [if_neg h,List.filter_cons_of_neg (by simpa using h)];rfl
theorem zbh:∀ (l m:List (Nat × Int)),total (l ++ m)=total l + total m
 | [],m=>by rw [List.nil_append,z2f];omega
 | p :: l,m=>by rw [List.cons_append,Zv,Zv,zbh l m];omega
theorem zbk (f:Nat→Int):∀ n,total (yq f n)=zw (fun a=>yo (f a)) n
 | 0=>rfl
 | n + 1=>by
  show total (yq f n ++ _)=zw _ n + yo (f (n + 1))
  rw [zbh,zbk f n]
  unfold yo
  split
  ·simp [Zv,z2f]
  ·simp [z2f]
theorem Yy (f:Nat→Int):∀ {n:Nat} {p:Nat × Int},p∈yq f n↔1≤p.1∧p.1≤n∧f p.1 < 0∧p.2 = -f p.1
 | 0,p=>by simp [yq];omega
 | n + 1,p=>by
  show p∈yq f n ++ _↔_
  rw [List.mem_append,Yy f]
  constructor
  ·rintro (h | h)
   ·omega
   ·split at h
    ·rename_i h2
     rw [List.mem_singleton] at h
     subst h
     exact ⟨by simp,by simp,h2,rfl⟩
    ·simp at h
  ·rintro ⟨h1,h2,h3,h4⟩
   by_cases e:p.1=n + 1
   ·right
    rw [e] at h3 h4
    rw [if_pos h3,List.mem_singleton]
    exact Prod.ext e h4
   ·left
    exact ⟨h1,by omega,h3,h4⟩
theorem z1P (f:Nat→Int):∀ n,((yq f n).map (·.1)).Pairwise (· < ·)
 | 0=>by simp [yq]
 | n + 1=>by
  show ((yq f n ++ _).map (·.1)).Pairwise (· < ·)
  rw [List.map_append,List.pairwise_append]
  refine ⟨z1P f n,?_,?_⟩
  ·split <;> simp
  ·intro a ha b hb
   obtain ⟨p,hp,rfl⟩:=List.mem_map.mp ha
   have:=(Yy f).mp hp
   split at hb
   ·simp at hb;omega
   ·simp at hb
structure RunOk (r:Run) (f:Nat→Int) (N:Nat):Prop where
 i:RunI r N
 mem:∀ p∈r.base,f p.1=look r.assigned p.1 - p.2
 out:∀ a,1≤a→a≤N→a ∉ r.base.map (·.1)→0≤f a
theorem z46:∀ (l:List (Nat × Int)) (a:Nat),look (l.map fun p=>(p.1,(0:Int))) a=0
 | [],a=>rfl
 | p :: l,a=>by rw [List.map_cons,ZI,z46 l a];simp
theorem zbm:∀ (l:List (Nat × Int)),total (l.map fun p=>(p.1,(0:Int)))=0
 | []=>rfl
 | p :: l=>by rw [List.map_cons,Zv,zbm l];rfl
theorem zjH {f:Nat→Int} {N:Nat} (hf:∀ a,-MOST≤f a) (e:Nat):RunOk ⟨yq f N,(yq f N).map fun p=>(p.1,0),0,e⟩ f N:=by
 refine ⟨⟨by dsimp only;rw [List.map_map];rfl,z1P f N,fun p hp=>?_,fun p hp=>?_,fun p hp=>?_,?_⟩,fun p hp=>?_,fun a h1 h2 hn=>?_⟩
 ·have:=(Yy f).mp hp;exact ⟨this.1,this.2.1⟩
 ·have:=(Yy f).mp hp;have:=hf p.1;omega
 ·have:=(Yy f).mp hp;dsimp only;rw [z46];omega
 ·dsimp only;rw [zbm]
 ·have:=(Yy f).mp hp;dsimp only;rw [z46];omega
 ·apply Int.not_lt.mp
  intro h
  exact hn (List.mem_map_of_mem (f:=(·.1)) ((Yy f (p:=(a,-f a))).mpr ⟨h1,h2,h,rfl⟩))
theorem z8D {f:Nat→Int} {N:Nat} (hf:∀ a,1≤a→a≤N→0≤f a) (e:Nat):RunOk ⟨[],[],0,e⟩ f N :=
 ⟨⟨rfl,by simp,by simp,by simp,by simp,rfl⟩,by simp,fun a h1 h2 _=>hf a h1 h2⟩
theorem RunOk.left {r:Run} {f:Nat→Int}:∀ {N:Nat},RunOk r f N→total r.base - r.count=zw (fun a=>yo (f a)) N:=by
 intro N h
 have e1:total r.base - r.count=yF (fun p=>yo (f p.1)) r.base:=by
  rw [h.i.count_sum,z2g]
  have:∀ (g k:Nat × Int→Int) (l:List (Nat × Int)),yF g l - yF k l=yF (fun p=>g p - k p) l:=by
   intro g k l
   induction l with
   | nil=>rfl
   | cons p l ih=>rw [Zm,Zm,Zm,← ih];omega
  rw [this]
  refine z5y fun p hp=>?_
  have:=h.mem p hp
  have:=h.i.asg p hp
  unfold yo
  split <;> omega
 rw [e1,z2j (fun a=>yo (f a))]
 have key:∀ (n:Nat) (l:List Nat) (g:Nat→Int),l.Pairwise (· < ·)→(∀ a∈l,1≤a∧a≤n)→(∀ a,1≤a→a≤n→a ∉ l→g a=0)→ZH g l=zw g n:=by
  intro n
  induction n with
  | zero=>
   intro l g _ h2 _
   cases l with
   | nil=>rfl
   | cons a l=>have:=h2 a (by simp);omega
  | succ n ih=>
   intro l g h1 h2 h3
   have kapp:∀ (l m:List Nat),ZH g (l ++ m)=ZH g l + ZH g m:=by
    intro l m
    induction l with
    | nil=>show ZH g m=0 + _;omega
    | cons a l ih2=>show g a + ZH g (l ++ m)=g a + ZH g l + ZH g m;rw [ih2];omega
   by_cases hl:n + 1∈l
   ·obtain ⟨u,v,rfl⟩:=List.append_of_mem hl
    have hv:v=[]:=by
     cases v with
     | nil=>rfl
     | cons b v=>
      rw [List.pairwise_append] at h1
      have:=(List.pairwise_cons.mp h1.2.1).1 b (by simp)
      have:=h2 b (by simp)
      omega
    subst hv
    rw [List.pairwise_append] at h1
    rw [kapp,ih u g h1.1 (fun a ha=>by have:=h2 a (by simp [ha]);have:=h1.2.2 a ha (n + 1) (by simp);omega) fun a h4 h5 h6=>h3 a h4 (by omega) (by simp [h6];omega)]
    show _ + (g (n + 1) + 0)=zw g n + g (n + 1)
    omega
   ·rw [ih l g h1 (fun a ha=>by have:=h2 a ha;have:a≠n + 1:=fun q=>hl (by rw [← q];exact ha);omega) fun a h4 h5 h6=>h3 a h4 (by omega) h6]
    show _=zw g n + g (n + 1)
    rw [h3 (n + 1) (by omega) (Nat.le_refl _) hl];omega
 refine key N _ _ h.i.rise (fun a ha=>?_) fun a h1 h2 h3=>?_
 ·obtain ⟨p,hp,rfl⟩:=List.mem_map.mp ha
  exact h.i.rng p hp
 ·have:=h.out a h1 h2 h3
  unfold yo
  rw [if_neg (by omega)]
end Hx
namespace Hx
open Vbchaa
structure ConOk (s:State) (k:Contract):Prop where
 kind:0≤k.kind∧k.kind≤2
 under:1≤k.under∧k.under≤s.prices.length
 strike:0≤k.strike∧k.strike≤PRICE
 mult:1≤k.mult∧k.mult≤1000
 expiry:1≤k.expiry∧k.expiry≤1000000
 now:k.over=false→s.turn≤k.expiry
 past:k.over=true→k.expiry < s.turn
structure TrdOk (s:State) (t:Trade):Prop where
 key:1≤t.key∧t.key≤KEY
 con:∃ k,contractOf s t.contract=some k∧k.over=false
 buyer:1≤t.buyer∧t.buyer≤s.cash.length
 seller:1≤t.seller∧t.seller≤s.cash.length
 ne:t.buyer≠t.seller
 lots:1≤t.lots∧t.lots≤1000
 price:0≤t.price∧t.price≤PRICE
 seen:t.seen≤(runOf s t.contract).exercises
 given:∀ sd tk,t.given=some (sd,tk)→(sd=0∨sd=1)∧1≤tk∧tk≤s.cash.length∧tk≠t.buyer∧tk≠t.seller
structure Core (s:State):Prop where
 turn:1≤s.turn
 cashN:s.cash.length≤12
 priceN:s.prices.length≤4
 conN:s.contracts.length≤12
 runN:s.runs.length=s.contracts.length
 prices:∀ p∈s.prices,0≤p∧p≤PRICE
 con:∀ k∈s.contracts,ConOk s k
 lotsS:yt s.lots
 lots:∀ x∈s.lots,x.lots≠0∧1≤x.account∧x.account≤s.cash.length∧1≤x.contract∧x.contract≤s.contracts.length
 most:∀ a c,-MOST≤lotsOf s a c∧lotsOf s a c≤MOST
 zero:∀ c,zw (fun a=>lotsOf s a c) s.cash.length=0
 over:∀ c k,contractOf s c=some k→k.over=true→∀ a,lotsOf s a c=0
 run:∀ i r,s.runs[i]?=some r→RunOk r (fun a=>lotsOf s a (i + 1)) s.cash.length
structure Trs (s:State):Prop where
 sorted:s.trades.Pairwise fun x y=>x.key < y.key
 ok:∀ t∈s.trades,TrdOk s t
 sp:∀ t∈s.trades,t.key∈s.spent
 spN:s.spent.length≤60
 spD:s.spent.Nodup
structure Ok (s:State):Prop where
 c:Core s
 t:Trs s
theorem z4c:∀ {l:List Lots} {a c:Nat},lv l a c≠0→∃ x∈l,x.account=a∧x.contract=c
 | [],_,_,h=>absurd rfl h
 | x :: l,a,c,h=>by
  rw [ZJ] at h
  split at h
  ·rename_i e;exact ⟨x,by simp,e⟩
  ·obtain ⟨y,hy,e⟩:=z4c h
   exact ⟨y,by simp [hy],e⟩
theorem Core.range {s:State} (h:Core s) {a c:Nat} (hn:lotsOf s a c≠0):1≤a∧a≤s.cash.length∧1≤c∧c≤s.contracts.length:=by
 obtain ⟨x,hx,rfl,rfl⟩:=z4c hn
 exact (h.lots x hx).2
theorem ZR {s:State} {c:Nat} {k:Contract}:contractOf s c=some k↔1≤c∧s.contracts[c - 1]?=some k:=by
 unfold contractOf
 by_cases h:c=0
 ·rw [if_pos h];simp;omega
 ·rw [if_neg h];constructor
  ·intro e;exact ⟨by omega,e⟩
  ·intro e;exact e.2
theorem YI {s:State} {c:Nat} {k:Contract} (h:contractOf s c=some k):1≤c∧c≤s.contracts.length:=by
 obtain ⟨h1,h2⟩:=ZR.mp h
 have:=(List.getElem?_eq_some_iff.mp h2).1
 omega
theorem z19 {s:State} {c:Nat} {k:Contract} (h:contractOf s c=some k):k∈s.contracts:=List.mem_of_getElem? (ZR.mp h).2
theorem zmo {s:State} {c:Nat} (h1:1≤c) (h2:c≤s.contracts.length):∃ k,contractOf s c=some k :=
 ⟨s.contracts[c - 1]'(by omega),ZR.mpr ⟨h1,List.getElem?_eq_getElem (by omega)⟩⟩
theorem zjG {s:State} (h:Core s) {c:Nat} (h1:1≤c) (h2:c≤s.contracts.length):s.runs[c - 1]?=some (runOf s c):=by
 unfold runOf
 have hl:c - 1 < s.runs.length:=by rw [h.runN];omega
 rw [List.getD_eq_getElem?_getD,List.getElem?_eq_getElem hl];rfl
theorem Core.runOk {s:State} (h:Core s) {c:Nat} (h1:1≤c) (h2:c≤s.contracts.length):RunOk (runOf s c) (fun a=>lotsOf s a c) s.cash.length:=by
 have:=h.run (c - 1) _ (zjG h h1 h2)
 rw [show c - 1 + 1=c by omega] at this
 exact this
noncomputable def mv (s:State) (a c:Nat) (n x:Int):State:=addCash (addLots s a c n) a x
theorem Zr (s:State) (a c:Nat) (n x:Int) (a' c':Nat):lotsOf (mv s a c n x) a' c'=if a'=a∧c'=c then lotsOf s a c + n else lotsOf s a' c':=zfV s a c n a' c'
theorem j6 (s:State) (a c:Nat) (n x:Int):(mv s a c n x).cash.length=s.cash.length:=by
 show (s.cash.modify _ _).length=_;rw [List.length_modify]
theorem z1z {s:State} {a c:Nat} {n x:Int} {z:Lots} (h:z∈(mv s a c n x).lots):(z=⟨a,c,lotsOf s a c + n⟩∧lotsOf s a c + n≠0)∨(z∈s.lots∧¬ (z.account=a∧z.contract=c)):=zg7 h
theorem z1A {s:State} (a c:Nat) (n x:Int) (h:yt s.lots):yt (mv s a c n x).lots:=zkr a c n h
structure Like (s u:State):Prop where
 turn:u.turn=s.turn
 prices:u.prices=s.prices
 contracts:u.contracts=s.contracts
 cashN:u.cash.length=s.cash.length
 runN:u.runs.length=s.runs.length
 ex:∀ c,(runOf u c).exercises=(runOf s c).exercises
 trades:u.trades=s.trades
 spent:u.spent=s.spent
theorem Like.trans {s t u:State} (a:Like s t) (b:Like t u):Like s u :=
 ⟨b.turn.trans a.turn,b.prices.trans a.prices,b.contracts.trans a.contracts,b.cashN.trans a.cashN,b.runN.trans a.runN,fun c=>(b.ex c).trans (a.ex c),b.trades.trans a.trades,b.spent.trans a.spent⟩
theorem Like.mv (s:State) (a c:Nat) (n x:Int):Like s (mv s a c n x):=⟨rfl,rfl,rfl,j6 s a c n x,rfl,fun _=>rfl,rfl,rfl⟩
theorem z1R (s:State) (c:Nat) (i:Nat):(anew s c).runs[i]?=(s.runs[i]?).map fun r=>if c - 1=i then { r with base:=shorts s c,assigned:=(shorts s c).map fun p=>(p.1,0),count:=0 } else r:=by
 show (s.runs.modify _ _)[i]?=_
 rw [List.getElem?_modify]
 rfl
theorem Like.anew (s:State) (c:Nat):Like s (anew s c):=by
 refine ⟨rfl,rfl,rfl,rfl,?_,fun d=>?_,rfl,rfl⟩
 ·show (s.runs.modify _ _).length=_;rw [List.length_modify]
 ·unfold runOf
  rw [List.getD_eq_getElem?_getD,List.getD_eq_getElem?_getD,z1R]
  cases s.runs[d - 1]? with
  | none=>rfl
  | some r=>
   show (if c - 1=d - 1 then _ else r:Run).exercises=r.exercises
   split <;> rfl
theorem Like.conOk {s u:State} (h:Like s u) {k:Contract} (o:ConOk s k):ConOk u k :=
 ⟨o.kind,by rw [h.prices];exact o.under,o.strike,o.mult,o.expiry,by rw [h.turn];exact o.now,by rw [h.turn];exact o.past⟩
theorem Like.contractOf {s u:State} (h:Like s u) (c:Nat):contractOf u c=contractOf s c:=by unfold Vbchaa.contractOf;rw [h.contracts]
theorem Like.trdOk {s u:State} (h:Like s u) {t:Trade} (o:TrdOk s t):TrdOk u t :=
 ⟨o.key,by rw [h.contractOf];exact o.con,by rw [h.cashN];exact o.buyer,by rw [h.cashN];exact o.seller,o.ne,o.lots,o.price,by rw [h.ex];exact o.seen,by rw [h.cashN];exact o.given⟩
theorem Like.trs {s u:State} (h:Like s u) (o:Trs s):Trs u :=
 ⟨by rw [h.trades];exact o.sorted,by rw [h.trades];exact fun t ht=>h.trdOk (o.ok t ht),by rw [h.trades,h.spent];exact o.sp,by rw [h.spent];exact o.spN,by rw [h.spent];exact o.spD⟩
noncomputable def pair (s:State) (c a b:Nat) (n x y:Int):State:=anew (mv (mv s a c n x) b c (-n) y) c
theorem JY (s:State) (c a b:Nat) (n x y:Int):Like s (pair s c a b n x y):=((Like.mv s a c n x).trans (Like.mv _ b c (-n) y)).trans (Like.anew _ c)
theorem JZ {s:State} {c a b:Nat} {n x y:Int} (hab:a≠b) (d e:Nat):lotsOf (pair s c a b n x y) d e=if e=c then (if d=a then lotsOf s a c + n else if d=b then lotsOf s b c - n else lotsOf s d c) else lotsOf s d e:=by
 show lotsOf (mv (mv s a c n x) b c (-n) y) d e=_
 rw [Zr,Zr,Zr]
 by_cases he:e=c
 ·subst he
  rw [if_pos rfl]
  by_cases hb:d=b
  ·subst hb
   rw [if_pos ⟨rfl,rfl⟩,if_neg (fun q=>hab q.1.symm),if_neg (Ne.symm hab),if_pos rfl];omega
  ·rw [if_neg (fun q=>hb q.1),if_neg hb]
   by_cases ha:d=a
   ·subst ha;rw [if_pos ⟨rfl,rfl⟩,if_pos rfl]
   ·rw [if_neg (fun q=>ha q.1),if_neg ha]
 ·rw [if_neg (fun q=>he q.2),if_neg (fun q=>he q.2),if_neg he]
theorem z4E {s:State} (h:Core s) {c a b:Nat} {k:Contract} {n x y:Int} (hab:a≠b) (hk:contractOf s c=some k) (hl:k.over=false) (ha:1≤a∧a≤s.cash.length) (hb:1≤b∧b≤s.cash.length)
  (fa:-MOST≤lotsOf s a c + n∧lotsOf s a c + n≤MOST) (fb:-MOST≤lotsOf s b c - n∧lotsOf s b c - n≤MOST):Core (pair s c a b n x y):=by
 have L:=JY s c a b n x y
 have hc:=YI hk
 have hN:(pair s c a b n x y).cash.length=s.cash.length:=L.cashN
 have most:∀ d e,-MOST≤lotsOf (pair s c a b n x y) d e∧lotsOf (pair s c a b n x y) d e≤MOST:=fun d e=>by
  rw [JZ hab]
  have:=h.most d e
  have:=h.most d c
  split
  ·split
   ·exact fa
   ·split
    ·exact fb
    ·assumption
  ·assumption
 refine ⟨by rw [L.turn];exact h.turn,by rw [hN];exact h.cashN,by rw [L.prices];exact h.priceN,by rw [L.contracts];exact h.conN,by rw [L.runN,L.contracts];exact h.runN,by rw [L.prices];exact h.prices,by rw [L.contracts];exact fun k hk=>L.conOk (h.con k hk),
  z1A b c (-n) y (z1A a c n x h.lotsS),fun z hz=>?_,most,fun e=>?_,fun e k' he ho d=>?_,fun i r hr=>?_⟩
 ·rw [hN,L.contracts]
  rcases z1z (x:=y) hz with ⟨rfl,q⟩ | ⟨hz,_⟩
  ·exact ⟨q,hb.1,hb.2,hc.1,hc.2⟩
  ·rcases z1z (x:=x) hz with ⟨rfl,q⟩ | ⟨hz,_⟩
   ·exact ⟨q,ha.1,ha.2,hc.1,hc.2⟩
   ·exact h.lots z hz
 ·rw [hN]
  by_cases he:e=c
  ·subst he
   have e1:=z0b (f:=fun d=>lotsOf s d e) (g:=fun d=>if d=a then lotsOf s d e + n else lotsOf s d e) (a:=a) (d:=n) (n:=s.cash.length) ha.1 ha.2 (fun d hd=>if_neg hd) (if_pos rfl)
   have e2:=z0b (f:=fun d=>if d=a then lotsOf s d e + n else lotsOf s d e) (g:=fun d=>lotsOf (pair s e a b n x y) d e) (a:=b) (d:=-n) (n:=s.cash.length) hb.1 hb.2 (fun d hd=>by
    try dsimp only
    rw [JZ hab,if_pos rfl,if_neg hd]
    split
    ·rename_i q;rw [q]
    ·rfl) (by
    try dsimp only
    rw [JZ hab,if_pos rfl,if_neg (Ne.symm hab),if_pos rfl,if_neg (Ne.symm hab)];omega)
   rw [e2,e1,h.zero];omega
  ·rw [jN (g:=fun d=>lotsOf s d e) fun d _ _=>by rw [JZ hab,if_neg he]]
   exact h.zero e
 ·rw [L.contractOf] at he
  have hne:e≠c:=fun q=>by rw [q,hk] at he;cases he;rw [hl] at ho;cases ho
  rw [JZ hab,if_neg hne]
  exact h.over e k' he ho d
 ·have hr':(anew (mv (mv s a c n x) b c (-n) y) c).runs[i]?=some r:=hr
  rw [z1R] at hr'
  have er:(mv (mv s a c n x) b c (-n) y).runs=s.runs:=rfl
  rw [er] at hr'
  cases hi:s.runs[i]? with
  | none=>rw [hi] at hr';cases hr'
  | some r0=>
   rw [hi] at hr'
   have hr':=Option.some.inj hr'
   dsimp only at hr'
   by_cases hci:c - 1=i
   ·rw [if_pos hci] at hr'
    subst hr'
    have eic:i + 1=c:=by omega
    rw [eic,hN]
    have es:shorts (mv (mv s a c n x) b c (-n) y) c=yq (fun d=>lotsOf (pair s c a b n x y) d c) s.cash.length:=by
     rw [z5a,j6,j6];rfl
    rw [es]
    exact zjH (fun d=>(most d c).1) r0.exercises
   ·rw [if_neg hci] at hr'
    subst hr'
    have hne:i + 1≠c:=by omega
    have:=h.run i r0 hi
    rw [hN]
    have ef:(fun d=>lotsOf (pair s c a b n x y) d (i + 1))=fun d=>lotsOf s d (i + 1):=by
     funext d;rw [JZ hab,if_neg hne]
    rw [ef];exact this
end Hx
namespace Hx
open Vbchaa
noncomputable def mvs (s:State) (c:Nat) (l:List (Nat × Int)) (pay:Int):State:=l.foldl (fun s p=>mv s p.1 c p.2 (-(p.2 * pay))) s
theorem JX (s:State) (c:Nat) (p:Nat × Int) (l:List (Nat × Int)) (pay:Int):mvs s c (p :: l) pay=mvs (mv s p.1 c p.2 (-(p.2 * pay))) c l pay:=rfl
theorem z4k (c:Nat) (pay:Int):∀ (l:List (Nat × Int)) (s:State),Like s (mvs s c l pay)
 | [],s=>⟨rfl,rfl,rfl,rfl,rfl,fun _=>rfl,rfl,rfl⟩
 | p :: l,s=>(Like.mv s _ _ _ _).trans (z4k c pay l _)
theorem z7w (c:Nat) (pay:Int):∀ (l:List (Nat × Int)) (s:State),(mvs s c l pay).runs=s.runs
 | [],s=>rfl
 | p :: l,s=>by rw [JX,z7w c pay l];rfl
theorem z7u (c:Nat) (pay:Int):∀ (l:List (Nat × Int)) (s:State),(l.map (·.1)).Nodup→∀ b e,lotsOf (mvs s c l pay) b e=lotsOf s b e + if e=c then look l b else 0
 | [],s,_,b,e=>by show lotsOf s b e=_;rw [z45];split <;> omega
 | p :: l,s,hn,b,e=>by
  rw [List.map_cons,List.nodup_cons] at hn
  rw [JX,z7u c pay l _ hn.2,Zr,ZI]
  by_cases he:e=c
  ·subst he
   rw [if_pos rfl,if_pos rfl]
   by_cases hb:b=p.1
   ·subst hb
    rw [if_pos ⟨rfl,rfl⟩,if_pos rfl,ZW hn.1];omega
   ·rw [if_neg (fun q=>hb q.1),if_neg (fun q=>hb q.symm)]
  ·rw [if_neg he,if_neg he,if_neg (fun q=>he q.2)]
theorem z7y (c:Nat) (pay:Int):∀ (l:List (Nat × Int)) (s:State),yt s.lots→yt (mvs s c l pay).lots
 | [],s,h=>h
 | p :: l,s,h=>z7y c pay l _ (z1A _ _ _ _ h)
theorem z7v (c:Nat) (pay:Int):∀ (l:List (Nat × Int)) (s:State) (z:Lots),z∈(mvs s c l pay).lots→z∈s.lots∨(z.lots≠0∧z.contract=c∧z.account∈l.map (·.1))
 | [],s,z,h=>.inl h
 | p :: l,s,z,h=>by
  rcases z7v c pay l _ z h with h | ⟨h1,h2,h3⟩
  ·rcases z1z (x:=-(p.2 * pay)) h with ⟨rfl,q⟩ | ⟨h,_⟩
   ·exact .inr ⟨q,rfl,by simp⟩
   ·exact .inl h
  ·exact .inr ⟨h1,h2,by rw [List.map_cons];exact List.mem_cons_of_mem _ h3⟩
theorem z7z (c:Nat) (pay:Int):∀ (l:List (Nat × Int)) (s:State) (N:Nat),(∀ p∈l,1≤p.1∧p.1≤N)→∀ e,zw (fun b=>lotsOf (mvs s c l pay) b e) N=zw (fun b=>lotsOf s b e) N + if e=c then total l else 0
 | [],s,N,_,e=>by show zw (fun b=>lotsOf s b e) N=_;rw [z2f];split <;> omega
 | p :: l,s,N,h,e=>by
  rw [JX,z7z c pay l _ N (fun q hq=>h q (by simp [hq])) e,Zv]
  by_cases he:e=c
  ·subst he
   rw [if_pos rfl,if_pos rfl]
   have hp:=h p (by simp)
   rw [z0b (f:=fun b=>lotsOf s b e) (g:=fun b=>lotsOf (mv s p.1 e p.2 (-(p.2 * pay))) b e) (a:=p.1) (d:=p.2) hp.1 hp.2 (fun b hb=>by rw [Zr,if_neg (fun q=>hb q.1)]) (by rw [Zr,if_pos ⟨rfl,rfl⟩])]
   omega
  ·rw [if_neg he,if_neg he,jN (g:=fun b=>lotsOf s b e) fun b _ _=>by rw [Zr,if_neg (fun q=>he q.2)]]
theorem zbl (g:Nat→Int):∀ l:List (Nat × Int),total (l.map fun p=>(p.1,p.2 - g p.1))=total l - ZH g (l.map (·.1))
 | []=>rfl
 | p :: l=>by
  rw [List.map_cons,Zv,zbl g l,Zv,List.map_cons]
  show p.2 - g p.1 + _=p.2 + total l - (g p.1 + ZH g (l.map (·.1)))
  omega
theorem z5w:∀ l:List (Nat × Int),total (l.filter fun p=>decide (p.2≠0))=total l
 | []=>rfl
 | p :: l=>by
  by_cases hp:p.2=0
  ·rw [List.filter_cons_of_neg (by simp [hp]),z5w l,Zv,hp];omega
  ·rw [List.filter_cons_of_pos (by simp [hp]),Zv,Zv,z5w l]
theorem zgq {r t:Run} {N:Nat} (hr:RunI r N) (ht:RunI t N) (hb:t.base=r.base):total (newly r t)=t.count - r.count:=by
 unfold newly
 rw [z5w,zbl (fun a=>assignedTo r a),ht.cnt,hr.cnt,zbj hr.ndA,ht.keys,hb,hr.keys]
 rfl
structure ExOk (s:State) (c a n:Nat):Prop where
 r:RunOk (runOf s c) (fun b=>lotsOf s b c) s.cash.length
 room:(runOf s c).count + n≤total (runOf s c).base
 t:RunI (assign n (runOf s c)) s.cash.length
 tb:(assign n (runOf s c)).base=(runOf s c).base
 tc:(assign n (runOf s c)).count=(runOf s c).count + n
 te:(assign n (runOf s c)).exercises=(runOf s c).exercises
 mono:∀ b,look (runOf s c).assigned b≤look (assign n (runOf s c)).assigned b
 out:a ∉ (runOf s c).base.map (·.1)
theorem z6v {s:State} (h:Core s) {c a n:Nat} (hc1:1≤c) (hc2:c≤s.contracts.length) (ha:1≤a∧a≤s.cash.length) (hn1:1≤n) (hn:(n:Int)≤lotsOf s a c):ExOk s c a n:=by
 have R:=h.runOk hc1 hc2
 have room:(runOf s c).count + n≤total (runOf s c).base:=by
  have h1:=R.left
  have h2:=zfS (f:=fun b=>lotsOf s b c) (n:=s.cash.length) (a:=a) (k:=n) (h.zero c) ha.1 ha.2 hn (by omega)
  omega
 obtain ⟨i1,i2,i3,i4,i5⟩:=RunI.assign n R.i room
 refine ⟨R,room,i1,i2,i3,i4,i5,fun hm=>?_⟩
 obtain ⟨p,hp,rfl⟩:=List.mem_map.mp hm
 have e1:=R.mem p hp
 have e2:=R.i.asg p hp
 try dsimp only at e1
 omega
theorem ZS (s:State) (k:Contract) (c a n:Nat):(exercised s k c a n).1 =
  { mvs (mv s a c (-(n:Int)) ((n:Int) * (k.mult * payoff k (priceOf s k.under)))) c (newly (runOf s c) (assign n (runOf s c))) (k.mult * payoff k (priceOf s k.under)) with
   runs:=s.runs.set (c - 1) { assign n (runOf s c) with exercises:=(runOf s c).exercises + 1 } }:=by
 have e:∀ (l:List (Nat × Int)) (u:State) (pay:Int),(l.foldl (fun s p=>addCash (addLots s p.1 c p.2) p.1 (-(p.2 * pay))) u)=mvs u c l pay:=fun l u pay=>rfl
 unfold exercised
 dsimp only
 rw [e]
 congr 1
 rw [z7w]
 rfl
theorem z4R {s:State} {l:List Run} {c d:Nat} {r:Run} (hl:l=s.runs.set (c - 1) r) (hc:1≤c) (hd:1≤d) (hcl:c - 1 < s.runs.length):l.getD (d - 1) ⟨[],[],0,0⟩=if d=c then r else runOf s d:=by
 subst hl
 rw [List.getD_eq_getElem?_getD]
 by_cases h:d=c
 ·subst h;rw [if_pos rfl,List.getElem?_set_self hcl];rfl
 ·rw [if_neg h,List.getElem?_set_ne (by omega)]
  unfold runOf
  rw [List.getD_eq_getElem?_getD]
theorem zd5 {s:State} {k:Contract} {c a n:Nat} (E:ExOk s c a n) (b e:Nat):lotsOf (exercised s k c a n).1 b e =
  if e=c then (if b=a then lotsOf s a c - n else lotsOf s b c + (look (assign n (runOf s c)).assigned b - look (runOf s c).assigned b)) else lotsOf s b e:=by
 rw [ZS]
 show lotsOf (mvs _ c _ _) b e=_
 rw [z7u c _ _ _ (z1E (z0I E.t)),Zr,z7Q E.r.i E.t E.tb]
 by_cases he:e=c
 ·subst he
  rw [if_pos rfl,if_pos rfl]
  by_cases hb:b=a
  ·subst hb
   rw [if_pos ⟨rfl,rfl⟩,if_pos rfl,ZW (by rw [E.t.keys,E.tb];exact E.out),ZW (by rw [E.r.i.keys];exact E.out)];omega
  ·rw [if_neg (fun q=>hb q.1),if_neg hb]
 ·rw [if_neg he,if_neg he,if_neg (fun q=>he q.2)];omega
theorem zd4 {s:State} (h:Core s) {k:Contract} {c a n:Nat} (hk:contractOf s c=some k) (ho:k.over=false) (ha:1≤a∧a≤s.cash.length) (hn1:1≤n) (hn:(n:Int)≤lotsOf s a c):Core (exercised s k c a n).1:=by
 obtain ⟨hc1,hc2⟩:=YI hk
 have E:=z6v h hc1 hc2 ha hn1 hn
 have hl:=zd5 (k:=k) E
 have nd:=z1E (z0I (r:=runOf s c) E.t)
 have nm:∀ p∈newly (runOf s c) (assign n (runOf s c)),1≤p.1∧p.1≤s.cash.length:=fun p hp=>by
  obtain ⟨q,hq,e⟩:=List.mem_map.mp (z4x E.r.i E.t E.tb E.mono hp).1
  rw [← e];exact E.r.i.rng q hq
 have L:Like s (mvs (mv s a c (-(n:Int)) ((n:Int) * (k.mult * payoff k (priceOf s k.under)))) c (newly (runOf s c) (assign n (runOf s c))) (k.mult * payoff k (priceOf s k.under))):=(Like.mv s _ _ _ _).trans (z4k c _ _ _)
 have most:∀ b e,-MOST≤lotsOf (exercised s k c a n).1 b e∧lotsOf (exercised s k c a n).1 b e≤MOST:=fun b e=>by
  rw [hl]
  have m1:=h.most b e
  have m2:=h.most b c
  have m3:=h.most a c
  split
  ·split
   ·omega
   ·by_cases hb:b∈(runOf s c).base.map (·.1)
    ·obtain ⟨p,hp,rfl⟩:=List.mem_map.mp hb
     have e1:=E.r.mem p hp
     have e2:=E.t.asg p (by rw [E.tb];exact hp)
     have e3:=E.r.i.pos p hp
     try dsimp only at e1
     have:(0:Int)≤MOST:=by decide
     omega
    ·rw [ZW (by rw [E.t.keys,E.tb];exact hb),ZW (by rw [E.r.i.keys];exact hb)];omega
  ·exact m1
 have eR:(exercised s k c a n).1.runs=s.runs.set (c - 1) { assign n (runOf s c) with exercises:=(runOf s c).exercises + 1 }:=by rw [ZS]
 have eN:(exercised s k c a n).1.cash.length=s.cash.length:=by rw [ZS];exact L.cashN
 have eC:(exercised s k c a n).1.contracts=s.contracts:=by rw [ZS];exact L.contracts
 have eP:(exercised s k c a n).1.prices=s.prices:=by rw [ZS];exact L.prices
 have eT:(exercised s k c a n).1.turn=s.turn:=by rw [ZS];exact L.turn
 refine ⟨by rw [eT];exact h.turn,by rw [eN];exact h.cashN,by rw [eP];exact h.priceN,by rw [eC];exact h.conN,by rw [eR,List.length_set,eC];exact h.runN,by rw [eP];exact h.prices,
  by rw [eC];exact fun k hk=>⟨(h.con k hk).kind,by rw [eP];exact (h.con k hk).under,(h.con k hk).strike,(h.con k hk).mult,(h.con k hk).expiry,by rw [eT];exact (h.con k hk).now,by rw [eT];exact (h.con k hk).past⟩,
  by rw [ZS];exact z7y c _ _ _ (z1A _ _ _ _ h.lotsS),fun z hz=>?_,most,fun e=>?_,fun e k' he ho' d=>?_,fun i r hr=>?_⟩
 ·rw [eN,eC]
  rw [ZS] at hz
  rcases z7v c _ _ _ z hz with hz | ⟨z1,z2,z3⟩
  ·rcases z1z (x:=(n:Int) * (k.mult * payoff k (priceOf s k.under))) hz with ⟨rfl,q⟩ | ⟨hz,_⟩
   ·exact ⟨q,ha.1,ha.2,hc1,hc2⟩
   ·exact h.lots z hz
  ·obtain ⟨p,hp,e⟩:=List.mem_map.mp z3
   have:=nm p hp
   refine ⟨z1,by rw [← e];exact this.1,by rw [← e];exact this.2,by rw [z2];exact hc1,by rw [z2];exact hc2⟩
 ·rw [eN,ZS]
  show zw (fun b=>lotsOf (mvs _ c _ _) b e) _=0
  rw [z7z c _ _ _ _ nm,zgq E.r.i E.t E.tb,E.tc]
  by_cases he:e=c
  ·subst he
   rw [if_pos rfl,z0b (f:=fun b=>lotsOf s b e) (a:=a) (d:=-(n:Int)) ha.1 ha.2 (fun b hb=>by rw [Zr,if_neg (fun q=>hb q.1)]) (by rw [Zr,if_pos ⟨rfl,rfl⟩]),h.zero];omega
  ·rw [if_neg he,jN (g:=fun b=>lotsOf s b e) fun b _ _=>by rw [Zr,if_neg (fun q=>he q.2)],h.zero];rfl
 ·have he':contractOf s e=some k':=by unfold contractOf at he ⊢;rw [eC] at he;exact he
  have hne:e≠c:=fun q=>by rw [q,hk] at he';cases he';rw [ho] at ho';cases ho'
  rw [hl,if_neg hne]
  exact h.over e k' he' ho' d
 ·rw [eR] at hr
  rw [eN]
  by_cases hci:c - 1=i
  ·have hlt:c - 1 < s.runs.length:=by rw [h.runN];omega
   rw [hci,List.getElem?_set_self (by omega)] at hr
   cases hr
   have e1:i + 1=c:=by omega
   rw [e1]
   refine ⟨⟨E.t.keys,E.t.rise,E.t.rng,E.t.pos,E.t.asg,E.t.cnt⟩,fun p hp=>?_,fun b h1 h2 hb=>?_⟩
   ·dsimp only at hp ⊢
    rw [E.tb] at hp
    have e2:=E.r.mem p hp
    have e3:p.1≠a:=fun q=>E.out (by rw [← q];exact List.mem_map_of_mem hp)
    try dsimp only at e2
    rw [hl,if_pos rfl,if_neg e3];omega
   ·dsimp only at hb ⊢
    rw [E.tb] at hb
    have e2:=E.r.out b h1 h2 hb
    try dsimp only at e2
    rw [hl,if_pos rfl,ZW (by rw [E.t.keys,E.tb];exact hb),ZW (by rw [E.r.i.keys];exact hb)]
    split <;> omega
  ·rw [List.getElem?_set_ne hci] at hr
   have:=h.run i r hr
   have ef:(fun d=>lotsOf (exercised s k c a n).1 d (i + 1))=fun d=>lotsOf s d (i + 1):=by
    funext d;rw [hl,if_neg (by omega)]
   rw [ef];exact this
end Hx
namespace Hx
open Vbchaa
noncomputable def ZE (s:State) (c:Nat):Bool:=match contractOf s c with
 | some k=>endsNow s k
 | none=>false
noncomputable def Y7 (s:State) (new:List Int) (x:Lots):Int:=match contractOf s x.contract with
 | some k=>x.lots * turned k (priceOf s k.under) (new.getD (k.under - 1) 0) (endsNow s k)
 | none=>0
theorem yM (s:State) (new:List Int):turnOver s new =
  { s with turn:=s.turn + 1,prices:=new,trades:=[],spent:=[],cash:=s.cash.mapIdx fun i m=>m + (s.lots.filter fun x=>x.account == i + 1).foldr (fun x n=>Y7 s new x + n) 0,lots:=s.lots.filter fun x=>!ZE s x.contract,contracts:=s.contracts.map fun k=>if endsNow s k=true then { k with over:=true } else k,runs:=s.runs.mapIdx fun i r=>if ZE s (i + 1)=true then { r with base:=[],assigned:=[],count:=0 } else r }:=rfl
theorem z4b (p:Nat→Bool):∀ (l:List Lots) (a c:Nat),lv (l.filter fun x=>p x.contract) a c=if p c=true then lv l a c else 0
 | [],a,c=>by rw [List.filter_nil,z7p];split <;> rfl
 | x :: l,a,c=>by
  by_cases hx:p x.contract=true
  ·rw [List.filter_cons_of_pos (p:=fun x:Lots=>p x.contract) hx,ZJ,ZJ,z4b p l]
   by_cases h:x.account=a∧x.contract=c
   ·rw [if_pos h,if_pos h,if_pos (by rw [← h.2];exact hx)]
   ·rw [if_neg h,if_neg h]
  ·rw [List.filter_cons_of_neg (by simpa using hx),z4b p l,ZJ]
   by_cases h:x.account=a∧x.contract=c
   ·rw [if_neg (by rw [← h.2];exact hx),if_neg (by rw [← h.2];exact hx)]
   ·rw [if_neg h]
theorem zbu (s:State) (new:List Int) (a c:Nat):lotsOf (turnOver s new) a c=if ZE s c=true then 0 else lotsOf s a c:=by
 rw [yM]
 show lv (s.lots.filter fun x=>!ZE s x.contract) a c=_
 rw [z4b (fun c=>!ZE s c)]
 cases ZE s c <;> simp <;> rfl
theorem zkO (s:State) (new:List Int) (c:Nat):contractOf (turnOver s new) c=(contractOf s c).map fun k=>if endsNow s k=true then { k with over:=true } else k:=by
 rw [yM]
 unfold contractOf
 dsimp only
 split
 ·rfl
 ·rw [List.getElem?_map]
theorem zkP {s:State} (h:Core s) {new:List Int} (hp:∀ p∈new,0≤p∧p≤PRICE) (hl:new.length=s.prices.length):Core (turnOver s new):=by
 have eL:=zbu s new
 have eN:(turnOver s new).cash.length=s.cash.length:=by rw [yM];dsimp only;rw [List.length_mapIdx]
 have eP:(turnOver s new).prices=new:=by rw [yM]
 have eT:(turnOver s new).turn=s.turn + 1:=by rw [yM]
 have eC:(turnOver s new).contracts.length=s.contracts.length:=by rw [yM];dsimp only;rw [List.length_map]
 have ht:=h.turn
 refine ⟨by rw [eT];omega,by rw [eN];exact h.cashN,by rw [eP,hl];exact h.priceN,by rw [eC];exact h.conN,?_,by rw [eP];exact hp,?_,?_,?_,fun a c=>?_,fun c=>?_,fun c k hc ho a=>?_,fun i r hr=>?_⟩
 ·rw [eC,yM];dsimp only;rw [List.length_mapIdx];exact h.runN
 ·intro k hk
  rw [yM] at hk
  obtain ⟨k0,hk0,rfl⟩:=List.mem_map.mp hk
  have o:=h.con k0 hk0
  by_cases he:endsNow s k0=true
  ·rw [if_pos he]
   refine ⟨o.kind,by rw [eP,hl];exact o.under,o.strike,o.mult,o.expiry,fun q=>(by cases q),fun _=>?_⟩
   unfold endsNow at he
   rw [Bool.and_eq_true] at he
   have:=of_decide_eq_true he.2
   rw [eT];dsimp only;omega
  ·rw [if_neg he]
   refine ⟨o.kind,by rw [eP,hl];exact o.under,o.strike,o.mult,o.expiry,fun q=>?_,fun q=>by have:=o.past q;rw [eT];omega⟩
   rw [eT]
   unfold endsNow at he
   rw [q] at he
   simp at he
   omega
 ·rw [yM];exact z24 _ h.lotsS
 ·intro x hx
  rw [eN,eC]
  rw [yM] at hx
  exact h.lots x (List.mem_filter.mp hx).1
 ·rw [eL]
  split
  ·decide
  ·exact h.most a c
 ·rw [eN]
  by_cases hg:ZE s c=true
  ·exact z5r fun a _ _=>by rw [eL,if_pos hg]
  ·rw [jN (g:=fun a=>lotsOf s a c) fun a _ _=>by rw [eL,if_neg hg]]
   exact h.zero c
 ·rw [zkO] at hc
  cases hk:contractOf s c with
  | none=>rw [hk] at hc;cases hc
  | some k0=>
   rw [hk] at hc
   have hc:=Option.some.inj hc
   dsimp only at hc
   rw [eL]
   by_cases he:endsNow s k0=true
   ·rw [if_pos]
    unfold ZE;rw [hk];exact he
   ·rw [if_neg he] at hc
    subst hc
    rw [h.over c k0 hk ho a]
    split <;> rfl
 ·rw [eN]
  rw [yM] at hr
  dsimp only at hr
  rw [List.getElem?_mapIdx] at hr
  cases hi:s.runs[i]? with
  | none=>rw [hi] at hr;cases hr
  | some r0=>
   rw [hi] at hr
   have hr:=Option.some.inj hr
   dsimp only at hr
   by_cases hg:ZE s (i + 1)=true
   ·rw [if_pos hg] at hr
    subst hr
    exact z8D (fun a _ _=>by rw [eL,if_pos hg];exact Int.le_refl _) _
   ·rw [if_neg hg] at hr
    subst hr
    have ef:(fun a=>lotsOf (turnOver s new) a (i + 1))=fun a=>lotsOf s a (i + 1):=by
     funext a;rw [eL,if_neg hg]
    rw [ef];exact h.run i r0 hi
theorem zkV (s:State) (new:List Int):Trs (turnOver s new):=by
 rw [yM]
 exact ⟨by simp,by simp,by simp,by simp,by simp⟩
theorem zbW {s:State} (h:Core s) (hn:s.cash.length < 12):Core { s with cash:=s.cash ++ [0] }:=by
 have eN:(s.cash ++ [0]).length=s.cash.length + 1:=by simp
 have z:∀ c,lotsOf s (s.cash.length + 1) c=0:=fun c=>by
  apply Classical.byContradiction
  intro q
  have:=(h.range q).2.1
  omega
 refine ⟨h.turn,by dsimp only;rw [eN];omega,h.priceN,h.conN,h.runN,h.prices,fun k hk=>⟨(h.con k hk).kind,(h.con k hk).under,(h.con k hk).strike,(h.con k hk).mult,(h.con k hk).expiry,(h.con k hk).now,(h.con k hk).past⟩,h.lotsS,fun x hx=>?_,h.most,fun c=>?_,h.over,fun i r hr=>?_⟩
 ·have:=h.lots x hx
  dsimp only;rw [eN];omega
 ·dsimp only;rw [eN]
  show zw (fun a=>lotsOf s a c) s.cash.length + lotsOf s (s.cash.length + 1) c=0
  rw [h.zero,z];rfl
 ·have R:=h.run i r hr
  dsimp only;rw [eN]
  refine ⟨⟨R.i.keys,R.i.rise,fun p hp=>by have:=R.i.rng p hp;omega,R.i.pos,R.i.asg,R.i.cnt⟩,R.mem,fun a h1 h2 hn=>?_⟩
  by_cases e:a=s.cash.length + 1
  ·subst e
   show 0≤lotsOf s (s.cash.length + 1) (i + 1)
   rw [z];exact Int.le_refl _
  ·exact R.out a h1 (by omega) hn
theorem zbX {s:State} (h:Trs s):Trs { s with cash:=s.cash ++ [0] }:=by
 refine ⟨h.sorted,fun t ht=>?_,h.sp,h.spN,h.spD⟩
 have o:=h.ok t ht
 refine ⟨o.key,o.con,?_,?_,o.ne,o.lots,o.price,o.seen,fun sd tk q=>?_⟩
 ·have:=o.buyer;dsimp only;rw [List.length_append];simp;omega
 ·have:=o.seller;dsimp only;rw [List.length_append];simp;omega
 ·have:=o.given sd tk q;dsimp only;rw [List.length_append];simp;omega
theorem zm7 {s:State} (h:Core s) {p:Int} (hp:0≤p∧p≤PRICE) (hn:s.prices.length < 4):Core { s with prices:=s.prices ++ [p] }:=by
 have eN:(s.prices ++ [p]).length=s.prices.length + 1:=by simp
 refine ⟨h.turn,h.cashN,by dsimp only;rw [eN];omega,h.conN,h.runN,fun q hq=>?_,fun k hk=>⟨(h.con k hk).kind,by have:=(h.con k hk).under;dsimp only;rw [eN];omega,(h.con k hk).strike,(h.con k hk).mult,(h.con k hk).expiry,(h.con k hk).now,(h.con k hk).past⟩,h.lotsS,h.lots,h.most,h.zero,h.over,h.run⟩
 rcases List.mem_append.mp hq with hq | hq
 ·exact h.prices q hq
 ·rw [List.mem_singleton.mp hq];exact hp
theorem zm8 {s:State} (h:Trs s) (p:Int):Trs { s with prices:=s.prices ++ [p] } :=
 ⟨h.sorted,fun t ht=>let o:=h.ok t ht;⟨o.key,o.con,o.buyer,o.seller,o.ne,o.lots,o.price,o.seen,o.given⟩,h.sp,h.spN,h.spD⟩
theorem zcG {s:State} (h:Core s) {k:Contract} (hk:ConOk s k) (ho:k.over=false) (hn:s.contracts.length < 12):Core { s with contracts:=s.contracts ++ [k],runs:=s.runs ++ [⟨[],[],0,0⟩] }:=by
 have eN:(s.contracts ++ [k]).length=s.contracts.length + 1:=by simp
 have lift:∀ {k'},ConOk s k'→ConOk { s with contracts:=s.contracts ++ [k],runs:=s.runs ++ [⟨[],[],0,0⟩] } k':=fun o=>⟨o.kind,o.under,o.strike,o.mult,o.expiry,o.now,o.past⟩
 have z:∀ a,lotsOf s a (s.contracts.length + 1)=0:=fun a=>by
  apply Classical.byContradiction
  intro q
  have:=(h.range q).2.2.2
  omega
 refine ⟨h.turn,h.cashN,h.priceN,by dsimp only;rw [eN];omega,by dsimp only;rw [List.length_append,eN,h.runN];rfl,h.prices,fun k' hk'=>?_,h.lotsS,fun x hx=>?_,h.most,h.zero,fun c k' hc ho' a=>?_,fun i r hr=>?_⟩
 ·rcases List.mem_append.mp hk' with q | q
  ·exact lift (h.con k' q)
  ·rw [List.mem_singleton.mp q];exact lift hk
 ·have:=h.lots x hx
  dsimp only;rw [eN];omega
 ·show lotsOf s a c=0
  obtain ⟨h1,h2⟩:=ZR.mp hc
  dsimp only at h2
  by_cases hlt:c - 1 < s.contracts.length
  ·rw [List.getElem?_append_left hlt] at h2
   exact h.over c k' (ZR.mpr ⟨h1,h2⟩) ho' a
  ·have:=(List.getElem?_eq_some_iff.mp h2).1
   rw [eN] at this
   have e:c=s.contracts.length + 1:=by omega
   rw [e,z]
 ·show RunOk r (fun a=>lotsOf s a (i + 1)) s.cash.length
  dsimp only at hr
  by_cases hlt:i < s.runs.length
  ·rw [List.getElem?_append_left hlt] at hr
   exact h.run i r hr
  ·have:=(List.getElem?_eq_some_iff.mp hr).1
   rw [List.length_append] at this
   have e:i=s.runs.length:=by simp at this;omega
   subst e
   rw [List.getElem?_append_right (Nat.le_refl _)] at hr
   simp at hr
   subst hr
   exact z8D (fun a _ _=>by rw [h.runN,z];exact Int.le_refl _) _
theorem zcH {s:State} (hc:Core s) (h:Trs s) (k:Contract):Trs { s with contracts:=s.contracts ++ [k],runs:=s.runs ++ [⟨[],[],0,0⟩] }:=by
 refine ⟨h.sorted,fun t ht=>?_,h.sp,h.spN,h.spD⟩
 have o:=h.ok t ht
 obtain ⟨k0,e0,v0⟩:=o.con
 have hle:=YI e0
 obtain ⟨h1,h2⟩:=ZR.mp e0
 refine ⟨o.key,⟨k0,ZR.mpr ⟨h1,by dsimp only;rw [List.getElem?_append_left (by omega)];exact h2⟩,v0⟩,o.buyer,o.seller,o.ne,o.lots,o.price,?_,o.given⟩
 have:runOf { s with contracts:=s.contracts ++ [k],runs:=s.runs ++ [⟨[],[],0,0⟩] } t.contract=runOf s t.contract:=by
  unfold runOf
  dsimp only
  rw [List.getD_eq_getElem?_getD,List.getD_eq_getElem?_getD,List.getElem?_append_left (by rw [hc.runN];omega)]
 rw [this];exact o.seen
theorem z1w (x:Trade):∀ (l:List Trade) (z:Trade),z∈putTrade x l↔z=x∨z∈l
 | [],z=>by simp [putTrade]
 | y :: l,z=>by
  unfold putTrade
  by_cases hb:x.key < y.key
  ·rw [if_pos hb];simp
  ·rw [if_neg hb,List.mem_cons,z1w x l z,List.mem_cons]
   constructor
   ·rintro (h | h | h) <;> simp [h]
   ·rintro (h | h | h) <;> simp [h]
theorem za5 (x:Trade):∀ (l:List Trade),l.Pairwise (fun x y=>x.key < y.key)→(∀ y∈l,y.key≠x.key)→(putTrade x l).Pairwise fun x y=>x.key < y.key
 | [],_,_=>by simp [putTrade]
 | y :: l,hs,hn=>by
  unfold putTrade
  have hs':=List.pairwise_cons.mp hs
  by_cases hb:x.key < y.key
  ·rw [if_pos hb]
   refine List.pairwise_cons.mpr ⟨fun z hz=>?_,hs⟩
   rcases List.mem_cons.mp hz with rfl | hz
   ·exact hb
   ·have:=hs'.1 z hz;omega
  ·rw [if_neg hb]
   refine List.pairwise_cons.mpr ⟨fun z hz=>?_,za5 x l hs'.2 fun w hw=>hn w (by simp [hw])⟩
   rcases (z1w x l z).mp hz with rfl | hz
   ·have:=hn y (by simp);omega
   ·exact hs'.1 z hz
theorem je {s:State} {key:Int} {t:Trade} (h:tradeOf s key=some t):t∈s.trades∧t.key=key:=by
 unfold tradeOf at h
 have h2:=List.find?_some h
 exact ⟨List.mem_of_find?_eq_some h,by simpa using h2⟩
theorem z59 {s:State} (h:Trs s) {x:Trade} (hx:TrdOk s x):Trs (setTrade s x):=by
 have hk:∀ y:Trade,(if y.key=x.key then x else y).key=y.key:=fun y=>by
  split
  ·rename_i e;exact e.symm
  ·rfl
 refine ⟨?_,fun t ht=>?_,fun t ht=>?_,h.spN,h.spD⟩
 ·show (s.trades.map fun y=>if y.key=x.key then x else y).Pairwise _
  rw [List.pairwise_map]
  refine h.sorted.imp fun {a b} hab=>?_
  rw [hk,hk];exact hab
 ·obtain ⟨y,hy,rfl⟩:=List.mem_map.mp ht
  split
  ·exact ⟨hx.key,hx.con,hx.buyer,hx.seller,hx.ne,hx.lots,hx.price,hx.seen,hx.given⟩
  ·have o:=h.ok y hy
   exact ⟨o.key,o.con,o.buyer,o.seller,o.ne,o.lots,o.price,o.seen,o.given⟩
 ·obtain ⟨y,hy,rfl⟩:=List.mem_map.mp ht
  rw [hk];exact h.sp y hy
theorem z58 {s:State} (h:Core s) (x:Trade):Core (setTrade s x) :=
 ⟨h.turn,h.cashN,h.priceN,h.conN,h.runN,h.prices,fun k hk=>⟨(h.con k hk).kind,(h.con k hk).under,(h.con k hk).strike,(h.con k hk).mult,(h.con k hk).expiry,(h.con k hk).now,(h.con k hk).past⟩,h.lotsS,h.lots,h.most,h.zero,h.over,h.run⟩
theorem z6j {s:State} (h:Core s) (l:List Trade) (m:List Int):Core { s with trades:=l,spent:=m } :=
 ⟨h.turn,h.cashN,h.priceN,h.conN,h.runN,h.prices,fun k hk=>⟨(h.con k hk).kind,(h.con k hk).under,(h.con k hk).strike,(h.con k hk).mult,(h.con k hk).expiry,(h.con k hk).now,(h.con k hk).past⟩,h.lotsS,h.lots,h.most,h.zero,h.over,h.run⟩
theorem zcY {s:State} (h:Trs s) (p:Trade→Bool):Trs { s with trades:=s.trades.filter p } :=
 ⟨h.sorted.filter p,fun t ht=>let o:=h.ok t (List.mem_filter.mp ht).1;⟨o.key,o.con,o.buyer,o.seller,o.ne,o.lots,o.price,o.seen,o.given⟩,fun t ht=>h.sp t (List.mem_filter.mp ht).1,h.spN,h.spD⟩
theorem ziN {s:State} (h:Trs s) {x:Trade} (hx:TrdOk s x) (hn:x.key ∉ s.spent) (hl:s.spent.length < 60):Trs { s with trades:=putTrade x s.trades,spent:=x.key :: s.spent }:=by
 refine ⟨za5 x _ h.sorted fun y hy e=>hn (by rw [← e];exact h.sp y hy),fun t ht=>?_,fun t ht=>?_,by show (x.key :: s.spent).length≤60;rw [List.length_cons];omega,List.nodup_cons.mpr ⟨hn,h.spD⟩⟩
 ·rcases (z1w _ _ _).mp ht with rfl | ht
  ·exact ⟨hx.key,hx.con,hx.buyer,hx.seller,hx.ne,hx.lots,hx.price,hx.seen,hx.given⟩
  ·have o:=h.ok t ht
   exact ⟨o.key,o.con,o.buyer,o.seller,o.ne,o.lots,o.price,o.seen,o.given⟩
 ·rcases (z1w _ _ _).mp ht with rfl | ht
  ·exact List.mem_cons_self
  ·exact List.mem_cons_of_mem _ (h.sp t ht)
end Hx
namespace Hx
open Vbchaa
theorem yU {n lo hi:Int}:within n lo hi=true↔lo≤n∧n≤hi:=by unfold within;simp
theorem z0x {s:State} {a:Int}:isAccount s a=true↔1≤a∧a≤s.cash.length:=yU
theorem z76 {s:State} {a:Int}:isUnder s a=true↔1≤a∧a≤s.prices.length:=yU
theorem z3X {s:State} {a:Int}:isContract s a=true↔1≤a∧a≤s.contracts.length:=yU
theorem jm {s:State} {a c:Nat} {n:Int}:fitsLots s a c n=true↔-MOST≤lotsOf s a c + n∧lotsOf s a c + n≤MOST:=by unfold fitsLots;simp
theorem z5U {s:State} {c:Int}:alive s c=true↔∃ k,contractOf s c.toNat=some k∧k.over=false:=by
 unfold alive
 cases contractOf s c.toNat with
 | none=>simp
 | some k=>simp
theorem z66 (s:State) (k:Contract) (t:Trade) (sign:Int):∃ x y,both s k t sign=pair s t.contract t.buyer t.seller (sign * t.lots) x y:=by
 refine ⟨if k.kind=0 then sign * (t.lots * k.mult * (priceOf s k.under - t.price)) else -(sign * (t.lots * k.mult * t.price)),
  if k.kind=0 then sign * (-t.lots * k.mult * (priceOf s k.under - t.price)) else -(sign * (-t.lots * k.mult * t.price)),?_⟩
 unfold pair
 rw [← Int.mul_neg sign t.lots]
 rfl
theorem z7T {c:Prop} [Decidable c] {a b:State × Ans} (ha:Ok a.1) (hb:¬ c→Ok b.1):Ok (if c then a else b).1:=by
 by_cases h:c
 ·rw [if_pos h];exact ha
 ·rw [if_neg h];exact hb h
theorem zkF (s:State) (k:Contract) (c giver taker:Nat) (n price:Int):∃ x y,anew (side (side s k c giver n price (-1)) k c taker n price 1) c=pair s c giver taker (-1 * n) x y:=by
 refine ⟨if k.kind=0 then -1 * (n * k.mult * (priceOf s k.under - price)) else -(-1 * (n * k.mult * price)),
  if k.kind=0 then 1 * (n * k.mult * (priceOf s k.under - price)) else -(1 * (n * k.mult * price)),?_⟩
 unfold pair
 rw [show -(-1 * n)=1 * n by omega]
 rfl
theorem z4B {s:State} (h:Ok s) {key:Int} {f:Trade→Contract→State × Ans} (hf:∀ t k,t∈s.trades→t.key=key→contractOf s t.contract=some k→Ok (f t k).1):Ok (onTrade s key f).1:=by
 unfold onTrade
 cases e:tradeOf s key with
 | none=>exact h
 | some t=>
  dsimp only
  cases e2:contractOf s t.contract with
  | none=>exact h
  | some k=>exact hf t k (je e).1 (je e).2 e2
theorem zhv:Ok start:=by
 refine ⟨⟨by decide,by decide,by decide,by decide,rfl,by simp [start],by simp [start],by simp [start,yt],by simp [start],fun a c=>?_,fun c=>rfl,fun c k h=>?_,by simp [start]⟩,⟨by simp [start],by simp [start],by simp [start],by decide,by simp [start]⟩⟩
 ·show -MOST≤0∧(0:Int)≤MOST;decide
 ·have:=YI h
  simp [start] at this;omega
theorem z7W {s:State} (h:Trs s) {t:Trade} (ht:t∈s.trades) {k:Contract} (hk:contractOf s t.contract=some k):k.over=false:=by
 obtain ⟨k0,e,v⟩:=(h.ok t ht).con
 rw [hk] at e;cases e;exact v
theorem Ok.step {s:State} (h:Ok s) (call:Call):Ok (Vbchaa.step s call).1:=by
 cases call with
 | account=>
  unfold Vbchaa.step
  dsimp only
  split
  ·exact h
  ·rename_i hn
   have:s.cash.length < 12:=by unfold ACCOUNTS at hn;omega
   exact ⟨zbW h.c this,zbX h.t⟩
 | under p=>
  unfold Vbchaa.step
  dsimp only
  split
  ·exact h
  ·rename_i hp
   split
   ·exact h
   ·rename_i hn
    have:s.prices.length < 4:=by unfold UNDERS at hn;omega
    rw [Bool.not_eq_false,yU] at hp
    exact ⟨zm7 h.c hp this,zm8 h.t p⟩
 | contract kind u strike mult expiry=>
  unfold Vbchaa.step
  dsimp only
  split
  ·exact h
  ·rename_i h1
   split
   ·exact h
   ·rename_i h2
    split
    ·exact h
    ·rename_i h3
     split
     ·exact h
     ·rename_i h4
      rw [Bool.not_eq_false,Bool.and_eq_true,Bool.and_eq_true,Bool.and_eq_true,yU,yU,yU,yU] at h1
      rw [Bool.not_eq_false,z76] at h2
      obtain ⟨a1,a2,a3,a4⟩:=h1
      have h3':¬ expiry < s.turn:=fun q=>h3 (.inr q)
      have hc:ConOk s ⟨kind,u.toNat,strike,mult,expiry,false⟩:=⟨a1,by dsimp only;omega,a2,a3,a4,fun _=>by dsimp only;omega,fun q=>by cases q⟩
      have:s.contracts.length < 12:=by unfold CONTRACTS at h4;omega
      exact ⟨zcG h.c hc rfl this,zcH h.c h.t _⟩
 | trade key c buyer seller lots price=>
  unfold Vbchaa.step
  dsimp only
  split
  ·exact h
  ·rename_i h1
   split
   ·exact h
   ·rename_i h2
    split
    ·exact h
    ·rename_i h3
     split
     ·exact h
     ·rename_i h4
      split
      ·exact h
      ·rename_i h5
       split
       ·exact h
       ·rename_i h6
        split
        ·exact h
        ·rename_i h7
         split
         ·exact h
         ·rename_i k hk
          rw [Bool.not_eq_false,Bool.and_eq_true,Bool.and_eq_true,yU,yU,yU] at h1
          rw [Bool.not_eq_false,Bool.and_eq_true,Bool.and_eq_true,z3X,z0x,z0x] at h2
          rw [Bool.not_eq_false,z5U] at h3
          rw [Bool.not_eq_false,Bool.and_eq_true,jm,jm] at h6
          obtain ⟨b1,b2,b3⟩:=h1
          obtain ⟨c1,c2,c3⟩:=h2
          obtain ⟨k',e',v'⟩:=h3
          rw [hk] at e';cases e'
          have hsp:key ∉ s.spent:=fun q=>h5 (List.contains_iff_mem.mpr q)
          have hne:buyer.toNat≠seller.toNat:=by omega
          obtain ⟨x,y,eq⟩:=z66 s k ⟨key,c.toNat,buyer.toNat,seller.toNat,lots,price,(runOf s c.toNat).exercises,false,false,none⟩ 1
          dsimp only at eq
          rw [eq]
          have L:=JY s c.toNat buyer.toNat seller.toNat (1 * lots) x y
          have C:=z4E (x:=x) (y:=y) h.c (n:=1 * lots) hne hk v' ⟨by omega,by omega⟩ ⟨by omega,by omega⟩ (by rw [Int.one_mul];exact h6.1) (by rw [Int.one_mul,Int.sub_eq_add_neg];exact h6.2)
          have T:=L.trs h.t
          have hx:TrdOk s ⟨key,c.toNat,buyer.toNat,seller.toNat,lots,price,(runOf s c.toNat).exercises,false,false,none⟩ :=
           ⟨b1,⟨k,hk,v'⟩,⟨by dsimp only;omega,by dsimp only;omega⟩,⟨by dsimp only;omega,by dsimp only;omega⟩,hne,b2,b3,Nat.le_refl _,fun sd tk q=>by cases q⟩
          refine ⟨z6j C _ _,?_⟩
          have hl60:s.spent.length < 60:=by unfold TRADES at h7;omega
          have:=ziN T (L.trdOk hx) (by dsimp only;rw [L.spent];exact hsp) (by rw [L.spent];exact hl60)
          exact this
 | agree key a=>
  unfold Vbchaa.step
  dsimp only
  refine z4B h fun t k ht hkey hk=>?_
  split
  ·exact h
  ·split
   ·exact h
   ·have o:=h.t.ok t ht
    unfold agreed
    dsimp only
    split
    ·exact ⟨z58 h.c _,z59 h.t ⟨o.key,o.con,o.buyer,o.seller,o.ne,o.lots,o.price,o.seen,o.given⟩⟩
    ·split
     ·exact h
     ·rename_i hf
      rw [Bool.not_eq_false,Bool.and_eq_true,jm,jm] at hf
      obtain ⟨x,y,eq⟩:=z66 s k { t with yesBuyer:=t.yesBuyer || decide (a=nat t.buyer),yesSeller:=t.yesSeller || decide (a=nat t.seller) } (-1)
      dsimp only at eq
      rw [eq]
      have L:=JY s t.contract t.buyer t.seller (-1 * t.lots) x y
      have C:=z4E (x:=x) (y:=y) h.c (n:=-1 * t.lots) o.ne hk (z7W h.t ht hk) o.buyer o.seller (by rw [show -1 * t.lots = -t.lots by omega];exact hf.1) (by rw [show lotsOf s t.seller t.contract - -1 * t.lots=lotsOf s t.seller t.contract + t.lots by omega];exact hf.2)
      exact ⟨z6j C _ _,zcY (L.trs h.t) _⟩
 | give key sd taker=>
  unfold Vbchaa.step
  dsimp only
  split
  ·exact h
  ·rename_i hsd
   refine z4B h fun t k ht hkey hk=>?_
   split
   ·exact h
   ·rename_i h1
    split
    ·exact h
    ·rename_i h2
     have o:=h.t.ok t ht
     rw [Bool.not_eq_false,yU] at hsd
     rw [Bool.not_eq_false,z0x] at h1
     refine ⟨z58 h.c _,z59 h.t ⟨o.key,o.con,o.buyer,o.seller,o.ne,o.lots,o.price,o.seen,fun sd' tk q=>?_⟩⟩
     cases q
     have n1:taker≠nat t.buyer:=fun q=>h2 (.inl q)
     have n2:taker≠nat t.seller:=fun q=>h2 (.inr q)
     unfold nat at n1 n2
     dsimp only
     refine ⟨by omega,by omega,by omega,by omega,by omega⟩
 | take key=>
  unfold Vbchaa.step
  dsimp only
  refine z4B h fun t k ht hkey hk=>?_
  unfold taken
  cases hg:t.given with
  | none=>exact h
  | some p=>
   obtain ⟨sd,taker⟩:=p
   dsimp only
   refine z7T h fun _=>z7T h fun hf=>?_
   ··rw [Bool.not_eq_false,Bool.and_eq_true,jm,jm] at hf
     have o:=h.t.ok t ht
     obtain ⟨g1,g2,g3,g4,g5⟩:=o.given sd taker hg
     obtain ⟨x,y,eq⟩:=zkF s k t.contract (if sd=0 then t.buyer else t.seller) taker (if sd=0 then t.lots else -t.lots) t.price
     rw [eq]
     have L:=JY s t.contract (if sd=0 then t.buyer else t.seller) taker (-1 * (if sd=0 then t.lots else -t.lots)) x y
     have C:=z4E (x:=x) (y:=y) h.c (a:=if sd=0 then t.buyer else t.seller) (b:=taker) (n:=-1 * (if sd=0 then t.lots else -t.lots)) (by split <;> omega) hk (z7W h.t ht hk) (by split;exact o.buyer;exact o.seller) ⟨g2,g3⟩
      (by rw [show -1 * (if sd=0 then t.lots else -t.lots) = -(if sd=0 then t.lots else -t.lots) by omega];exact hf.1) (by rw [show lotsOf s taker t.contract - -1 * (if sd=0 then t.lots else -t.lots)=lotsOf s taker t.contract + (if sd=0 then t.lots else -t.lots) by omega];exact hf.2)
     refine ⟨z58 C _,z59 (L.trs h.t) (L.trdOk ⟨o.key,o.con,?_,?_,?_,o.lots,o.price,o.seen,fun _ _ q=>by cases q⟩)⟩
     ·dsimp only;split
      ·exact ⟨g2,g3⟩
      ·exact o.buyer
     ·dsimp only;split
      ·exact o.seller
      ·exact ⟨g2,g3⟩
     ·dsimp only;split
      ·omega
      ·omega
 | exercise a c n=>
  unfold Vbchaa.step
  dsimp only
  split
  ·exact h
  ·rename_i h1
   split
   ·exact h
   ·rename_i h2
    split
    ·exact h
    ·rename_i h3
     split
     ·exact h
     ·rename_i k hk
      split
      ·exact h
      ·split
       ·exact h
       ·rename_i h4
        split
        ·exact h
        ·rw [Bool.not_eq_false,yU] at h1
         rw [Bool.not_eq_false,Bool.and_eq_true,z0x,z3X] at h2
         rw [Bool.not_eq_false,z5U] at h3
         obtain ⟨k',e',v'⟩:=h3
         rw [hk] at e';cases e'
         dsimp only
         have hN:((n.toNat:Nat):Int)=n:=by omega
         refine ⟨zd4 h.c hk v' ⟨by omega,by omega⟩ (by omega) (by rw [hN];omega),?_⟩
         obtain ⟨hc1,hc2⟩:=YI hk
         have L:Like s (mvs (mv s a.toNat c.toNat (-(n.toNat:Int)) ((n.toNat:Int) * (k.mult * payoff k (priceOf s k.under)))) c.toNat (newly (runOf s c.toNat) (assign n.toNat (runOf s c.toNat))) (k.mult * payoff k (priceOf s k.under))):=(Like.mv s _ _ _ _).trans (z4k _ _ _ _)
         have T:=L.trs h.t
         rw [ZS]
         refine ⟨T.sorted,fun t ht=>?_,T.sp,T.spN,T.spD⟩
         have o:=T.ok t ht
         refine ⟨o.key,o.con,o.buyer,o.seller,o.ne,o.lots,o.price,?_,o.given⟩
         obtain ⟨kt,et,_⟩:=o.con
         have ht1:=YI et
         refine Nat.le_trans o.seen ?_
         rw [L.ex]
         show _≤(List.getD _ _ _:Run).exercises
         dsimp only
         rw [z4R rfl hc1 ht1.1 (by rw [h.c.runN];omega)]
         split
         ·rename_i e;rw [e];exact Nat.le_succ _
         ·exact Nat.le_refl _
 | turn new=>
  unfold Vbchaa.step
  dsimp only
  split
  ·exact h
  ·rename_i h1
   split
   ·exact h
   ·rename_i h2
    rw [Bool.not_eq_false,List.all_eq_true] at h1
    exact ⟨zkP h.c (fun p hp=>yU.mp (h1 p hp)) (by omega),zkV s new⟩
 | position a c=>unfold Vbchaa.step;dsimp only;split <;> exact h
 | positions a=>unfold Vbchaa.step;dsimp only;split <;> exact h
 | cash a=>unfold Vbchaa.step;dsimp only;split <;> exact h
 | run c=>unfold Vbchaa.step;dsimp only;split <;> exact h
 | wouldAssign c n=>unfold Vbchaa.step;dsimp only;split;exact h;split;exact h;split <;> exact h
 | open_ c=>unfold Vbchaa.step;dsimp only;split <;> exact h
 | trades=>exact h
 | told=>exact h
end Hx
namespace Hx
open Vbchaa
theorem zmc (c:List (List Int)):PyVbchaa.whole c=c:=by
 rcases c with _ | ⟨_ | ⟨n | n,r⟩,_ | ⟨q,_ | ⟨_,_⟩⟩⟩ <;> first | rfl | (rcases n with _ | _ | _ | _ | _ | _ | _ | _ | _ | _ | _ | _ | _ | _ | _ | _ | _ | n <;> first | rfl | (rcases r with _ | ⟨_,_ | ⟨_,_⟩⟩ <;> rfl) | (rcases r with _ | ⟨_,_ | ⟨_,_ | ⟨_,_ | ⟨_,_⟩⟩⟩⟩ <;> rfl) | (rcases r with _ | ⟨_,_ | ⟨_,_ | ⟨_,_ | ⟨_,_ | ⟨_,_ | ⟨_,_ | ⟨_,_⟩⟩⟩⟩⟩⟩⟩ <;> rfl))
theorem zg6 (cs:List (List (List Int))):cs.map PyVbchaa.whole=cs:=by
 induction cs with
 | nil=>rfl
 | cons c cs ih=>rw [List.map_cons,zmc,ih]
theorem z6b (l:List Int):PyVbchaa.calls l=PyFlat.calls PyVbchaa.shape l.length l:=by
 unfold PyVbchaa.calls
 cases PyFlat.calls PyVbchaa.shape l.length l with
 | none=>rfl
 | some cs=>dsimp only;rw [zg6]
noncomputable def due (s:State) (cs:List (List (List Int))):List Int:=PyFlat.told (PyFlat.played VbchaaNeutral.step s cs)
theorem zd1 (s:State):due s []=[]:=rfl
theorem zd0 (s:State) (c:List (List Int)) (cs:List (List (List Int))):due s (c :: cs)=((VbchaaNeutral.step s c).2.length:Int) :: (VbchaaNeutral.step s c).2 ++ due (VbchaaNeutral.step s c).1 cs:=by
 unfold due PyFlat.told
 rw [PyFlat.played,List.flatMap_cons]
theorem zc4 {l:List Int} {cs:List (List (List Int))} (h:PyFlat.calls PyVbchaa.shape l.length l=some cs):PyVbchaa.answers l=due start cs:=by
 unfold PyVbchaa.answers
 rw [z6b,h]
 rfl
theorem zcc {l:List Int} (h:PyVbchaa.answers_asked l=true):∃ cs,PyFlat.calls PyVbchaa.shape l.length l=some cs∧cs.length≤400∧∀ c∈cs,VbchaaNeutral.asked1 c=true:=by
 unfold PyVbchaa.answers_asked at h
 rw [z6b] at h
 cases e:PyFlat.calls PyVbchaa.shape l.length l with
 | none=>rw [e] at h;cases h
 | some cs=>
  rw [e] at h
  dsimp only at h
  rw [Bool.and_eq_true] at h
  unfold VbchaaNeutral.asked at h
  rw [Bool.and_eq_true,Bool.and_eq_true] at h
  refine ⟨cs,rfl,of_decide_eq_true h.2.2.2,fun c hc=>List.all_eq_true.mp h.2.1 c hc⟩
noncomputable def wid (p:Int):Nat:=if p=0 then 0 else if p=1 then 1 else if p=2 then 5 else if p=3 then 6 else if p=4 then 2 else if p=5 then 3 else if p=6 then 1 else if p=7 then 3 else if p=9 then 2 else if p=10 then 1 else if p=11 then 1 else if p=12 then 1 else if p=13 then 2 else if p=14 then 1 else 0
noncomputable def z1t:List (Int × Nat × Nat)→Int→Option (Nat × Nat)
 | [],_=>none
 | (i,v) :: t,p=>if p=i then some v else z1t t p
theorem z7i {p:Int} {v:Nat × Nat}:∀ {t:List (Int × Nat × Nat)},z1t t p=some v→(p,v)∈t
 | (i,u) :: t,h=>by
  unfold z1t at h
  split at h
  ·rename_i e;cases h;rw [e];exact .head _
  ·exact .tail _ (z7i h)
noncomputable def zbf:List (Int × Nat × Nat):=[(0,0,0),(1,1,0),(2,5,0),(3,6,0),(4,2,0),(5,3,0),(6,1,0),(7,3,0),(8,0,1),(9,2,0),(10,1,0),(11,1,0),(12,1,0),(13,2,0),(14,1,0),(15,0,0),(16,0,0)]
theorem zkm {p:Int} {n k:Nat} (h:PyVbchaa.shape p=some (n,k)):(0≤p∧p≤16)∧((p=8∧n=0∧k=1)∨(p≠8∧n=wid p∧k=0)) :=
 (by decide:∀ x∈zbf,(0≤x.1∧x.1≤16)∧((x.1=8∧x.2.1=0∧x.2.2=1)∨(x.1≠8∧x.2.1=wid x.1∧x.2.2=0))) _ (z7i (show z1t zbf p=_ from h))
theorem zcz {f:Nat} {p:Int} {r:List Int} {cs:List (List (List Int))} (h:PyFlat.calls PyVbchaa.shape f (p :: r)=some cs) :
  (0≤p∧p≤16)∧∃ f' cs',((p≠8∧wid p≤r.length∧cs=[p :: r.take (wid p)] :: cs'∧PyFlat.calls PyVbchaa.shape f' (r.drop (wid p))=some cs') ∨
   (p=8∧∃ m r',r=m :: r'∧0≤m∧m.toNat≤r'.length∧cs=[[8],r'.take m.toNat] :: cs'∧PyFlat.calls PyVbchaa.shape f' (r'.drop m.toNat)=some cs')):=by
 cases f with
 | zero=>cases h
 | succ f=>
  unfold PyFlat.calls at h
  cases e:PyFlat.call PyVbchaa.shape (p :: r) with
  | none=>rw [e] at h;cases h
  | some ct=>
   obtain ⟨c,t⟩:=ct
   rw [e] at h
   dsimp only at h
   cases e2:PyFlat.calls PyVbchaa.shape f t with
   | none=>rw [e2] at h;cases h
   | some cs'=>
    rw [e2] at h
    have h:=Option.some.inj h
    subst h
    unfold PyFlat.call at e
    dsimp only at e
    cases e3:PyVbchaa.shape p with
    | none=>rw [e3] at e;cases e
    | some nk=>
     obtain ⟨n,k⟩:=nk
     rw [e3] at e
     dsimp only at e
     obtain ⟨hr,hs⟩:=zkm e3
     refine ⟨hr,f,cs',?_⟩
     rcases hs with ⟨rfl,rfl,rfl⟩ | ⟨h8,rfl,rfl⟩
     ·rw [if_neg (by omega)] at e
      right
      refine ⟨rfl,?_⟩
      cases r with
      | nil=>cases e
      | cons m r'=>
       unfold PyFlat.rows PyFlat.row at e
       rw [List.drop_zero] at e
       dsimp only at e
       by_cases hm:0≤m∧m.toNat≤r'.length
       ·rw [if_pos hm] at e
        have e:=Option.some.inj e
        injection e with a b
        subst a b
        exact ⟨m,r',rfl,hm.1,hm.2,rfl,e2⟩
       ·rw [if_neg hm] at e;cases e
     ·left
      by_cases hl:r.length < wid p
      ·rw [if_pos hl] at e;cases e
      ·rw [if_neg hl] at e
       have e:=Option.some.inj e
       injection e with a b
       subst a b
       exact ⟨h8,by omega,rfl,e2⟩
theorem zcy {f:Nat} {cs:List (List (List Int))} (h:PyFlat.calls PyVbchaa.shape f []=some cs):cs=[]:=by
 cases f <;> exact (Option.some.inj h).symm
theorem z0S {α : Type} {lt : α→α→Prop} (irr:∀ a,¬ lt a a) (asym:∀ a b,lt a b→¬ lt b a):∀ {l m:List α},l.Pairwise lt→m.Pairwise lt→(∀ x,x∈l↔x∈m)→l=m
 | [],m,_,_,h=>by
  cases m with
  | nil=>rfl
  | cons b m=>exact absurd ((h b).mpr (by simp)) (by simp)
 | a :: l,[],_,_,h=>absurd ((h a).mp (by simp)) (by simp)
 | a :: l,b :: m,hl,hm,h=>by
  have hl':=List.pairwise_cons.mp hl
  have hm':=List.pairwise_cons.mp hm
  have e:a=b:=by
   rcases List.mem_cons.mp ((h a).mp (by simp)) with e | ha
   ·exact e
   ·rcases List.mem_cons.mp ((h b).mpr (by simp)) with e | hb
    ·exact e.symm
    ·exact absurd (hm'.1 a ha) (asym _ _ (hl'.1 b hb))
  subst e
  rw [z0S irr asym hl'.2 hm'.2 fun x=>?_]
  constructor
  ·intro hx
   rcases List.mem_cons.mp ((h x).mp (by simp [hx])) with e | hx'
   ·subst e;exact absurd (hl'.1 x hx) (irr x)
   ·exact hx'
  ·intro hx
   rcases List.mem_cons.mp ((h x).mpr (by simp [hx])) with e | hx'
   ·subst e;exact absurd (hm'.1 x hx) (irr x)
   ·exact hx'
noncomputable def Z6 (s:State) (a:Nat):Nat→List Lots
 | 0=>[]
 | n + 1=>Z6 s a n ++ (if lotsOf s a (n + 1)=0 then [] else [⟨a,n + 1,lotsOf s a (n + 1)⟩])
noncomputable def Zk (s:State) (n:Nat):Nat→List Lots
 | 0=>[]
 | m + 1=>Zk s n m ++ Z6 s (m + 1) n
theorem z0E {s:State} {a:Nat}:∀ {n:Nat} {x:Lots},x∈Z6 s a n↔x.account=a∧1≤x.contract∧x.contract≤n∧x.lots=lotsOf s a x.contract∧x.lots≠0
 | 0,x=>by simp [Z6];omega
 | n + 1,x=>by
  show x∈Z6 s a n ++ _↔_
  rw [List.mem_append,z0E]
  constructor
  ·rintro (h | h)
   ·exact ⟨h.1,h.2.1,by omega,h.2.2.2⟩
   ·split at h
    ·simp at h
    ·rename_i hz
     rw [List.mem_singleton] at h
     subst h
     exact ⟨rfl,by simp,Nat.le_refl _,rfl,hz⟩
  ·rintro ⟨h1,h2,h3,h4,h5⟩
   by_cases e:x.contract=n + 1
   ·right
    rw [e] at h4
    rw [if_neg (by rw [← h4];exact h5),List.mem_singleton]
    obtain ⟨xa,xc,xl⟩:=x
    dsimp only at *
    subst h1 e h4
    rfl
   ·exact .inl ⟨h1,h2,by omega,h4,h5⟩
theorem z5c (s:State) (a:Nat):∀ n,yt (Z6 s a n)
 | 0=>by simp [Z6,yt]
 | n + 1=>by
  show yt (Z6 s a n ++ _)
  unfold yt
  rw [List.pairwise_append]
  refine ⟨z5c s a n,by split <;> simp,fun x hx y hy=>?_⟩
  have h1:=z0E.mp hx
  split at hy
  ·simp at hy
  ·rw [List.mem_singleton] at hy
   subst hy
   rw [ZP];dsimp only;omega
theorem z1x {s:State} {n:Nat}:∀ {m:Nat} {x:Lots},x∈Zk s n m↔1≤x.account∧x.account≤m∧1≤x.contract∧x.contract≤n∧x.lots=lotsOf s x.account x.contract∧x.lots≠0
 | 0,x=>by simp [Zk];omega
 | m + 1,x=>by
  show x∈Zk s n m ++ _↔_
  rw [List.mem_append,z1x,z0E]
  constructor
  ·rintro (h | h)
   ·exact ⟨h.1,by omega,h.2.2⟩
   ·obtain ⟨h1,h2,h3,h4,h5⟩:=h
    rw [h1];exact ⟨by omega,Nat.le_refl _,h2,h3,h4,h5⟩
  ·rintro ⟨h1,h2,h3⟩
   by_cases e:x.account=m + 1
   ·right;rw [e] at h3;exact ⟨e,h3⟩
   ·exact .inl ⟨h1,by omega,h3⟩
theorem za6 (s:State) (n:Nat):∀ m,yt (Zk s n m)
 | 0=>by simp [Zk,yt]
 | m + 1=>by
  show yt (Zk s n m ++ _)
  unfold yt
  rw [List.pairwise_append]
  refine ⟨za6 s n m,z5c s _ n,fun x hx y hy=>?_⟩
  have h1:=z1x.mp hx
  have h2:=z0E.mp hy
  rw [ZP];omega
theorem z49 {s:State} (h:Core s):s.lots=Zk s s.contracts.length s.cash.length:=by
 refine z0S (lt:=fun x y=>before x y=true) (fun a q=>by rw [ZP] at q;omega) (fun a b q r=>by rw [ZP] at q r;omega) h.lotsS (za6 s _ _) fun x=>?_
 rw [z1x]
 constructor
 ·intro hx
  obtain ⟨h1,h2,h3,h4,h5⟩:=h.lots x hx
  exact ⟨h2,h3,h4,h5,(z1u h.lotsS hx).symm,h1⟩
 ·rintro ⟨h1,h2,h3,h4,h5,h6⟩
  obtain ⟨y,hy,e1,e2⟩:=z4c (l:=s.lots) (a:=x.account) (c:=x.contract) (by rw [h5] at h6;exact h6)
  have:=z1u h.lotsS hy
  rw [e1,e2] at this
  have e3:y=x:=by
   obtain ⟨ya,yc,yl⟩:=y
   obtain ⟨xa,xc,xl⟩:=x
   dsimp only at *
   subst e1 e2
   have:yl=xl:=by rw [h5,← this];rfl
   rw [this]
  rw [← e3];exact hy
theorem z7o {s:State} (h:Core s) {a:Nat} (ha:1≤a∧a≤s.cash.length):(s.lots.filter fun x=>x.account == a)=Z6 s a s.contracts.length:=by
 refine z0S (lt:=fun x y=>before x y=true) (fun a q=>by rw [ZP] at q;omega) (fun a b q r=>by rw [ZP] at q r;omega) (z24 _ h.lotsS) (z5c s _ _) fun x=>?_
 rw [z0E,List.mem_filter]
 constructor
 ·rintro ⟨hx,e⟩
  obtain ⟨h1,h2,h3,h4,h5⟩:=h.lots x hx
  have e:x.account=a:=by simpa using e
  exact ⟨e,h4,h5,by rw [← e];exact (z1u h.lotsS hx).symm,h1⟩
 ·rintro ⟨h1,h2,h3,h4,h5⟩
  have hm:x∈Zk s s.contracts.length s.cash.length:=z1x.mpr ⟨by omega,by omega,h2,h3,by rw [h1];exact h4,h5⟩
  rw [← z49 h] at hm
  exact ⟨hm,by simp [h1]⟩
end Hx
namespace Hx
open Vbchaa
noncomputable def Zg (r:Run) (p:Nat × Int):Bool:=decide (assignedTo r p.1 * total r.base < (r.count + 1) * p.2)
noncomputable def yA (r:Run) (o:Option (Nat × Int)) (p:Nat × Int):Option (Nat × Int) :=
 if Zg r p=true then (match o with
  | none=>some p
  | some q=>if deadline r p < deadline r q then some p else some q) else o
noncomputable def ziz (r:Run) (l:List (Nat × Int)):Option (Nat × Int):=l.foldl (yA r) none
theorem zgr (r:Run) (q p:Nat × Int) (l:List (Nat × Int)):next r (q :: p :: l)=next r ((if deadline r p < deadline r q then p else q) :: l):=by
 have e:∀ a m,next r (a :: m)=match next r m with
  | none=>some a
  | some z=>if deadline r a≤deadline r z then some a else some z:=fun a m=>rfl
 rw [e,e p l,e _ l]
 cases next r l with
 | none=>
  dsimp only
  split <;> split <;> first | rfl | omega
 | some z=>
  dsimp only
  by_cases h1:deadline r p≤deadline r z
  ·rw [if_pos h1]
   dsimp only
   by_cases h2:deadline r p < deadline r q
   ·rw [if_pos h2,if_neg (by omega),if_pos h1]
   ·rw [if_neg h2,if_pos (by omega),if_pos (by omega)]
  ·rw [if_neg h1]
   dsimp only
   by_cases h2:deadline r p < deadline r q
   ·rw [if_pos h2,if_neg (by omega),if_neg h1]
   ·rw [if_neg h2]
theorem z1L (r:Run):∀ (l:List (Nat × Int)) (q:Nat × Int),l.foldl (yA r) (some q)=next r (q :: l.filter (Zg r))
 | [],q=>rfl
 | p :: l,q=>by
  rw [List.foldl_cons]
  by_cases h:Zg r p=true
  ·rw [List.filter_cons_of_pos h,zgr]
   show l.foldl (yA r) (if Zg r p=true then (if deadline r p < deadline r q then some p else some q) else some q)=_
   rw [if_pos h]
   by_cases h2:deadline r p < deadline r q
   ·rw [if_pos h2,if_pos h2];exact z1L r l p
   ·rw [if_neg h2,if_neg h2];exact z1L r l q
  ·rw [List.filter_cons_of_neg h]
   show l.foldl (yA r) (if Zg r p=true then _ else some q)=_
   rw [if_neg h];exact z1L r l q
theorem z84 (r:Run):∀ (l:List (Nat × Int)),l.foldl (yA r) none=next r (l.filter (Zg r))
 | []=>rfl
 | p :: l=>by
  rw [List.foldl_cons]
  by_cases h:Zg r p=true
  ·rw [List.filter_cons_of_pos h]
   show l.foldl (yA r) (if Zg r p=true then some p else none)=_
   rw [if_pos h];exact z1L r l p
  ·rw [List.filter_cons_of_neg h]
   show l.foldl (yA r) (if Zg r p=true then some p else none)=_
   rw [if_neg h];exact z84 r l
theorem ziB (r:Run):ziz r r.base=next r (eligible r):=z84 r r.base
end Hx
namespace Hx
open Vbchaa
structure RunM where
 base:List (Int × Int)
 total:Int
 asg:List (Int × Int)
 count:Int
structure ConM where
 kind:Int
 under:Int
 strike:Int
 mult:Int
 expiry:Int
 over:Bool
 held:List (Int × Int)
 run:RunM
 exd:Int
structure TrdM where
 con:Nat
 buyer:Int
 seller:Int
 lots:Int
 price:Int
 yb:Bool
 ys:Bool
 taker:Int
 side:Int
 exb:Int
structure HouM where
 turn:Int
 prices:List Int
 cons:List ConM
 cash:List Int
 trades:List (Int × TrdM)
 spent:List Int
section
variable {α : Type}
noncomputable def gI (l:List (Int × α)) (k:Int):Option α:=(l.find? fun p=>decide (p.1=k)).map (·.2)
noncomputable def zP (l:List (Int × α)) (k:Int) (v : α):List (Int × α):=if (l.any fun p=>decide (p.1=k))=true then l.map fun p=>if p.1=k then (p.1,v) else p else l ++ [(k,v)]
noncomputable def yI (l:List (Int × α)) (k:Int):List (Int × α):=l.filter fun p=>decide (p.1≠k)
theorem z6A (k:Int):gI ([]:List (Int × α)) k=none:=rfl
theorem yJ (p:Int × α) (l:List (Int × α)) (k:Int):gI (p :: l) k=if p.1=k then some p.2 else gI l k:=by
 unfold gI
 rw [List.find?_cons]
 by_cases h:p.1=k
 ·rw [if_pos h];simp [h]
 ·rw [if_neg h];simp [h]
theorem z1j (l:List (Int × α)) (k:Int):(l.any fun p=>decide (p.1=k))=(gI l k).isSome:=by
 induction l with
 | nil=>rfl
 | cons p l ih=>
  rw [List.any_cons,ih,yJ]
  by_cases h:p.1=k <;> simp [h]
theorem Zp {l:List (Int × α)} {k:Int}:gI l k=none↔k ∉ l.map (·.1):=by
 induction l with
 | nil=>simp [z6A]
 | cons p l ih=>
  rw [yJ,List.map_cons,List.mem_cons]
  by_cases h:p.1=k
  ·rw [if_pos h];simp [h]
  ·rw [if_neg h,ih];constructor
   ·rintro q (e | e)
    ·exact h e.symm
    ·exact q e
   ·intro q e;exact q (.inr e)
theorem z6B {l:List (Int × α)} (hn:(l.map (·.1)).Nodup) {p:Int × α} (h:p∈l):gI l p.1=some p.2:=by
 induction l with
 | nil=>simp at h
 | cons q l ih=>
  rw [List.map_cons,List.nodup_cons] at hn
  rw [yJ]
  rcases List.mem_cons.mp h with rfl | h
  ·rw [if_pos rfl]
  ·rw [if_neg fun e=>hn.1 (by rw [e];exact List.mem_map_of_mem h),ih hn.2 h]
theorem z6z (l m:List (Int × α)) (k:Int):gI (l ++ m) k=match gI l k with | some v=>some v | none=>gI m k:=by
 induction l with
 | nil=>rfl
 | cons p l ih=>
  rw [List.cons_append,yJ,yJ,ih]
  by_cases h:p.1=k <;> simp [h]
theorem zdd (l:List (Int × α)) (k:Int) (v : α) (j:Int):gI (l.map fun p=>if p.1=k then (p.1,v) else p) j=(gI l j).map fun x=>if j=k then v else x:=by
 induction l with
 | nil=>rfl
 | cons p l ih=>
  rw [List.map_cons,yJ,yJ,ih]
  have e1:(if p.1=k then (p.1,v) else p).1=p.1:=by split <;> rfl
  rw [e1]
  by_cases h:p.1=j
  ·rw [if_pos h,if_pos h]
   show some _=some _
   congr 1
   subst h
   by_cases h2:p.1=k
   ·dsimp only;rw [if_pos h2,if_pos h2]
   ·dsimp only;rw [if_neg h2,if_neg h2]
  ·rw [if_neg h,if_neg h]
theorem JQ (l:List (Int × α)) (k:Int) (v : α) (j:Int):gI (zP l k v) j=if j=k then some v else gI l j:=by
 unfold zP
 rw [z1j]
 cases e:gI l k with
 | some x=>
  rw [if_pos (by rfl),zdd]
  by_cases h:j=k
  ·subst h;rw [e,if_pos rfl];simp
  ·rw [if_neg h]
   cases gI l j with
   | none=>rfl
   | some y=>show some (if j=k then v else y)=some y;rw [if_neg h]
 | none=>
  rw [if_neg (by simp),z6z]
  by_cases h:j=k
  ·subst h;rw [e,if_pos rfl];show gI [(j,v)] j=some v;rw [yJ,if_pos rfl]
  ·rw [if_neg h]
   cases gI l j with
   | some y=>rfl
   | none=>show gI [(k,v)] j=none;rw [yJ,if_neg (fun q=>h q.symm)];rfl
theorem z1l (l:List (Int × α)) (k j:Int):gI (yI l k) j=if j=k then none else gI l j:=by
 unfold yI
 induction l with
 | nil=>simp [z6A]
 | cons p l ih=>
  by_cases h:p.1=k
  ·rw [List.filter_cons_of_neg (by simp [h]),ih,yJ]
   by_cases hj:j=k
   ·rw [if_pos hj,if_pos hj]
   ·rw [if_neg hj,if_neg hj,if_neg (by omega)]
  ·rw [List.filter_cons_of_pos (by simp [h]),yJ,yJ,ih]
   by_cases hj:j=k
   ·rw [if_pos hj,if_pos hj,if_neg (by omega)]
   ·rw [if_neg hj,if_neg hj]
theorem z01 (l:List (Int × α)) (k:Int) (v : α):(zP l k v).map (·.1)=if k∈l.map (·.1) then l.map (·.1) else l.map (·.1) ++ [k]:=by
 unfold zP
 rw [z1j]
 by_cases h:k∈l.map (·.1)
 ·have:(gI l k).isSome=true:=by
   cases e:gI l k with
   | none=>exact absurd h (Zp.mp e)
   | some x=>rfl
  rw [if_pos this,if_pos h,List.map_map]
  apply List.map_congr_left
  intro p _
  show (if p.1=k then (p.1,v) else p).1=p.1
  split <;> rfl
 ·rw [if_neg h,Zp.mpr h,if_neg (by simp),List.map_append];rfl
theorem z4L {l:List (Int × α)} (k:Int) (v : α) (hn:(l.map (·.1)).Nodup):((zP l k v).map (·.1)).Nodup:=by
 rw [z01]
 split
 ·exact hn
 ·rename_i h
  rw [List.nodup_append]
  exact ⟨hn,by simp,fun a ha b hb e=>h (by rw [List.mem_singleton] at hb;rw [← hb,← e];exact ha)⟩
theorem zcX (l:List (Int × α)) (k:Int):(yI l k).map (·.1)=(l.map (·.1)).filter fun a=>decide (a≠k):=by
 unfold yI
 rw [List.filter_map];rfl
end
noncomputable def lkI (l:List (Int × Int)) (k:Int):Int:=(gI l k).getD 0
noncomputable def cI (l:List (Nat × Int)):List (Int × Int):=l.map fun p=>((p.1:Int),p.2)
noncomputable def zn (r:Run):RunM:=⟨cI r.base,total r.base,cI r.assigned,r.count⟩
theorem z1k (l:List (Nat × Int)) (a:Nat):gI (cI l) a=if a∈l.map (·.1) then some (look l a) else none:=by
 induction l with
 | nil=>rfl
 | cons p l ih=>
  show gI (((p.1:Int),p.2) :: cI l) a=_
  rw [yJ,ZI,ih,List.map_cons]
  by_cases h:p.1=a
  ·rw [if_pos (by dsimp only;omega),if_pos h,if_pos (by simp [h])]
  ·rw [if_neg (by dsimp only;omega),if_neg h]
   by_cases h2:a∈l.map (·.1)
   ·rw [if_pos h2,if_pos (List.mem_cons_of_mem _ h2)]
   ·rw [if_neg h2,if_neg (by rw [List.mem_cons];rintro (z | z);exact h z.symm;exact h2 z)]
structure ConR (s:State) (i:Nat) (k:ConM) (c:Contract) (r:Run):Prop where
 kind:k.kind=c.kind
 under:k.under=(c.under:Int)
 strike:k.strike=c.strike
 mult:k.mult=c.mult
 expiry:k.expiry=c.expiry
 over:k.over=c.over
 run:k.run=zn r
 lots:∀ a:Nat,lkI k.held a=lotsOf s a (i + 1)
 keys:∀ p∈k.held,1≤p.1∧p.1≤(s.cash.length:Int)
 nd:(k.held.map (·.1)).Nodup
structure TrdR (m:HouM) (s:State) (x:TrdM) (t:Trade):Prop where
 con:x.con + 1=t.contract
 buyer:x.buyer=(t.buyer:Int)
 seller:x.seller=(t.seller:Int)
 lots:x.lots=t.lots
 price:x.price=t.price
 yb:x.yb=t.yesBuyer
 ys:x.ys=t.yesSeller
 none_:t.given=none→x.taker=0
 some_:∀ sd tk,t.given=some (sd,tk)→x.taker=(tk:Int)∧x.side=sd
 ex:∀ k,m.cons[x.con]?=some k→x.exb≤k.exd∧(x.exb=k.exd↔(runOf s t.contract).exercises=t.seen)
structure Rel (m:HouM) (s:State):Prop where
 turn:m.turn=s.turn
 prices:m.prices=s.prices
 cash:m.cash=s.cash
 ncon:m.cons.length=s.contracts.length
 con:∀ i k,m.cons[i]?=some k→∃ c r,s.contracts[i]?=some c∧s.runs[i]?=some r∧ConR s i k c r
 tperm:(m.trades.map (·.1)).Perm (s.trades.map (·.key))
 trd:∀ key x,gI m.trades key=some x→∃ t,tradeOf s key=some t∧TrdR m s x t
 spent:m.spent=s.spent.reverse
theorem Rel.trdN {m:HouM} {s:State} (h:Rel m s) {key:Int} (e:gI m.trades key=none):tradeOf s key=none:=by
 have h1:=Zp.mp e
 cases q:tradeOf s key with
 | none=>rfl
 | some t=>
  obtain ⟨h2,h3⟩:=je q
  exact absurd (h.tperm.mem_iff.mpr (by rw [← h3];exact List.mem_map_of_mem h2)) h1
end Hx
namespace Hx
open Vbchaa
theorem z08 {α : Type} {l:List α} {i j:Nat} {x y : α} (h:(l.set i x)[j]?=some y):(i=j∧y=x∧i < l.length)∨(i≠j∧l[j]?=some y):=by
 by_cases e:i=j
 ·subst e
  have hl:i < l.length:=by
   have:=(List.getElem?_eq_some_iff.mp h).1
   rw [List.length_set] at this;exact this
  rw [List.getElem?_set_self hl] at h
  exact .inl ⟨rfl,(Option.some.inj h).symm,hl⟩
 ·rw [List.getElem?_set_ne e] at h
  exact .inr ⟨e,h⟩
noncomputable def zY (m:HouM) (i:Nat) (k:ConM) (a:Nat) (n x:Int):HouM :=
 { m with cons:=m.cons.set i { k with held:=zP k.held a (lkI k.held a + n) },cash:=m.cash.modify (a - 1) fun v=>v + x }
theorem Rel.move {m:HouM} {s:State} (h:Rel m s) {i:Nat} {k:ConM} (hk:m.cons[i]?=some k) {a:Nat} (ha:1≤a∧a≤s.cash.length) (n x:Int):Rel (zY m i k a n x) (mv s a (i + 1) n x):=by
 refine ⟨h.turn,h.prices,?_,?_,fun j k' hj=>?_,h.tperm,fun key y hy=>?_,h.spent⟩
 ·show m.cash.modify _ _=s.cash.modify _ _;rw [h.cash]
 ·show (m.cons.set _ _).length=_;rw [List.length_set];exact h.ncon
 ·rcases z08 hj with ⟨rfl,rfl,_⟩ | ⟨hne,hj⟩
  ·obtain ⟨c,r,e1,e2,R⟩:=h.con i k hk
   refine ⟨c,r,e1,e2,R.kind,R.under,R.strike,R.mult,R.expiry,R.over,R.run,fun b=>?_,fun p hp=>?_,z4L _ _ R.nd⟩
   ·rw [Zr]
    show (gI (zP k.held a _) b).getD 0=_
    rw [JQ]
    by_cases hb:b=a
    ·subst hb;rw [if_pos rfl,if_pos ⟨rfl,rfl⟩,R.lots];rfl
    ·rw [if_neg (by omega),if_neg (fun q=>hb q.1),← R.lots];rfl
   ·rw [j6]
    have hm:p.1∈(zP k.held a (lkI k.held a + n)).map (·.1):=List.mem_map_of_mem hp
    rw [z01] at hm
    split at hm
    ·obtain ⟨q,hq,e⟩:=List.mem_map.mp hm
     rw [← e];exact R.keys q hq
    ·rcases List.mem_append.mp hm with hm | hm
     ·obtain ⟨q,hq,e⟩:=List.mem_map.mp hm
      rw [← e];exact R.keys q hq
     ·rw [List.mem_singleton.mp hm];omega
  ·obtain ⟨c,r,e1,e2,R⟩:=h.con j k' hj
   refine ⟨c,r,e1,e2,R.kind,R.under,R.strike,R.mult,R.expiry,R.over,R.run,fun b=>?_,fun p hp=>by rw [j6];exact R.keys p hp,R.nd⟩
   rw [Zr,if_neg (by omega)];exact R.lots b
 ·obtain ⟨t,e,T⟩:=h.trd key y hy
  refine ⟨t,e,T.con,T.buyer,T.seller,T.lots,T.price,T.yb,T.ys,T.none_,T.some_,fun k' hk'=>?_⟩
  rcases z08 hk' with ⟨e1,rfl,_⟩ | ⟨_,hk'⟩
  ·exact T.ex k (by rw [← e1];exact hk)
  ·exact T.ex k' hk'
noncomputable def z22 (m:HouM) (i:Nat) (k:ConM) (R:RunM):HouM:={ m with cons:=m.cons.set i { k with run:=R } }
theorem zjI {s:State} {l:List Run} {c:Nat}:runOf { s with runs:=l } c=l.getD (c - 1) ⟨[],[],0,0⟩:=rfl
theorem Rel.anew {m:HouM} {s:State} (h:Rel m s) {i:Nat} {k:ConM} (hk:m.cons[i]?=some k) {e:Nat}:Rel (z22 m i k (zn ⟨shorts s (i + 1),(shorts s (i + 1)).map fun p=>(p.1,0),0,e⟩)) (Vbchaa.anew s (i + 1)):=by
 have L:=Like.anew s (i + 1)
 refine ⟨h.turn,h.prices,h.cash,?_,fun j k' hj=>?_,h.tperm,fun key y hy=>?_,h.spent⟩
 ·show (m.cons.set _ _).length=_;rw [List.length_set];exact h.ncon
 ·rcases z08 hj with ⟨rfl,rfl,_⟩ | ⟨hne,hj⟩
  ·obtain ⟨c,r,e1,e2,R⟩:=h.con i k hk
   refine ⟨c,{ r with base:=shorts s (i + 1),assigned:=(shorts s (i + 1)).map fun p=>(p.1,0),count:=0 },e1,?_,R.kind,R.under,R.strike,R.mult,R.expiry,R.over,rfl,R.lots,R.keys,R.nd⟩
   rw [z1R,e2]
   show some (if i + 1 - 1=i then _ else _)=_
   rw [if_pos (by omega)]
  ·obtain ⟨c,r,e1,e2,R⟩:=h.con j k' hj
   refine ⟨c,r,e1,?_,R.kind,R.under,R.strike,R.mult,R.expiry,R.over,R.run,R.lots,R.keys,R.nd⟩
   rw [z1R,e2]
   show some (if i + 1 - 1=j then _ else _)=_
   rw [if_neg (by omega)]
 ·obtain ⟨t,e,T⟩:=h.trd key y hy
  refine ⟨t,e,T.con,T.buyer,T.seller,T.lots,T.price,T.yb,T.ys,T.none_,T.some_,fun k' hk'=>?_⟩
  rw [L.ex]
  rcases z08 hk' with ⟨e1,rfl,_⟩ | ⟨_,hk'⟩
  ·exact T.ex k (by rw [← e1];exact hk)
  ·exact T.ex k' hk'
noncomputable def exM (m:HouM) (i:Nat) (k:ConM) (R:RunM) (n:Int):HouM:={ m with cons:=m.cons.set i { k with run:=R,exd:=k.exd + n } }
theorem Rel.ex {m:HouM} {s:State} (h:Rel m s) (T:Trs s) (hN:s.runs.length=s.contracts.length) {i:Nat} {k:ConM} (hk:m.cons[i]?=some k) {t:Run} {n:Int} (hn:1≤n) (ht:t.exercises=(runOf s (i + 1)).exercises + 1) :
  Rel (exM m i k (zn t) n) { s with runs:=s.runs.set i t }:=by
 have hi:i < s.runs.length:=by rw [hN,← h.ncon];exact (List.getElem?_eq_some_iff.mp hk).1
 refine ⟨h.turn,h.prices,h.cash,?_,fun j k' hj=>?_,h.tperm,fun key y hy=>?_,h.spent⟩
 ·show (m.cons.set _ _).length=_;rw [List.length_set];exact h.ncon
 ·rcases z08 hj with ⟨rfl,rfl,_⟩ | ⟨hne,hj⟩
  ·obtain ⟨c,r,e1,e2,R⟩:=h.con i k hk
   refine ⟨c,t,e1,?_,R.kind,R.under,R.strike,R.mult,R.expiry,R.over,rfl,R.lots,R.keys,R.nd⟩
   show (s.runs.set i t)[i]?=some t
   rw [List.getElem?_set_self hi]
  ·obtain ⟨c,r,e1,e2,R⟩:=h.con j k' hj
   refine ⟨c,r,e1,?_,R.kind,R.under,R.strike,R.mult,R.expiry,R.over,R.run,R.lots,R.keys,R.nd⟩
   show (s.runs.set i t)[j]?=some r
   rw [List.getElem?_set_ne hne];exact e2
 ·obtain ⟨u,e,Tr⟩:=h.trd key y hy
  refine ⟨u,e,Tr.con,Tr.buyer,Tr.seller,Tr.lots,Tr.price,Tr.yb,Tr.ys,Tr.none_,Tr.some_,fun k' hk'=>?_⟩
  have o:=T.ok u (je e).1
  have hseen:=o.seen
  have hc:=Tr.con
  rw [zjI]
  rcases z08 hk' with ⟨e1,rfl,_⟩ | ⟨hne,hk'⟩
  ·have q:=Tr.ex k (by rw [← e1];exact hk)
   have e3:u.contract=i + 1:=by omega
   rw [e3] at hseen ⊢
   have es:=z4R (s:=s) (l:=s.runs.set i t) (c:=i + 1) (d:=i + 1) (r:=t) rfl (by omega) (by omega) hi
   rw [es,if_pos rfl]
   rw [e3] at q
   show y.exb≤k.exd + n∧(y.exb=k.exd + n↔t.exercises=u.seen)
   constructor
   ·omega
   ·constructor <;> intro z <;> omega
  ·have q:=Tr.ex k' hk'
   have es:=z4R (s:=s) (l:=s.runs.set i t) (c:=i + 1) (d:=u.contract) (r:=t) rfl (by omega) (by omega) hi
   rw [es,if_neg (by omega)]
   exact q
theorem z2i (s:State) (key:Int):tradeOf s key=s.trades.find? fun t=>t.key == key:=rfl
theorem z6w (x:Trade) (key:Int):∀ l:List Trade,(∀ y∈l,y.key≠x.key)→(putTrade x l).find? (fun t=>t.key == key)=if key=x.key then some x else l.find? fun t=>t.key == key
 | [],_=>by
  show ([x]:List Trade).find? _=_
  rw [List.find?_cons]
  by_cases h:key=x.key
  ·rw [if_pos h];simp [h]
  ·rw [if_neg h,beq_eq_false_iff_ne.mpr (fun q=>h q.symm)]
 | y :: l,hn=>by
  have hy:=hn y (by simp)
  unfold putTrade
  by_cases hb:x.key < y.key
  ·rw [if_pos hb,List.find?_cons]
   by_cases h:key=x.key
   ·rw [if_pos h];simp [h]
   ·rw [if_neg h,beq_eq_false_iff_ne.mpr (fun q=>h q.symm)]
  ·rw [if_neg hb,List.find?_cons,List.find?_cons,z6w x key l fun z hz=>hn z (by simp [hz])]
   by_cases h:y.key=key
   ·have hq:¬ key=x.key:=fun q=>hy (h.trans q)
    rw [h,beq_self_eq_true]
    dsimp only
    rw [if_neg hq]
   ·rw [beq_eq_false_iff_ne.mpr h]
theorem z8g (x:Trade):∀ l:List Trade,(putTrade x l).Perm (x :: l)
 | []=>List.Perm.refl _
 | y :: l=>by
  unfold putTrade
  split
  ·exact List.Perm.refl _
  ·exact ((z8g x l).cons y).trans (List.Perm.swap x y l)
theorem Rel.put {m:HouM} {s:State} (h:Rel m s) {x:TrdM} {t:Trade} (hx:TrdR m s x t) (hn:∀ y∈s.trades,y.key≠t.key) :
  Rel { m with trades:=zP m.trades t.key x,spent:=m.spent ++ [t.key] } { s with trades:=putTrade t s.trades,spent:=t.key :: s.spent }:=by
 have hm:t.key ∉ m.trades.map (·.1):=fun q=>by
  have q:=h.tperm.mem_iff.mp q
  obtain ⟨y,hy,e⟩:=List.mem_map.mp q
  exact hn y hy e
 have cv:∀ {y u},TrdR m s y u→TrdR { m with trades:=zP m.trades t.key x,spent:=m.spent ++ [t.key] } { s with trades:=putTrade t s.trades,spent:=t.key :: s.spent } y u:=fun T=>⟨T.con,T.buyer,T.seller,T.lots,T.price,T.yb,T.ys,T.none_,T.some_,T.ex⟩
 refine ⟨h.turn,h.prices,h.cash,h.ncon,fun i k hi=>?_,?_,fun key y hy=>?_,?_⟩
 ·obtain ⟨c,r,e1,e2,R⟩:=h.con i k hi
  exact ⟨c,r,e1,e2,R.kind,R.under,R.strike,R.mult,R.expiry,R.over,R.run,R.lots,R.keys,R.nd⟩
 ·dsimp only
  rw [z01,if_neg hm]
  refine ((List.perm_append_comm).trans ?_).trans ((z8g t s.trades).map _).symm
  exact h.tperm.cons t.key
 ·dsimp only at hy
  rw [JQ] at hy
  rw [z2i]
  dsimp only
  rw [z6w t key _ hn]
  by_cases e:key=t.key
  ·rw [if_pos e] at hy
   cases hy
   exact ⟨t,if_pos e,cv hx⟩
  ·rw [if_neg e] at hy
   obtain ⟨u,e1,T⟩:=h.trd key y hy
   exact ⟨u,by rw [if_neg e];exact e1,cv T⟩
 ·dsimp only
  rw [h.spent,List.reverse_cons]
theorem z3w (k key:Int):∀ l:List Trade,(l.filter fun x=>x.key != k).find? (fun t=>t.key == key)=if key=k then none else l.find? fun t=>t.key == key
 | []=>by simp
 | y :: l=>by
  by_cases h:y.key=k
  ·rw [List.filter_cons_of_neg (by simp [h]),z3w k key l,List.find?_cons]
   by_cases e:key=k
   ·rw [if_pos e,if_pos e]
   ·rw [if_neg e,if_neg e,beq_eq_false_iff_ne.mpr (by omega)]
  ·rw [List.filter_cons_of_pos (by simp [h]),List.find?_cons,List.find?_cons,z3w k key l]
   by_cases e:key=k
   ·rw [if_pos e,if_pos e,beq_eq_false_iff_ne.mpr (by omega)]
   ·rw [if_neg e,if_neg e]
theorem Rel.drop {m:HouM} {s:State} (h:Rel m s) (key:Int):Rel { m with trades:=yI m.trades key } { s with trades:=s.trades.filter fun x=>x.key != key }:=by
 refine ⟨h.turn,h.prices,h.cash,h.ncon,fun i k hi=>?_,?_,fun key' y hy=>?_,h.spent⟩
 ·obtain ⟨c,r,e1,e2,R⟩:=h.con i k hi
  exact ⟨c,r,e1,e2,R.kind,R.under,R.strike,R.mult,R.expiry,R.over,R.run,R.lots,R.keys,R.nd⟩
 ·dsimp only
  rw [zcX]
  have e:(s.trades.filter fun x=>x.key != key).map (·.key)=(s.trades.map (·.key)).filter fun a=>decide (a≠key):=by
   rw [List.filter_map]
   congr 1
   apply List.filter_congr
   intro x _
   show (x.key != key)=decide (x.key≠key)
   by_cases q:x.key=key <;> simp [q]
  rw [e]
  exact h.tperm.filter _
 ·dsimp only at hy
  rw [z1l] at hy
  split at hy
  ·cases hy
  ·rename_i e
   obtain ⟨u,e1,T⟩:=h.trd key' y hy
   refine ⟨u,?_,T.con,T.buyer,T.seller,T.lots,T.price,T.yb,T.ys,T.none_,T.some_,T.ex⟩
   rw [z2i]
   dsimp only
   rw [z3w,if_neg e];exact e1
theorem z6x (x:Trade) (key:Int):∀ l:List Trade,(l.map fun y=>if y.key=x.key then x else y).find? (fun t=>t.key == key)=(l.find? fun t=>t.key == key).map fun y=>if key=x.key then x else y
 | []=>rfl
 | y :: l=>by
  rw [List.map_cons,List.find?_cons,List.find?_cons,z6x x key l]
  have ek:(if y.key=x.key then x else y).key=y.key:=by
   split
   ·rename_i e;exact e.symm
   ·rfl
  rw [ek]
  by_cases h:y.key=key
  ·subst h;simp
  ·rw [beq_eq_false_iff_ne.mpr h]
theorem Rel.set {m:HouM} {s:State} (h:Rel m s) {x:TrdM} {t:Trade} (hx:TrdR m s x t) (ht:t.key∈m.trades.map (·.1)):Rel { m with trades:=zP m.trades t.key x } (setTrade s t):=by
 have cv:∀ {y u},TrdR m s y u→TrdR { m with trades:=zP m.trades t.key x } (setTrade s t) y u:=fun T=>⟨T.con,T.buyer,T.seller,T.lots,T.price,T.yb,T.ys,T.none_,T.some_,T.ex⟩
 have hk:∀ y:Trade,(if y.key=t.key then t else y).key=y.key:=fun y=>by
  split
  ·rename_i e;exact e.symm
  ·rfl
 refine ⟨h.turn,h.prices,h.cash,h.ncon,fun i k hi=>?_,?_,fun key y hy=>?_,h.spent⟩
 ·obtain ⟨c,r,e1,e2,R⟩:=h.con i k hi
  exact ⟨c,r,e1,e2,R.kind,R.under,R.strike,R.mult,R.expiry,R.over,R.run,R.lots,R.keys,R.nd⟩
 ·dsimp only
  rw [z01,if_pos ht]
  show List.Perm _ ((s.trades.map fun y=>if y.key=t.key then t else y).map (·.key))
  rw [List.map_map]
  have:s.trades.map ((fun x:Trade=>x.key) ∘ fun y=>if y.key=t.key then t else y)=s.trades.map (·.key):=List.map_congr_left fun y _=>hk y
  rw [this];exact h.tperm
 ·dsimp only at hy
  rw [JQ] at hy
  rw [z2i]
  show ∃ u,(s.trades.map fun y=>if y.key=t.key then t else y).find? _=some u∧_
  rw [z6x]
  by_cases e:key=t.key
  ·rw [if_pos e] at hy
   cases hy
   cases q:s.trades.find? fun z=>z.key == key with
   | none=>
    have:key∈s.trades.map (·.key):=by rw [e];exact h.tperm.mem_iff.mp ht
    obtain ⟨z,hz,ez⟩:=List.mem_map.mp this
    have:=List.find?_eq_none.mp q z hz
    simp [ez] at this
   | some z=>exact ⟨t,by show some (if key=t.key then t else z)=some t;rw [if_pos e],cv hx⟩
  ·rw [if_neg e] at hy
   obtain ⟨u,e1,T⟩:=h.trd key y hy
   refine ⟨u,?_,cv T⟩
   rw [z2i] at e1
   rw [e1]
   show some (if key=t.key then t else u)=some u
   rw [if_neg e]
theorem Rel.account {m:HouM} {s:State} (h:Rel m s):Rel { m with cash:=m.cash ++ [0] } { s with cash:=s.cash ++ [0] }:=by
 refine ⟨h.turn,h.prices,by dsimp only;rw [h.cash],h.ncon,fun i k hi=>?_,h.tperm,fun key y hy=>?_,h.spent⟩
 ·obtain ⟨c,r,e1,e2,R⟩:=h.con i k hi
  refine ⟨c,r,e1,e2,R.kind,R.under,R.strike,R.mult,R.expiry,R.over,R.run,R.lots,fun p hp=>?_,R.nd⟩
  have:=R.keys p hp
  dsimp only;rw [List.length_append]
  have e:(([0]:List Int).length:Int)=1:=rfl
  omega
 ·obtain ⟨u,e1,T⟩:=h.trd key y hy
  exact ⟨u,e1,T.con,T.buyer,T.seller,T.lots,T.price,T.yb,T.ys,T.none_,T.some_,T.ex⟩
theorem Rel.under {m:HouM} {s:State} (h:Rel m s) (p:Int):Rel { m with prices:=m.prices ++ [p] } { s with prices:=s.prices ++ [p] }:=by
 refine ⟨h.turn,by dsimp only;rw [h.prices],h.cash,h.ncon,fun i k hi=>?_,h.tperm,fun key y hy=>?_,h.spent⟩
 ·obtain ⟨c,r,e1,e2,R⟩:=h.con i k hi
  exact ⟨c,r,e1,e2,R.kind,R.under,R.strike,R.mult,R.expiry,R.over,R.run,R.lots,R.keys,R.nd⟩
 ·obtain ⟨u,e1,T⟩:=h.trd key y hy
  exact ⟨u,e1,T.con,T.buyer,T.seller,T.lots,T.price,T.yb,T.ys,T.none_,T.some_,T.ex⟩
theorem Rel.contract {m:HouM} {s:State} (h:Rel m s) (hc:Core s) (T:Trs s) {kind strike mult expiry:Int} {u:Nat} :
  Rel { m with cons:=m.cons ++ [⟨kind,(u:Int),strike,mult,expiry,false,[],⟨[],0,[],0⟩,0⟩] } { s with contracts:=s.contracts ++ [⟨kind,u,strike,mult,expiry,false⟩],runs:=s.runs ++ [⟨[],[],0,0⟩] }:=by
 have z:∀ a,lotsOf s a (s.contracts.length + 1)=0:=fun a=>by
  apply Classical.byContradiction
  intro q
  have:=(hc.range q).2.2.2
  omega
 refine ⟨h.turn,h.prices,h.cash,by dsimp only;rw [List.length_append,List.length_append,h.ncon];rfl,fun i k hi=>?_,h.tperm,fun key y hy=>?_,h.spent⟩
 ·dsimp only at hi
  by_cases hlt:i < m.cons.length
  ·rw [List.getElem?_append_left hlt] at hi
   obtain ⟨c,r,e1,e2,R⟩:=h.con i k hi
   have h1:=h.ncon
   have h2:=hc.runN
   refine ⟨c,r,by dsimp only;rw [List.getElem?_append_left (by omega)];exact e1,by dsimp only;rw [List.getElem?_append_left (by omega)];exact e2,R.kind,R.under,R.strike,R.mult,R.expiry,R.over,R.run,R.lots,R.keys,R.nd⟩
  ·have:=(List.getElem?_eq_some_iff.mp hi).1
   rw [List.length_append] at this
   have e:i=m.cons.length:=by simp at this;omega
   subst e
   rw [List.getElem?_append_right (Nat.le_refl _)] at hi
   simp at hi
   subst hi
   refine ⟨⟨kind,u,strike,mult,expiry,false⟩,⟨[],[],0,0⟩,by dsimp only;rw [h.ncon];simp,by dsimp only;rw [h.ncon,← hc.runN];simp,rfl,rfl,rfl,rfl,rfl,rfl,rfl,fun a=>?_,by simp,by simp⟩
   show 0=lotsOf s a (m.cons.length + 1)
   rw [h.ncon,z]
 ·obtain ⟨t,e1,R⟩:=h.trd key y hy
  have o:=T.ok t (je e1).1
  obtain ⟨k0,e0,_⟩:=o.con
  have hle:=YI e0
  have hcon:=R.con
  have h1:=h.ncon
  refine ⟨t,e1,R.con,R.buyer,R.seller,R.lots,R.price,R.yb,R.ys,R.none_,R.some_,fun k hk=>?_⟩
  dsimp only at hk
  rw [List.getElem?_append_left (by omega)] at hk
  have q:=R.ex k hk
  have e:runOf { s with contracts:=s.contracts ++ [⟨kind,u,strike,mult,expiry,false⟩],runs:=s.runs ++ [⟨[],[],0,0⟩] } t.contract=runOf s t.contract:=by
   unfold runOf
   dsimp only
   rw [List.getD_eq_getElem?_getD,List.getD_eq_getElem?_getD,List.getElem?_append_left (by rw [hc.runN];omega)]
  rw [e];exact q
end Hx
namespace Hx
open Vbchaa
noncomputable def Zs (k:ConM) (p:Int):Int:=if k.kind=1 then max (p - k.strike) 0 else max (k.strike - p) 0
noncomputable def atP (l:List Int) (u:Int):Int:=l.getD (u.toNat - 1) 0
noncomputable def Ze (m:HouM) (new:List Int) (k:ConM):Int :=
 if k.kind=0 then k.mult * (atP new k.under - atP m.prices k.under) else if k.expiry=m.turn then k.mult * Zs k (atP new k.under) else 0
noncomputable def Z2 (g:Int) (gr:List Int) (l:List (Int × Int)):List Int:=l.foldl (fun gr p=>gr.modify (p.1.toNat - 1) fun v=>v + p.2 * g) gr
noncomputable def yx (m:HouM) (new:List Int):List Int:=m.cons.foldl (fun gr k=>Z2 (Ze m new k) gr k.held) (m.cash.map fun _=>0)
noncomputable def Za (turn:Int) (k:ConM):ConM:=if k.expiry=turn then { k with over:=true,held:=[],run:=⟨[],0,[],0⟩ } else k
noncomputable def zbt (m:HouM) (new:List Int):HouM:=⟨m.turn + 1,new,m.cons.map (Za m.turn),List.zipWith (fun a b=>a + b) m.cash (yx m new),[],[]⟩
theorem z3f (g:Int):∀ (l:List (Int × Int)) (gr:List Int),(Z2 g gr l).length=gr.length
 | [],gr=>rfl
 | p :: l,gr=>by
  show (Z2 g (gr.modify _ _) l).length=_
  rw [z3f g l,List.length_modify]
theorem z5T (g:Int):∀ (l:List (Int × Int)) (gr:List Int),(l.map (·.1)).Nodup→(∀ p∈l,1≤p.1)→∀ a:Nat,(Z2 g gr l)[a]?=(gr[a]?).map fun v=>v + lkI l ((a:Int) + 1) * g
 | [],gr,_,_,a=>by
  show gr[a]?=_
  cases gr[a]? with
  | none=>rfl
  | some v=>show some v=some (v + 0 * g);rw [Int.zero_mul,Int.add_zero]
 | p :: l,gr,hn,hp,a=>by
  rw [List.map_cons,List.nodup_cons] at hn
  have h1:=hp p (by simp)
  show (Z2 g (gr.modify (p.1.toNat - 1) fun v=>v + p.2 * g) l)[a]?=_
  rw [z5T g l _ hn.2 (fun q hq=>hp q (by simp [hq])) a,List.getElem?_modify]
  have e:lkI (p :: l) ((a:Int) + 1)=if p.1=(a:Int) + 1 then p.2 else lkI l ((a:Int) + 1):=by
   unfold lkI
   rw [yJ]
   split <;> rfl
  rw [e]
  cases gr[a]? with
  | none=>rfl
  | some v=>
   by_cases h:p.1=(a:Int) + 1
   ·have h2:p.1.toNat - 1=a:=by omega
    have h3:lkI l ((a:Int) + 1)=0:=by
     unfold lkI
     rw [Zp.mpr (by rw [← h];exact hn.1)];rfl
    rw [if_pos h]
    show some ((if p.1.toNat - 1=a then v + p.2 * g else v) + _)=some _
    rw [if_pos h2,h3,Int.zero_mul,Int.add_zero]
   ·have h2:¬ p.1.toNat - 1=a:=by omega
    rw [if_neg h]
    show some ((if p.1.toNat - 1=a then v + p.2 * g else v) + _)=some _
    rw [if_neg h2]
theorem z3E (m:HouM) (new:List Int):∀ (l:List ConM) (gr:List Int),(l.foldl (fun gr k=>Z2 (Ze m new k) gr k.held) gr).length=gr.length
 | [],gr=>rfl
 | k :: l,gr=>by rw [List.foldl_cons,z3E m new l,z3f]
theorem z3D (m:HouM) (new:List Int):(yx m new).length=m.cash.length:=by unfold yx;rw [z3E,List.length_map]
theorem z7Y {k:ConM} {c:Contract} (h1:k.kind=c.kind) (h2:k.strike=c.strike) (hk:c.kind=1∨c.kind=2) (p:Int):Zs k p=payoff c p:=by
 unfold Zs payoff
 rw [h1,h2]
 rcases hk with e | e
 ·rw [e,if_pos rfl,if_pos rfl,Int.max_def]
  split <;> split <;> omega
 ·rw [e,if_neg (by decide),if_neg (by decide),if_pos rfl,Int.max_def]
  split <;> split <;> omega
theorem z1d {s:State} {c:Contract} (o:ConOk s c):endsNow s c=true↔c.expiry=s.turn:=by
 unfold endsNow
 rw [Bool.and_eq_true,decide_eq_true_iff]
 constructor
 ·rintro ⟨h1,h2⟩
  have:=o.now (by simpa using h1)
  omega
 ·intro h
  refine ⟨?_,by omega⟩
  cases e:c.over with
  | false=>rfl
  | true=>have:=o.past e;omega
noncomputable def z0s (s:State) (new:List Int) (c:Nat):Int:=match contractOf s c with
 | some k=>turned k (priceOf s k.under) (new.getD (k.under - 1) 0) (endsNow s k)
 | none=>0
theorem zdR {m:HouM} {s:State} (h:Rel m s) (hc:Core s) {new:List Int} {i:Nat} {k:ConM} (hk:m.cons[i]?=some k) (a:Nat) :
  lkI k.held a * Ze m new k=lotsOf s a (i + 1) * z0s s new (i + 1):=by
 obtain ⟨c,r,e1,e2,R⟩:=h.con i k hk
 have ec:contractOf s (i + 1)=some c:=ZR.mpr ⟨by omega,e1⟩
 have o:=hc.con c (z19 ec)
 rw [R.lots]
 by_cases ho:c.over=true
 ·rw [hc.over (i + 1) c ec ho a,Int.zero_mul,Int.zero_mul]
 ·congr 1
  unfold Ze z0s atP turned
  rw [ec]
  dsimp only
  rw [if_neg ho,R.kind,R.mult,R.under,R.expiry,h.prices,h.turn]
  have eu:((c.under:Int).toNat)=c.under:=by omega
  rw [eu]
  have hkind:=o.kind
  by_cases hz:c.kind=0
  ·rw [if_pos hz,if_pos hz];rfl
  ·rw [if_neg hz,if_neg hz]
   by_cases he:c.expiry=s.turn
   ·rw [if_pos he,if_pos ((z1d o).mpr he),z7Y R.kind R.strike (by omega)]
   ·rw [if_neg he,if_neg (fun q=>he ((z1d o).mp q))]
theorem z8y (s:State) (new:List Int) (a:Nat):∀ n,(Z6 s a n).foldr (fun x t=>Y7 s new x + t) 0=zw (fun c=>lotsOf s a c * z0s s new c) n
 | 0=>rfl
 | n + 1=>by
  show (Z6 s a n ++ _).foldr _ 0=zw _ n + _
  have app:∀ (l m:List Lots),(l ++ m).foldr (fun x t=>Y7 s new x + t) 0=l.foldr (fun x t=>Y7 s new x + t) 0 + m.foldr (fun x t=>Y7 s new x + t) 0:=by
   intro l m
   induction l with
   | nil=>simp
   | cons x l ih=>rw [List.cons_append,List.foldr_cons,List.foldr_cons,ih];omega
  rw [app,z8y s new a n]
  congr 1
  by_cases h:lotsOf s a (n + 1)=0
  ·rw [if_pos h];dsimp only;rw [h,Int.zero_mul];rfl
  ·rw [if_neg h]
   show Y7 s new ⟨a,n + 1,lotsOf s a (n + 1)⟩ + 0=_
   unfold Y7 z0s
   dsimp only
   cases contractOf s (n + 1) with
   | none=>rw [Int.mul_zero];rfl
   | some k=>rw [Int.add_zero]
theorem z6O {m:HouM} {s:State} (h:Rel m s) (hc:Core s) {new:List Int}:∀ (i:Nat),i≤m.cons.length→∀ a:Nat,a < m.cash.length →
  ((m.cons.take i).foldl (fun gr k=>Z2 (Ze m new k) gr k.held) (m.cash.map fun _=>0))[a]?=some (zw (fun c=>lotsOf s (a + 1) c * z0s s new c) i)
 | 0,_,a,ha=>by
  show (m.cash.map fun _=>(0:Int))[a]?=some 0
  rw [List.getElem?_map,List.getElem?_eq_getElem ha];rfl
 | i + 1,hi,a,ha=>by
  have hk:m.cons[i]?=some m.cons[i]:=List.getElem?_eq_getElem (by omega)
  obtain ⟨c,r,e1,e2,R⟩:=h.con i _ hk
  rw [List.take_succ,hk]
  show (((m.cons.take i) ++ [m.cons[i]]).foldl _ _)[a]?=_
  rw [List.foldl_append]
  show (Z2 (Ze m new m.cons[i]) _ m.cons[i].held)[a]?=_
  rw [z5T _ _ _ R.nd (fun p hp=>(R.keys p hp).1),z6O h hc i (by omega) a ha]
  show some (zw _ i + lkI _ ((a:Int) + 1) * _)=some (zw _ i + _)
  have:=zdR h hc (new:=new) hk (a + 1)
  rw [show ((a:Int) + 1)=((a + 1:Nat):Int) by omega,this]
theorem z6N {m:HouM} {s:State} (h:Rel m s) (hc:Core s) (new:List Int) {a:Nat} (ha:a < m.cash.length) :
  (yx m new)[a]?=some ((s.lots.filter fun x=>x.account == a + 1).foldr (fun x t=>Y7 s new x + t) 0):=by
 have e:=z6O h hc (new:=new) m.cons.length (Nat.le_refl _) a ha
 rw [List.take_length] at e
 have hl:a < s.cash.length:=by rw [← h.cash];exact ha
 rw [z7o hc ⟨by omega,by omega⟩,z8y,← h.ncon]
 exact e
theorem zcA {m:HouM} {s:State} (h:Rel m s) (hc:Core s) (new:List Int):(zbt m new).cash=(turnOver s new).cash:=by
 rw [yM]
 show List.zipWith (fun a b=>a + b) m.cash (yx m new)=s.cash.mapIdx _
 apply List.ext_getElem?
 intro a
 rw [List.getElem?_mapIdx,List.getElem?_zipWith,h.cash]
 by_cases ha:a < s.cash.length
 ·rw [z6N h hc new (by rw [h.cash];exact ha),List.getElem?_eq_getElem ha];rfl
 ·rw [List.getElem?_eq_none (by omega)];rfl
theorem zdZ {m:HouM} {s:State} (h:Rel m s) (hc:Core s) (new:List Int):((turnOver s new).cash.zip s.cash).map (fun p=>p.1 - p.2)=yx m new:=by
 rw [yM]
 apply List.ext_getElem?
 intro a
 show (((s.cash.mapIdx _).zip s.cash).map _)[a]?=_
 by_cases ha:a < s.cash.length
 ·rw [z6N h hc new (by rw [h.cash];exact ha),List.getElem?_map]
  have e1:((s.cash.mapIdx fun i m=>m + (s.lots.filter fun x=>x.account == i + 1).foldr (fun x n=>Y7 s new x + n) 0).zip s.cash)[a]?=some (s.cash[a] + (s.lots.filter fun x=>x.account == a + 1).foldr (fun x n=>Y7 s new x + n) 0,s.cash[a]) :=
   List.getElem?_zip_eq_some.mpr ⟨by rw [List.getElem?_mapIdx,List.getElem?_eq_getElem ha];rfl,List.getElem?_eq_getElem ha⟩
  rw [e1]
  show some _=some _
  congr 1
  dsimp only
  omega
 ·rw [List.getElem?_eq_none (by rw [List.length_map,List.length_zip,List.length_mapIdx];omega),List.getElem?_eq_none (by rw [z3D,h.cash];omega)]
theorem Rel.turnOver {m:HouM} {s:State} (h:Rel m s) (hc:Core s) (new:List Int):Rel (zbt m new) (Vbchaa.turnOver s new):=by
 have eL:=zbu s new
 have eN:(Vbchaa.turnOver s new).cash.length=s.cash.length:=by rw [yM];dsimp only;rw [List.length_mapIdx]
 refine ⟨by rw [yM];show m.turn + 1=s.turn + 1;rw [h.turn],rfl,zcA h hc new,?_,fun i k hi=>?_,List.Perm.refl _,fun key x hx=>(by cases hx),rfl⟩
 ·rw [yM];show (m.cons.map _).length=(s.contracts.map _).length;rw [List.length_map,List.length_map,h.ncon]
 ·have hi:(m.cons.map (Za m.turn))[i]?=some k:=hi
  rw [List.getElem?_map] at hi
  cases hk:m.cons[i]? with
  | none=>rw [hk] at hi;cases hi
  | some k0=>
   rw [hk] at hi
   have hi:=Option.some.inj hi
   obtain ⟨c,r,e1,e2,R⟩:=h.con i k0 hk
   have ec:contractOf s (i + 1)=some c:=ZR.mpr ⟨by omega,e1⟩
   have o:=hc.con c (z19 ec)
   have eg:ZE s (i + 1)=endsNow s c:=by unfold ZE;rw [ec]
   have c1:(Vbchaa.turnOver s new).contracts[i]?=some (if endsNow s c=true then { c with over:=true } else c):=by
    rw [yM];show (s.contracts.map _)[i]?=_;rw [List.getElem?_map,e1];rfl
   have r1:(Vbchaa.turnOver s new).runs[i]?=some (if ZE s (i + 1)=true then { r with base:=[],assigned:=[],count:=0 } else r):=by
    rw [yM];show (s.runs.mapIdx _)[i]?=_;rw [List.getElem?_mapIdx,e2];rfl
   refine ⟨_,_,c1,r1,?_⟩
   rw [eg]
   unfold Za at hi
   by_cases he:endsNow s c=true
   ·have hx:k0.expiry=m.turn:=by rw [R.expiry,h.turn];exact (z1d o).mp he
    rw [if_pos hx] at hi
    subst hi
    rw [if_pos he,if_pos he]
    refine ⟨R.kind,R.under,R.strike,R.mult,R.expiry,rfl,rfl,fun a=>?_,by simp,by simp⟩
    rw [eL,eg,if_pos he];rfl
   ·have hx:¬ k0.expiry=m.turn:=fun q=>he ((z1d o).mpr (by rw [← R.expiry,← h.turn];exact q))
    rw [if_neg hx] at hi
    subst hi
    rw [if_neg he,if_neg he]
    refine ⟨R.kind,R.under,R.strike,R.mult,R.expiry,R.over,R.run,fun a=>?_,by rw [eN];exact R.keys,R.nd⟩
    rw [eL,eg,if_neg he];exact R.lots a
end Hx
namespace Hx
open Vbchaa
noncomputable def rgP (p:Int):Prop:=0≤p∧p≤1000000
noncomputable instance (p:Int):Decidable (rgP p):=inferInstanceAs (Decidable (_∧_))
noncomputable def inN (l:Nat) (a:Int):Prop:=1≤a∧a≤(l:Int)
noncomputable instance (l:Nat) (a:Int):Decidable (inN l a):=inferInstanceAs (Decidable (_∧_))
noncomputable def bey (k:ConM) (a n:Int):Prop:=¬ (-100000≤lkI k.held a + n∧lkI k.held a + n≤100000)
noncomputable instance (k:ConM) (a n:Int):Decidable (bey k a n):=inferInstanceAs (Decidable (¬ _))
noncomputable def jA (m:HouM) (a c n:Int):Int :=
 if ¬ (1≤n∧n≤1000) then -1 else if ¬ (inN m.cash.length a∧inN m.cons.length c) then -2 else match m.cons[c.toNat - 1]? with
  | none=>-2
  | some k=>if k.over=true then -3 else if k.kind=0 then -4 else if lkI k.held a < n then -9 else if Zs k (atP m.prices k.under)=0 then -14 else 0
noncomputable def rgC (kind strike mult expiry:Int):Prop:=(kind=0∨kind=1∨kind=2)∧rgP strike∧(1≤mult∧mult≤1000)∧(1≤expiry∧expiry≤1000000)
noncomputable instance (kind strike mult expiry:Int):Decidable (rgC kind strike mult expiry):=inferInstanceAs (Decidable (_∧_))
noncomputable def jz (m:HouM) (kind u strike mult expiry:Int):Int :=
 if ¬ rgC kind strike mult expiry then -1 else if ¬ inN m.prices.length u then -2 else if (kind=0∧strike≠0)∨expiry < m.turn then -4 else if m.cons.length=12 then -8 else 0
noncomputable def rgT (key lots price:Int):Prop:=(1≤key∧key≤1000000000)∧(1≤lots∧lots≤1000)∧rgP price
noncomputable instance (key lots price:Int):Decidable (rgT key lots price):=inferInstanceAs (Decidable (_∧_))
noncomputable def jD (m:HouM) (key c buyer seller lots price:Int):Int :=
 if ¬ rgT key lots price then -1 else if ¬ (inN m.cons.length c∧inN m.cash.length buyer∧inN m.cash.length seller) then -2 else match m.cons[c.toNat - 1]? with
  | none=>-2
  | some k=>if k.over=true then -3 else if buyer=seller then -10 else if key∈m.spent then -5 else if bey k buyer lots∨bey k seller (-lots) then -7 else if m.spent.length=60 then -8 else 0
noncomputable def Yx (x:TrdM) (a:Int):Bool:=if a=x.buyer then x.ys else x.yb
noncomputable def jy (m:HouM) (key a:Int):Int:=match gI m.trades key with
 | none=>-6
 | some x=>if a≠x.buyer∧a≠x.seller then -12 else match m.cons[x.con]? with
  | none=>0
  | some k=>if x.exb < k.exd then -11 else if Yx x a=false then 0 else if bey k x.buyer (-x.lots)∨bey k x.seller x.lots then -7 else 0
noncomputable def jB (m:HouM) (key side taker:Int):Int:=if side≠0∧side≠1 then -1 else match gI m.trades key with
 | none=>-6
 | some x=>if ¬ inN m.cash.length taker then -2 else if taker=x.buyer∨taker=x.seller then -10 else 0
noncomputable def YX (x:TrdM):Int:=if x.side=0 then x.buyer else x.seller
noncomputable def zu (x:TrdM):Int:=if x.side=0 then x.lots else -x.lots
noncomputable def jC (m:HouM) (key:Int):Int:=match gI m.trades key with
 | none=>-6
 | some x=>if x.taker=0 then -13 else match m.cons[x.con]? with
  | none=>0
  | some k=>if x.exb < k.exd then -11 else if bey k (YX x) (-zu x)∨bey k x.taker (zu x) then -7 else 0
noncomputable def jE (m:HouM) (new:List Int):Int:=if ¬ (∀ p∈new,rgP p) then -1 else if new.length≠m.prices.length then -15 else 0
section
variable {m:HouM} {s:State}
theorem Rel.cashN (h:Rel m s):m.cash.length=s.cash.length:=by rw [h.cash]
theorem Rel.priceN (h:Rel m s):m.prices.length=s.prices.length:=by rw [h.prices]
theorem Zf (h:Rel m s) (a:Int):isAccount s a=decide (inN m.cash.length a):=by
 rw [Bool.eq_iff_iff,z0x,decide_eq_true_iff,h.cashN];rfl
theorem ZG (h:Rel m s) (a:Int):isContract s a=decide (inN m.cons.length a):=by
 rw [Bool.eq_iff_iff,z3X,decide_eq_true_iff,h.ncon];rfl
theorem z70 (h:Rel m s) (a:Int):isUnder s a=decide (inN m.prices.length a):=by
 rw [Bool.eq_iff_iff,z76,decide_eq_true_iff,h.priceN];rfl
theorem yr (n lo hi:Int):within n lo hi=decide (lo≤n∧n≤hi):=by rw [Bool.eq_iff_iff,yU,decide_eq_true_iff]
theorem Rel.at (h:Rel m s) {c:Int} (hc:inN m.cons.length c):∃ k c0 r,m.cons[c.toNat - 1]?=some k∧contractOf s c.toNat=some c0∧s.runs[c.toNat - 1]?=some r∧ConR s (c.toNat - 1) k c0 r:=by
 obtain ⟨h1,h2⟩:=hc
 have hl:c.toNat - 1 < m.cons.length:=by omega
 obtain ⟨c0,r,e1,e2,R⟩:=h.con _ _ (List.getElem?_eq_getElem hl)
 exact ⟨_,c0,r,List.getElem?_eq_getElem hl,ZR.mpr ⟨by omega,e1⟩,e2,R⟩
theorem z0o {k:ConM} {c0:Contract} {r:Run} {i a:Nat} {n z:Int} (R:ConR s i k c0 r) (hz:z=(a:Int)):fitsLots s a (i + 1) n = !decide (bey k z n):=by
 subst hz
 rw [Bool.eq_iff_iff,jm,Bool.not_eq_true',decide_eq_false_iff_not]
 unfold bey
 rw [R.lots,Classical.not_not]
 rfl
theorem z11 {c:Int} {c0:Contract} (e:contractOf s c.toNat=some c0):alive s c = !c0.over:=by unfold alive;rw [e]
theorem z48 {k:ConM} {c0:Contract} {r:Run} {a c:Int} (R:ConR s (c.toNat - 1) k c0 r) (ha:1≤a) (hc:1≤c):lotsOf s a.toNat c.toNat=lkI k.held a:=by
 have:=R.lots a.toNat
 rw [show ((a.toNat:Nat):Int)=a by omega,show c.toNat - 1 + 1=c.toNat by omega] at this
 exact this.symm
theorem z4F (h:Rel m s) {k:ConM} {c0:Contract} {r:Run} {i:Nat} (R:ConR s i k c0 r) (o:ConOk s c0) (h4:¬ k.kind=0):Zs k (atP m.prices k.under)=payoff c0 (priceOf s c0.under):=by
 have hk2:=o.kind
 rw [z7Y R.kind R.strike (by rw [R.kind] at h4;omega)]
 unfold atP priceOf
 rw [h.prices,R.under];rfl
theorem zjv (h:Rel m s) (hc:Core s) {a c n:Int} (hr:jA m a c n≠0):Vbchaa.step s (.exercise a c n)=(s,[jA m a c n]):=by
 have st:Vbchaa.step s (.exercise a c n)=if ¬ (1≤n∧n≤1000) then (s,[-1]) else if ¬ (inN m.cash.length a∧inN m.cons.length c) then (s,[-2]) else if alive s c=false then (s,[-3])
   else match contractOf s c.toNat with
   | none=>(s,[-3])
   | some k=>
    if k.kind=0 then (s,[-4]) else if lotsOf s a.toNat c.toNat < n then (s,[-9]) else if payoff k (priceOf s k.under)=0 then (s,[-14])
    else let r:=exercised s k c.toNat a.toNat n.toNat
     (r.1,(n * (k.mult * payoff k (priceOf s k.under))) :: r.2.flatMap fun p=>[nat p.1,p.2]):=by
  unfold Vbchaa.step
  dsimp only
  rw [yr,Zf h,ZG h,← Bool.decide_and]
  simp only [decide_eq_false_iff_not]
  rfl
 rw [st]
 unfold jA at *
 by_cases h1:¬ (1≤n∧n≤1000)
 ·rw [if_pos h1,if_pos h1]
 ·rw [if_neg h1,if_neg h1]
  rw [if_neg h1] at hr
  by_cases h2:¬ (inN m.cash.length a∧inN m.cons.length c)
  ·rw [if_pos h2,if_pos h2]
  ·rw [if_neg h2,if_neg h2]
   rw [if_neg h2] at hr
   have h2:=Classical.not_not.mp h2
   obtain ⟨k,c0,r,e1,e2,e3,R⟩:=h.at h2.2
   rw [e1] at hr ⊢
   rw [e2,z11 e2]
   dsimp only at hr ⊢
   have o:=hc.con c0 (z19 e2)
   by_cases h3:k.over=true
   ·rw [if_pos h3]
    rw [R.over] at h3
    rw [h3];rfl
   ·rw [if_neg h3] at hr ⊢
    rw [R.over] at h3
    have h3:c0.over=false:=by simpa using h3
    rw [h3,if_neg (show ¬ (!false)=false by decide)]
    by_cases h4:k.kind=0
    ·rw [if_pos h4,if_pos (show c0.kind=0 by rw [← R.kind];exact h4)]
    ·rw [if_neg h4] at hr ⊢
     rw [if_neg (show ¬ c0.kind=0 by rw [← R.kind];exact h4),z48 R h2.1.1 h2.2.1]
     by_cases h5:lkI k.held a < n
     ·rw [if_pos h5,if_pos h5]
     ·rw [if_neg h5] at hr ⊢
      rw [if_neg h5]
      rw [z4F h R o h4] at hr ⊢
      by_cases h6:payoff c0 (priceOf s c0.under)=0
      ·rw [if_pos h6,if_pos h6]
      ·rw [if_neg h6] at hr;exact absurd rfl hr
theorem zju (h:Rel m s) (hc:Core s) {kind u strike mult expiry:Int} (hr:jz m kind u strike mult expiry≠0):Vbchaa.step s (.contract kind u strike mult expiry)=(s,[jz m kind u strike mult expiry]):=by
 have st:Vbchaa.step s (.contract kind u strike mult expiry)=if ¬ rgC kind strike mult expiry then (s,[-1]) else if ¬ inN m.prices.length u then (s,[-2]) else if (kind=0∧strike≠0)∨expiry < s.turn then (s,[-4])
   else if CONTRACTS≤s.contracts.length then (s,[-8])
   else ({ s with contracts:=s.contracts ++ [⟨kind,u.toNat,strike,mult,expiry,false⟩],runs:=s.runs ++ [⟨[],[],0,0⟩] },[nat (s.contracts.length + 1)]):=by
  unfold Vbchaa.step
  dsimp only
  rw [yr,yr,yr,yr,z70 h,← Bool.decide_and,← Bool.decide_and,← Bool.decide_and]
  simp only [decide_eq_false_iff_not]
  have e:((0≤kind∧kind≤2)∧(0≤strike∧strike≤PRICE)∧(1≤mult∧mult≤1000)∧1≤expiry∧expiry≤1000000)↔rgC kind strike mult expiry:=by
   unfold rgC rgP PRICE
   omega
  simp only [e]
 rw [st,← h.turn]
 unfold jz at *
 by_cases h1:¬ rgC kind strike mult expiry
 ·rw [if_pos h1,if_pos h1]
 ·rw [if_neg h1] at hr ⊢
  rw [if_neg h1]
  by_cases h2:¬ inN m.prices.length u
  ·rw [if_pos h2,if_pos h2]
  ·rw [if_neg h2] at hr ⊢
   rw [if_neg h2]
   by_cases h3:(kind=0∧strike≠0)∨expiry < m.turn
   ·rw [if_pos h3,if_pos h3]
   ·rw [if_neg h3] at hr ⊢
    rw [if_neg h3]
    by_cases h4:m.cons.length=12
    ·rw [if_pos h4,if_pos (show CONTRACTS≤s.contracts.length by unfold CONTRACTS;rw [← h.ncon];omega)]
    ·rw [if_neg h4] at hr;exact absurd rfl hr
theorem zjy (h:Rel m s) (hc:Core s) {key c buyer seller lots price:Int} (hr:jD m key c buyer seller lots price≠0) (hsp:s.spent.length≤60):Vbchaa.step s (.trade key c buyer seller lots price)=(s,[jD m key c buyer seller lots price]):=by
 have st:Vbchaa.step s (.trade key c buyer seller lots price)=if ¬ rgT key lots price then (s,[-1]) else if ¬ (inN m.cons.length c∧inN m.cash.length buyer∧inN m.cash.length seller) then (s,[-2]) else if alive s c=false then (s,[-3])
   else if buyer=seller then (s,[-10]) else if (s.spent.contains key)=true then (s,[-5])
   else if (fitsLots s buyer.toNat c.toNat lots && fitsLots s seller.toNat c.toNat (-lots))=false then (s,[-7]) else if TRADES≤s.spent.length then (s,[-8]) else match contractOf s c.toNat with
   | none=>(s,[-3])
   | some k=>
    let t:Trade:=⟨key,c.toNat,buyer.toNat,seller.toNat,lots,price,(runOf s c.toNat).exercises,false,false,none⟩
    let u:=both s k t 1
    ({ u with trades:=putTrade t u.trades,spent:=key :: u.spent },[0]):=by
  unfold Vbchaa.step
  dsimp only
  rw [yr,yr,yr,ZG h,Zf h,Zf h,← Bool.decide_and,← Bool.decide_and,← Bool.decide_and,← Bool.decide_and]
  simp only [decide_eq_false_iff_not]
  rfl
 rw [st]
 unfold jD at *
 by_cases h1:¬ rgT key lots price
 ·rw [if_pos h1,if_pos h1]
 ·rw [if_neg h1] at hr ⊢
  rw [if_neg h1]
  by_cases h2:¬ (inN m.cons.length c∧inN m.cash.length buyer∧inN m.cash.length seller)
  ·rw [if_pos h2,if_pos h2]
  ·rw [if_neg h2] at hr ⊢
   rw [if_neg h2]
   have h2:=Classical.not_not.mp h2
   obtain ⟨k,c0,r,e1,e2,e3,R⟩:=h.at h2.1
   rw [e1] at hr ⊢
   rw [z11 e2]
   dsimp only at hr ⊢
   have hb:=h2.2.1.1
   have hse:=h2.2.2.1
   have hcc:=h2.1.1
   by_cases h3:k.over=true
   ·rw [if_pos h3]
    rw [R.over] at h3
    rw [h3];rfl
   ·rw [if_neg h3] at hr ⊢
    rw [R.over] at h3
    have h3:c0.over=false:=by simpa using h3
    rw [h3,if_neg (show ¬ (!false)=false by decide)]
    by_cases h4:buyer=seller
    ·rw [if_pos h4,if_pos h4]
    ·rw [if_neg h4] at hr ⊢
     rw [if_neg h4]
     have em:(s.spent.contains key)=true↔key∈m.spent:=by rw [List.contains_iff_mem,h.spent,List.mem_reverse]
     by_cases h5:key∈m.spent
     ·rw [if_pos h5,if_pos (em.mpr h5)]
     ·rw [if_neg h5] at hr ⊢
      rw [if_neg (fun q=>h5 (em.mp q))]
      have ec:c.toNat=c.toNat - 1 + 1:=by omega
      have f1:fitsLots s buyer.toNat c.toNat lots = !decide (bey k buyer lots):=by
       have:=z0o (n:=lots) R (show buyer=((buyer.toNat:Nat):Int) by omega)
       rw [← ec] at this;exact this
      have f2:fitsLots s seller.toNat c.toNat (-lots) = !decide (bey k seller (-lots)):=by
       have:=z0o (n:=-lots) R (show seller=((seller.toNat:Nat):Int) by omega)
       rw [← ec] at this;exact this
      rw [f1,f2]
      by_cases h6:bey k buyer lots∨bey k seller (-lots)
      ·rw [if_pos h6,if_pos]
       rcases h6 with q | q <;> simp [q]
      ·rw [if_neg h6] at hr ⊢
       rw [if_neg (by simp only [not_or] at h6;simp [h6.1,h6.2])]
       by_cases h7:m.spent.length=60
       ·have:TRADES≤s.spent.length:=by unfold TRADES;rw [h.spent,List.length_reverse] at h7;omega
        rw [if_pos h7,if_pos this]
       ·rw [if_neg h7] at hr;exact absurd rfl hr
structure TAt (m:HouM) (s:State) (key:Int) (x:TrdM) (t:Trade) (k:ConM) (c0:Contract) (r:Run):Prop where
 tr:tradeOf s key=some t
 R:TrdR m s x t
 ok:TrdOk s t
 key:t.key=key
 con:contractOf s t.contract=some c0
 at_:m.cons[x.con]?=some k
 C:ConR s x.con k c0 r
 live:c0.over=false
 fr:fresh s t = !decide (x.exb < k.exd)
theorem Rel.tAt (h:Rel m s) (T:Trs s) {key:Int} {x:TrdM} (e:gI m.trades key=some x):∃ t k c0 r,TAt m s key x t k c0 r:=by
 obtain ⟨t,e1,R⟩:=h.trd key x e
 obtain ⟨h2,h3⟩:=je e1
 have o:=T.ok t h2
 obtain ⟨c0,e2,v⟩:=o.con
 have hc:=R.con
 have hle:=YI e2
 have hl:x.con < m.cons.length:=by rw [h.ncon];omega
 have ek:=List.getElem?_eq_getElem hl
 obtain ⟨c1,r,f1,f2,C⟩:=h.con _ _ ek
 have e3:c1=c0:=by
  have:=(ZR.mp e2).2
  rw [← hc,show x.con + 1 - 1=x.con by omega,f1] at this
  exact Option.some.inj this
 subst e3
 refine ⟨t,_,c1,r,e1,R,o,h3,e2,ek,C,v,?_⟩
 obtain ⟨g1,g2⟩:=R.ex _ ek
 unfold fresh
 by_cases q:x.exb < m.cons[x.con].exd
 ·rw [decide_eq_true q,decide_eq_false (fun z=>by have:=g2.mpr z;omega)];rfl
 ·rw [decide_eq_false q,decide_eq_true (g2.mp (by omega))];rfl
theorem z0a {key:Int} {x:TrdM} {t:Trade} {k:ConM} {c0:Contract} {r:Run} (a:TAt m s key x t k c0 r) (f:Trade→Contract→State × Ans):onTrade s key f=f t c0:=by
 unfold onTrade
 rw [a.tr]
 dsimp only
 rw [a.con]
theorem z5p (h:Rel m s) {key:Int} (e:gI m.trades key=none) (f:Trade→Contract→State × Ans):onTrade s key f=(s,[-6]):=by
 unfold onTrade
 rw [h.trdN e]
theorem TAt.fits {key:Int} {x:TrdM} {t:Trade} {k:ConM} {c0:Contract} {r:Run} (T:TAt m s key x t k c0 r) {a:Nat} {z n:Int} (hz:z=(a:Int)):fitsLots s a t.contract n = !decide (bey k z n):=by
 have:=z0o (n:=n) T.C hz
 rw [T.R.con] at this;exact this
theorem z42 {key:Int} {x:TrdM} {t:Trade} {k:ConM} {c0:Contract} {r:Run} (T:TAt m s key x t k c0 r) {a:Int} (ha:¬ (a≠x.buyer∧a≠x.seller)) :
  ((t.yesBuyer || decide (a=nat t.buyer)) && (t.yesSeller || decide (a=nat t.seller)))=Yx x a:=by
 have e1:=T.R.buyer
 have e2:=T.R.seller
 have ne:=T.ok.ne
 unfold Yx nat
 rw [T.R.ys,T.R.yb]
 by_cases q:a=x.buyer
 ·rw [if_pos q,decide_eq_true (by rw [q,e1]),decide_eq_false (by rw [q,e1];omega)];simp
 ·have q2:a=x.seller:=by
   apply Classical.byContradiction
   intro z;exact ha ⟨q,z⟩
  rw [if_neg q,decide_eq_true (show a=(t.seller:Int) by rw [q2,e2]),decide_eq_false (show ¬ a=(t.buyer:Int) by rw [← e1];exact q)];simp
theorem zjt (h:Rel m s) (T:Trs s) {key a:Int} (hr:jy m key a≠0):Vbchaa.step s (.agree key a)=(s,[jy m key a]):=by
 unfold Vbchaa.step
 dsimp only
 unfold jy at *
 cases e:gI m.trades key with
 | none=>exact z5p h e _
 | some x=>
  rw [e] at hr
  obtain ⟨t,k,c0,r,A⟩:=h.tAt T e
  rw [z0a A]
  dsimp only at hr ⊢
  have e1:=A.R.buyer
  have e2:=A.R.seller
  have ea:(a≠nat t.buyer∧a≠nat t.seller)↔(a≠x.buyer∧a≠x.seller):=by unfold nat;rw [e1,e2]
  by_cases h1:a≠x.buyer∧a≠x.seller
  ·rw [if_pos h1,if_pos (ea.mpr h1)]
  ·rw [if_neg h1] at hr ⊢
   rw [if_neg (fun q=>h1 (ea.mp q)),A.fr]
   rw [A.at_] at hr ⊢
   dsimp only at hr ⊢
   by_cases h2:x.exb < k.exd
   ·rw [if_pos h2,if_pos (by simp [h2])]
   ·rw [if_neg h2] at hr ⊢
    rw [if_neg (by simp [h2])]
    by_cases h3:Yx x a=false
    ·rw [if_pos h3] at hr;exact absurd rfl hr
    ·rw [if_neg h3] at hr ⊢
     unfold agreed
     dsimp only
     rw [z42 A h1,if_neg h3,A.fits e1,A.fits e2,A.R.lots]
     rw [A.R.lots] at hr
     by_cases h4:bey k x.buyer (-t.lots)∨bey k x.seller t.lots
     ·rw [if_pos h4,if_pos]
      rcases h4 with q | q <;> simp [q]
     ·rw [if_neg h4] at hr;exact absurd rfl hr
theorem zjw (h:Rel m s) (T:Trs s) {key sd taker:Int} (hr:jB m key sd taker≠0):Vbchaa.step s (.give key sd taker)=(s,[jB m key sd taker]):=by
 unfold Vbchaa.step
 dsimp only
 rw [yr]
 unfold jB at *
 by_cases h0:sd≠0∧sd≠1
 ·rw [if_pos h0,if_pos (by rw [decide_eq_false_iff_not];omega)]
 ·rw [if_neg h0] at hr ⊢
  rw [if_neg (by rw [decide_eq_false_iff_not];omega)]
  cases e:gI m.trades key with
  | none=>exact z5p h e _
  | some x=>
   rw [e] at hr
   obtain ⟨t,k,c0,r,A⟩:=h.tAt T e
   rw [z0a A]
   dsimp only at hr ⊢
   rw [Zf h]
   have e1:=A.R.buyer
   have e2:=A.R.seller
   by_cases h1:inN m.cash.length taker
   ·rw [if_neg (by simpa using h1)] at hr
    have h1':¬ ¬ inN m.cash.length taker:=fun q=>q h1
    rw [if_neg h1',if_neg (by simp [h1])]
    have ea:(taker=nat t.buyer∨taker=nat t.seller)↔(taker=x.buyer∨taker=x.seller):=by unfold nat;rw [e1,e2]
    by_cases h2:taker=x.buyer∨taker=x.seller
    ·rw [if_pos h2,if_pos (ea.mpr h2)]
    ·rw [if_neg h2] at hr;exact absurd rfl hr
   ·rw [if_pos h1,if_pos (by simp [h1])]
theorem zjx (h:Rel m s) (T:Trs s) {key:Int} (hr:jC m key≠0):Vbchaa.step s (.take key)=(s,[jC m key]):=by
 unfold Vbchaa.step
 dsimp only
 unfold jC at *
 cases e:gI m.trades key with
 | none=>exact z5p h e _
 | some x=>
  rw [e] at hr
  obtain ⟨t,k,c0,r,A⟩:=h.tAt T e
  rw [z0a A]
  dsimp only at hr ⊢
  unfold taken
  cases g:t.given with
  | none=>
   rw [if_pos (A.R.none_ g)]
  | some p=>
   obtain ⟨sd,tk⟩:=p
   obtain ⟨g1,g2⟩:=A.R.some_ sd tk g
   obtain ⟨o1,o2,o3,o4,o5⟩:=A.ok.given sd tk g
   have h1:¬ x.taker=0:=by rw [g1];omega
   rw [if_neg h1] at hr ⊢
   dsimp only
   rw [A.fr]
   rw [A.at_] at hr ⊢
   dsimp only at hr ⊢
   by_cases h2:x.exb < k.exd
   ·rw [if_pos h2,if_pos (by simp [h2])]
   ·rw [if_neg h2] at hr ⊢
    rw [if_neg (show ¬ (!decide (x.exb < k.exd))=false by simp [h2])]
    have eg:YX x=((if sd=0 then t.buyer else t.seller:Nat):Int):=by
     unfold YX
     rw [g2,A.R.buyer,A.R.seller]
     split <;> rfl
    have el:zu x=if sd=0 then t.lots else -t.lots:=by unfold zu;rw [g2,A.R.lots]
    rw [A.fits eg,A.fits g1,← el]
    by_cases h4:bey k (YX x) (-zu x)∨bey k x.taker (zu x)
    ·rw [if_pos h4,if_pos]
     rcases h4 with q | q <;> simp [q]
    ·rw [if_neg h4] at hr;exact absurd rfl hr
theorem zjz (h:Rel m s) {new:List Int} (hr:jE m new≠0):Vbchaa.step s (.turn new)=(s,[jE m new]):=by
 unfold Vbchaa.step
 dsimp only
 unfold jE at *
 have ea:(new.all fun p=>within p 0 PRICE)=true↔∀ p∈new,rgP p:=by
  rw [List.all_eq_true]
  constructor
  ·intro q p hp;exact yU.mp (q p hp)
  ·intro q p hp;exact yU.mpr (q p hp)
 by_cases h1:¬ ∀ p∈new,rgP p
 ·rw [if_pos h1,if_pos (by rw [Bool.eq_false_iff];intro q;exact h1 (ea.mp q))]
 ·rw [if_neg h1] at hr ⊢
  rw [if_neg (by rw [Bool.not_eq_false];exact ea.mpr (Classical.not_not.mp h1)),← h.priceN]
  by_cases h2:new.length≠m.prices.length
  ·rw [if_pos h2,if_pos h2]
  ·rw [if_neg h2] at hr;exact absurd rfl hr
end
end Hx
namespace Hx
open Vbchaa
noncomputable def zI (k:ConM) (a:Nat) (n:Int):ConM:={ k with held:=zP k.held a (lkI k.held a + n) }
noncomputable def Yo (held:List (Int × Int)) (N:Nat):RunM:=zn ⟨yq (fun a=>lkI held a) N,(yq (fun a=>lkI held a) N).map fun p=>(p.1,0),0,0⟩
noncomputable def pairM (m:HouM) (i:Nat) (k:ConM) (a b:Nat) (n x n' y:Int):HouM :=
 z22 (zY (zY m i k a n x) i (zI k a n) b n' y) i (zI (zI k a n) b n') (Yo (zI (zI k a n) b n').held m.cash.length)
section
variable {m:HouM} {s:State} {i:Nat} {k:ConM}
theorem z0R (hk:m.cons[i]?=some k) (k':ConM):(m.cons.set i k')[i]?=some k':=List.getElem?_set_self (List.getElem?_eq_some_iff.mp hk).1
theorem yS (hk:m.cons[i]?=some k) (a:Nat) (n x:Int):(zY m i k a n x).cons[i]?=some (zI k a n):=z0R hk _
theorem yj (a:Nat) (n x:Int):(zY m i k a n x).cash.length=m.cash.length:=by show (m.cash.modify _ _).length=_;rw [List.length_modify]
theorem zc2 (h:Rel m s) (hk:m.cons[i]?=some k):Yo k.held m.cash.length=zn ⟨shorts s (i + 1),(shorts s (i + 1)).map fun p=>(p.1,0),0,0⟩:=by
 obtain ⟨c,r,e1,e2,R⟩:=h.con i k hk
 unfold Yo
 rw [z5a,← h.cashN,show (fun a:Nat=>lkI k.held a)=fun a=>lotsOf s a (i + 1) from funext fun a=>R.lots a]
theorem Rel.pairM (h:Rel m s) (hk:m.cons[i]?=some k) {a b:Nat} (ha:1≤a∧a≤s.cash.length) (hb:1≤b∧b≤s.cash.length) (n x y:Int):Rel (pairM m i k a b n x (-n) y) (pair s (i + 1) a b n x y):=by
 have h1:=h.move hk ha n x
 have k1:=yS hk a n x
 have h2:=h1.move k1 (a:=b) (by rw [j6];exact hb) (-n) y
 have k2:=yS k1 b (-n) y
 have h3:=h2.anew k2 (e:=0)
 have e:=zc2 h2 k2
 rw [yj,yj] at e
 rw [← e] at h3
 exact h3
noncomputable def zr (m:HouM) (k:ConM) (lots price:Int):Int:=lots * k.mult * (if k.kind=0 then atP m.prices k.under - price else -price)
theorem z23 {u:State} (hp:m.prices=u.prices) {c0:Contract} {r:Run} (R:ConR s i k c0 r) (c a:Nat) (sg lots price n:Int) (en:n=sg * lots) :
  side u c0 c a lots price sg=mv u a c n (zr m k n price):=by
 subst en
 have e:atP m.prices k.under=priceOf u c0.under:=by unfold atP priceOf;rw [hp,R.under];rfl
 have e2:(if c0.kind=0 then sg * (lots * c0.mult * (priceOf u c0.under - price)) else -(sg * (lots * c0.mult * price)))=zr m k (sg * lots) price:=by
  unfold zr
  rw [R.kind,R.mult,e]
  by_cases q:c0.kind=0
  ·rw [if_pos q,if_pos q,Int.mul_assoc sg,Int.mul_assoc sg]
  ·rw [if_neg q,if_neg q,Int.mul_neg,Int.mul_assoc sg,Int.mul_assoc sg]
 rw [← e2];rfl
theorem z67 (h:Rel m s) {c0:Contract} {r:Run} (R:ConR s i k c0 r) {t:Trade} (ht:t.contract=i + 1) (sg n:Int) (en:n=sg * t.lots) :
  both s c0 t sg=pair s (i + 1) t.buyer t.seller n (zr m k n t.price) (zr m k (-n) t.price):=by
 unfold both
 rw [ht,z23 h.prices R _ _ sg t.lots _ n en,z23 (u:=mv s t.buyer (i + 1) n (zr m k n t.price)) h.prices R _ _ sg (-t.lots) _ (-n) (by rw [en,Int.mul_neg])]
 rfl
theorem zkG (h:Rel m s) {c0:Contract} {r:Run} (R:ConR s i k c0 r) (g tk:Nat) (n price:Int) :
  anew (side (side s c0 (i + 1) g n price (-1)) c0 (i + 1) tk n price 1) (i + 1)=pair s (i + 1) g tk (-n) (zr m k (-n) price) (zr m k n price):=by
 rw [z23 h.prices R _ _ (-1) n _ (-n) (by omega),z23 (u:=mv s g (i + 1) (-n) (zr m k (-n) price)) h.prices R _ _ 1 n _ n (by omega)]
 unfold pair
 rw [Int.neg_neg]
theorem z1N {α : Type} {l:List (Int × α)} {key:Int} (h:gI l key=none) (v : α):zP l key v=l ++ [(key,v)]:=by
 unfold zP
 rw [z1j,h];rfl
structure TrA (m:HouM) (s:State) (key c buyer seller lots price:Int) (i b l:Nat) (k:ConM):Prop where
 ec:c=((i + 1:Nat):Int)
 eb:buyer=(b:Int)
 el:seller=(l:Int)
 at_:m.cons[i]?=some k
 hb:1≤b∧b≤m.cash.length
 hl:1≤l∧l≤m.cash.length
 rg:rgT key lots price
 nt:gI m.trades key=none
 sp:key ∉ m.spent
 sn:m.spent.length < 60
 st:∃ S,Vbchaa.step s (.trade key c buyer seller lots price)=(S,[0]) ∧
  Rel { pairM m i k b l lots (zr m k lots price) (-lots) (zr m k (-lots) price) with trades:=m.trades ++ [(key,⟨i,b,l,lots,price,false,false,0,0,k.exd⟩)],spent:=m.spent ++ [key] } S
theorem zbS (h:Rel m s) (o:Ok s) {key c buyer seller lots price:Int} (hr:jD m key c buyer seller lots price=0):∃ i b l k,TrA m s key c buyer seller lots price i b l k:=by
 unfold jD at hr
 by_cases h1:¬ rgT key lots price
 ·rw [if_pos h1] at hr;cases hr
 rw [if_neg h1] at hr
 have h1:=Classical.not_not.mp h1
 by_cases h2:¬ (inN m.cons.length c∧inN m.cash.length buyer∧inN m.cash.length seller)
 ·rw [if_pos h2] at hr;cases hr
 rw [if_neg h2] at hr
 have h2:=Classical.not_not.mp h2
 obtain ⟨k,c0,r,e1,e2,e3,R⟩:=h.at h2.1
 rw [e1] at hr
 dsimp only at hr
 by_cases h3:k.over=true
 ·rw [if_pos h3] at hr;cases hr
 rw [if_neg h3] at hr
 by_cases h4:buyer=seller
 ·rw [if_pos h4] at hr;cases hr
 rw [if_neg h4] at hr
 by_cases h5:key∈m.spent
 ·rw [if_pos h5] at hr;cases hr
 rw [if_neg h5] at hr
 by_cases h6:bey k buyer lots∨bey k seller (-lots)
 ·rw [if_pos h6] at hr;cases hr
 rw [if_neg h6] at hr
 by_cases h7:m.spent.length=60
 ·rw [if_pos h7] at hr;cases hr
 obtain ⟨⟨c1,c2⟩,⟨b1,b2⟩,l1,l2⟩:=h2
 have hsp:=h.spent
 have hspn:m.spent.length=s.spent.length:=by rw [hsp,List.length_reverse]
 have h60:=o.t.spN
 have hnt:gI m.trades key=none:=by
  cases q:gI m.trades key with
  | none=>rfl
  | some x=>
   obtain ⟨t,q1,_⟩:=h.trd key x q
   obtain ⟨q2,q3⟩:=je q1
   exact absurd (by rw [hsp,List.mem_reverse,← q3];exact o.t.sp t q2) h5
 have ec:c=((c.toNat - 1 + 1:Nat):Int):=by omega
 have ecn:c.toNat - 1 + 1=c.toNat:=by omega
 have eb:buyer=((buyer.toNat:Nat):Int):=by omega
 have el:seller=((seller.toNat:Nat):Int):=by omega
 have h3':c0.over=false:=by rw [← R.over];simpa using h3
 refine ⟨c.toNat - 1,buyer.toNat,seller.toNat,k,ec,eb,el,e1,by omega,by omega,h1,hnt,h5,by omega,?_⟩
 simp only [not_or] at h6
 have f1:fitsLots s buyer.toNat c.toNat lots=true:=by
  have:=z0o (n:=lots) R eb
  rw [ecn] at this;rw [this];simp [h6.1]
 have f2:fitsLots s seller.toNat c.toNat (-lots)=true:=by
  have:=z0o (n:=-lots) R el
  rw [ecn] at this;rw [this];simp [h6.2]
 have hst:Vbchaa.step s (.trade key c buyer seller lots price) =
   ({ both s c0 ⟨key,c.toNat,buyer.toNat,seller.toNat,lots,price,(runOf s c.toNat).exercises,false,false,none⟩ 1 with
    trades:=putTrade ⟨key,c.toNat,buyer.toNat,seller.toNat,lots,price,(runOf s c.toNat).exercises,false,false,none⟩ s.trades,spent:=key :: s.spent },[0]):=by
  unfold Vbchaa.step
  dsimp only
  rw [yr,yr,yr,ZG h,Zf h,Zf h]
  rw [if_neg (by rw [decide_eq_true (show 1≤key∧key≤KEY from h1.1),decide_eq_true h1.2.1,decide_eq_true (show 0≤price∧price≤PRICE from h1.2.2)];decide),
   if_neg (by rw [decide_eq_true (show inN m.cons.length c from ⟨c1,c2⟩),decide_eq_true (show inN m.cash.length buyer from ⟨b1,b2⟩),decide_eq_true (show inN m.cash.length seller from ⟨l1,l2⟩)];decide),
   if_neg (by rw [z11 e2,h3'];decide),if_neg h4,if_neg (by rw [List.contains_iff_mem];intro q;exact h5 (by rw [hsp,List.mem_reverse];exact q)),
   if_neg (by rw [f1,f2];decide),if_neg (by unfold TRADES;omega),e2]
  rfl
 refine ⟨_,hst,?_⟩
 rw [z67 h R (t:=⟨key,c.toNat,buyer.toNat,seller.toNat,lots,price,(runOf s c.toNat).exercises,false,false,none⟩) ecn.symm 1 lots (by rw [Int.one_mul])]
 dsimp only
 have hN:=h.cashN
 have h1':=h.pairM e1 (a:=buyer.toNat) (b:=seller.toNat) (by omega) (by omega) lots (zr m k lots price) (zr m k (-lots) price)
 have L:=JY s (c.toNat - 1 + 1) buyer.toNat seller.toNat lots (zr m k lots price) (zr m k (-lots) price)
 have hx:TrdR (pairM m (c.toNat - 1) k buyer.toNat seller.toNat lots (zr m k lots price) (-lots) (zr m k (-lots) price)) (pair s (c.toNat - 1 + 1) buyer.toNat seller.toNat lots (zr m k lots price) (zr m k (-lots) price))
   ⟨c.toNat - 1,buyer.toNat,seller.toNat,lots,price,false,false,0,0,k.exd⟩ ⟨key,c.toNat,buyer.toNat,seller.toNat,lots,price,(runOf s c.toNat).exercises,false,false,none⟩:=by
  refine ⟨ecn,rfl,rfl,rfl,rfl,rfl,rfl,fun _=>rfl,fun _ _ q=>(by cases q),fun k' hk'=>?_⟩
  dsimp only at hk' ⊢
  have hk'':k'.exd=k.exd:=by
   have z:=z0R (m:=zY (zY m (c.toNat - 1) k buyer.toNat lots (zr m k lots price)) (c.toNat - 1) (zI k buyer.toNat lots) seller.toNat (-lots) (zr m k (-lots) price)) (yS (yS e1 _ _ _) _ _ _)
    { zI (zI k buyer.toNat lots) seller.toNat (-lots) with run:=Yo (zI (zI k buyer.toNat lots) seller.toNat (-lots)).held m.cash.length }
   have z2:=z.symm.trans hk'
   have z3:=Option.some.inj z2
   rw [← z3];rfl
  rw [hk'',L.ex]
  exact ⟨Int.le_refl _,fun _=>rfl,fun _=>rfl⟩
 have:=h1'.put hx (fun y hy q=>by
  rw [L.trades] at hy
  have q:y.key=key:=q
  exact h5 (by rw [hsp,List.mem_reverse,← q];exact o.t.sp y hy))
 dsimp only at this
 rw [L.trades,L.spent] at this
 have ep:zP (pairM m (c.toNat - 1) k buyer.toNat seller.toNat lots (zr m k lots price) (-lots) (zr m k (-lots) price)).trades key ⟨c.toNat - 1,buyer.toNat,seller.toNat,lots,price,false,false,0,0,k.exd⟩=m.trades ++ [(key,⟨c.toNat - 1,buyer.toNat,seller.toNat,lots,price,false,false,0,0,k.exd⟩)]:=z1N hnt _
 rw [ep] at this
 exact this
end
end Hx
namespace Hx
open Vbchaa
section
variable {m:HouM} {s:State} {i:Nat} {k:ConM}
theorem zbM (h:Rel m s) (o:Ok s) (hr:m.cash.length≠12):Vbchaa.step s .account=({ s with cash:=s.cash ++ [0] },[((m.cash.length + 1:Nat):Int)])∧Rel { m with cash:=m.cash ++ [0] } { s with cash:=s.cash ++ [0] }:=by
 have:=h.cashN
 have:=o.c.cashN
 refine ⟨?_,h.account⟩
 unfold Vbchaa.step
 dsimp only
 rw [if_neg (by unfold ACCOUNTS;omega),h.cashN];rfl
theorem zjs (h:Rel m s) (hr:m.cash.length=12):Vbchaa.step s .account=(s,[-8]):=by
 unfold Vbchaa.step
 dsimp only
 rw [if_pos (by unfold ACCOUNTS;rw [← h.cashN];omega)]
theorem zjA {p:Int} (hr:¬ rgP p):Vbchaa.step s (.under p)=(s,[-1]):=by
 unfold Vbchaa.step
 dsimp only
 rw [yr,if_pos (by rw [decide_eq_false];exact hr)]
theorem zjB (h:Rel m s) {p:Int} (hr:rgP p) (h2:m.prices.length=4):Vbchaa.step s (.under p)=(s,[-8]):=by
 unfold Vbchaa.step
 dsimp only
 rw [yr,if_neg (by rw [decide_eq_true (show 0≤p∧p≤PRICE from hr)];decide),if_pos (by unfold UNDERS;rw [← h.priceN];omega)]
theorem zbU (h:Rel m s) (o:Ok s) {p:Int} (hr:rgP p) (h2:m.prices.length≠4):Vbchaa.step s (.under p)=({ s with prices:=s.prices ++ [p] },[((m.prices.length + 1:Nat):Int)])∧Rel { m with prices:=m.prices ++ [p] } { s with prices:=s.prices ++ [p] }:=by
 have:=h.priceN
 have:=o.c.priceN
 refine ⟨?_,h.under p⟩
 unfold Vbchaa.step
 dsimp only
 rw [yr,if_neg (by rw [decide_eq_true (show 0≤p∧p≤PRICE from hr)];decide),if_neg (by unfold UNDERS;omega),h.priceN];rfl
theorem zbO (h:Rel m s) (o:Ok s) {kind u strike mult expiry:Int} (hr:jz m kind u strike mult expiry=0):m.cons.length < 12∧inN m.prices.length u ∧
  ∃ S,Vbchaa.step s (.contract kind u strike mult expiry)=(S,[((m.cons.length + 1:Nat):Int)])∧Rel { m with cons:=m.cons ++ [⟨kind,u,strike,mult,expiry,false,[],⟨[],0,[],0⟩,0⟩] } S:=by
 unfold jz at hr
 by_cases h1:¬ rgC kind strike mult expiry
 ·rw [if_pos h1] at hr;cases hr
 rw [if_neg h1] at hr
 by_cases h2:¬ inN m.prices.length u
 ·rw [if_pos h2] at hr;cases hr
 rw [if_neg h2] at hr
 by_cases h3:(kind=0∧strike≠0)∨expiry < m.turn
 ·rw [if_pos h3] at hr;cases hr
 rw [if_neg h3] at hr
 by_cases h4:m.cons.length=12
 ·rw [if_pos h4] at hr;cases hr
 have h1:=Classical.not_not.mp h1
 have h2:=Classical.not_not.mp h2
 have hN:=h.ncon
 have hc:=o.c.conN
 have eu:((u.toNat:Nat):Int)=u:=by have:=h2.1;omega
 refine ⟨by omega,h2,?_,?_,?_⟩
 ·exact { s with contracts:=s.contracts ++ [⟨kind,u.toNat,strike,mult,expiry,false⟩],runs:=s.runs ++ [⟨[],[],0,0⟩] }
 ·obtain ⟨r1,r2,r3,r4⟩:=h1
  unfold Vbchaa.step
  dsimp only
  rw [yr,yr,yr,yr,z70 h]
  rw [if_neg (by rw [decide_eq_true (show 0≤kind∧kind≤2 by omega),decide_eq_true (show 0≤strike∧strike≤PRICE from r2),decide_eq_true r3,decide_eq_true r4];decide),if_neg (by rw [decide_eq_true h2];decide),if_neg (by rw [← h.turn];exact h3),if_neg (by unfold CONTRACTS;omega),h.ncon];rfl
 ·have:=h.contract o.c o.t (kind:=kind) (strike:=strike) (mult:=mult) (expiry:=expiry) (u:=u.toNat)
  rw [eu] at this
  exact this
theorem z5x {key:Int} {x:TrdM} (hx:gI m.trades key=some x):key∈m.trades.map (·.1):=by
 apply Classical.byContradiction
 intro q
 rw [Zp.mpr q] at hx;cases hx
structure AgA (m:HouM) (s:State) (key a:Int) (x:TrdM) (k:ConM) (b l:Nat):Prop where
 tr:gI m.trades key=some x
 at_:m.cons[x.con]?=some k
 eb:x.buyer=(b:Int)
 el:x.seller=(l:Int)
 hb:1≤b∧b≤m.cash.length
 hl:1≤l∧l≤m.cash.length
 lots:1≤x.lots∧x.lots≤1000
 last:Yx x a=true→∃ S,Vbchaa.step s (.agree key a)=(S,[1])∧Rel { pairM m x.con k b l (-x.lots) (zr m k (-x.lots) x.price) x.lots (zr m k x.lots x.price) with trades:=yI m.trades key } S
 one:Yx x a=false→∃ S,Vbchaa.step s (.agree key a)=(S,[0])∧Rel { m with trades:=zP m.trades key (if a=x.buyer then { x with yb:=true } else { x with ys:=true }) } S
theorem zbN (h:Rel m s) (o:Ok s) {key a:Int} (hr:jy m key a=0):∃ x k b l,AgA m s key a x k b l:=by
 unfold jy at hr
 cases e:gI m.trades key with
 | none=>rw [e] at hr;cases hr
 | some x=>
  rw [e] at hr
  obtain ⟨t,k,c0,r,A⟩:=h.tAt o.t e
  have ek:=A.key
  subst ek
  dsimp only at hr
  by_cases h1:a≠x.buyer∧a≠x.seller
  ·rw [if_pos h1] at hr;cases hr
  rw [if_neg h1,A.at_] at hr
  dsimp only at hr
  by_cases h2:x.exb < k.exd
  ·rw [if_pos h2] at hr;cases hr
  rw [if_neg h2] at hr
  have e1:=A.R.buyer
  have e2:=A.R.seller
  have ea:(a≠nat t.buyer∧a≠nat t.seller)↔(a≠x.buyer∧a≠x.seller):=by unfold nat;rw [e1,e2]
  have hN:=h.cashN
  have ob:=A.ok.buyer
  have ol:=A.ok.seller
  have hst:Vbchaa.step s (.agree t.key a)=agreed s { t with yesBuyer:=t.yesBuyer || decide (a=nat t.buyer),yesSeller:=t.yesSeller || decide (a=nat t.seller) } c0:=by
   unfold Vbchaa.step
   dsimp only
   rw [z0a A,if_neg (fun q=>h1 (ea.mp q)),if_neg (by rw [A.fr];simp [h2])]
  refine ⟨x,k,t.buyer,t.seller,e,A.at_,e1,e2,by omega,by omega,by rw [A.R.lots];exact A.ok.lots,fun hl=>?_,fun hl=>?_⟩
  ·rw [hl,if_neg (by decide)] at hr
   by_cases h4:bey k x.buyer (-x.lots)∨bey k x.seller x.lots
   ·rw [if_pos h4] at hr;cases hr
   simp only [not_or] at h4
   rw [A.R.lots] at h4
   refine ⟨?_,?_,?_⟩
   ·exact { both s c0 { t with yesBuyer:=t.yesBuyer || decide (a=nat t.buyer),yesSeller:=t.yesSeller || decide (a=nat t.seller) } (-1) with trades:=s.trades.filter fun y=>y.key != t.key }
   ·rw [hst]
    unfold agreed
    dsimp only
    rw [z42 A h1,hl,if_neg (by decide),A.fits e1,A.fits e2,if_neg (by simp [h4.1,h4.2])]
    rfl
   ·rw [z67 h A.C (t:={ t with yesBuyer:=t.yesBuyer || decide (a=nat t.buyer),yesSeller:=t.yesSeller || decide (a=nat t.seller) }) A.R.con.symm (-1) (-t.lots) (by dsimp only;omega)]
    dsimp only
    have hh:=h.pairM A.at_ (a:=t.buyer) (b:=t.seller) (by omega) (by omega) (-t.lots) (zr m k (-t.lots) t.price) (zr m k (-(-t.lots)) t.price)
    have hd:=hh.drop t.key
    rw [Int.neg_neg] at hd ⊢
    rw [A.R.lots,A.R.price]
    exact hd
  ·refine ⟨?_,?_,?_⟩
   ·exact setTrade s { t with yesBuyer:=t.yesBuyer || decide (a=nat t.buyer),yesSeller:=t.yesSeller || decide (a=nat t.seller) }
   ·rw [hst]
    unfold agreed
    dsimp only
    rw [z42 A h1,hl,if_pos rfl]
   ·have:=h.set (x:=if a=x.buyer then { x with yb:=true } else { x with ys:=true }) (t:={ t with yesBuyer:=t.yesBuyer || decide (a=nat t.buyer),yesSeller:=t.yesSeller || decide (a=nat t.seller) }) ?_ (z5x e)
    ·dsimp only at this
     exact this
    ·have ne:=A.ok.ne
     have R:=A.R
     by_cases q:a=x.buyer
     ·rw [if_pos q]
      refine ⟨R.con,R.buyer,R.seller,R.lots,R.price,?_,?_,R.none_,R.some_,R.ex⟩
      ·dsimp only;rw [decide_eq_true (show a=nat t.buyer by unfold nat;rw [q,e1]),Bool.or_true]
      ·dsimp only;rw [decide_eq_false (show ¬ a=nat t.seller by unfold nat;rw [q,e1];omega),Bool.or_false];exact R.ys
     ·have q2:a=x.seller:=by
       apply Classical.byContradiction
       intro z;exact h1 ⟨q,z⟩
      rw [if_neg q]
      refine ⟨R.con,R.buyer,R.seller,R.lots,R.price,?_,?_,R.none_,R.some_,R.ex⟩
      ·dsimp only;rw [decide_eq_false (show ¬ a=nat t.buyer by unfold nat;rw [← e1];exact q),Bool.or_false];exact R.yb
      ·dsimp only;rw [decide_eq_true (show a=nat t.seller by unfold nat;rw [q2,e2]),Bool.or_true]
theorem zbQ (h:Rel m s) (o:Ok s) {key sd taker:Int} (hr:jB m key sd taker=0):∃ x,gI m.trades key=some x∧∃ S,Vbchaa.step s (.give key sd taker)=(S,[0])∧Rel { m with trades:=zP m.trades key { x with side:=sd,taker:=taker } } S:=by
 unfold jB at hr
 by_cases h0:sd≠0∧sd≠1
 ·rw [if_pos h0] at hr;cases hr
 rw [if_neg h0] at hr
 cases e:gI m.trades key with
 | none=>rw [e] at hr;cases hr
 | some x=>
  rw [e] at hr
  obtain ⟨t,k,c0,r,A⟩:=h.tAt o.t e
  have ek:=A.key
  subst ek
  dsimp only at hr
  by_cases h1:¬ inN m.cash.length taker
  ·rw [if_pos h1] at hr;cases hr
  rw [if_neg h1] at hr
  by_cases h2:taker=x.buyer∨taker=x.seller
  ·rw [if_pos h2] at hr;cases hr
  have h1:=Classical.not_not.mp h1
  have e1:=A.R.buyer
  have e2:=A.R.seller
  refine ⟨x,rfl,setTrade s { t with given:=some (sd,taker.toNat) },?_,?_⟩
  ·unfold Vbchaa.step
   dsimp only
   rw [yr,if_neg (by rw [decide_eq_true (show 0≤sd∧sd≤1 by omega)];decide),z0a A,Zf h,if_neg (by rw [decide_eq_true h1];decide),if_neg (by unfold nat;rw [← e1,← e2];exact h2)]
  ·have R:=A.R
   have:=h.set (x:={ x with side:=sd,taker:=taker }) (t:={ t with given:=some (sd,taker.toNat) }) ⟨R.con,R.buyer,R.seller,R.lots,R.price,R.yb,R.ys,fun q=>(by cases q),fun a b q=>(by
    have q:=Option.some.inj q
    injection q with q1 q2
    subst q1 q2
    exact ⟨by dsimp only;have:=h1.1;omega,rfl⟩),R.ex⟩ (z5x e)
   dsimp only at this
   exact this
noncomputable def Y1 (x:TrdM):TrdM:={ x with buyer:=if x.side=0 then x.taker else x.buyer,seller:=if x.side=0 then x.seller else x.taker,taker:=0,yb:=false,ys:=false }
structure TaA (m:HouM) (s:State) (key:Int) (x:TrdM) (k:ConM) (g tk:Nat):Prop where
 tr:gI m.trades key=some x
 at_:m.cons[x.con]?=some k
 eg:YX x=(g:Int)
 et:x.taker=(tk:Int)
 hg:1≤g∧g≤m.cash.length
 ht:1≤tk∧tk≤m.cash.length
 lots:-1000≤zu x∧zu x≤1000
 st:∃ S,Vbchaa.step s (.take key)=(S,[0])∧Rel { pairM m x.con k g tk (-zu x) (zr m k (-zu x) x.price) (zu x) (zr m k (zu x) x.price) with trades:=zP m.trades key (Y1 x) } S
theorem zbR (h:Rel m s) (o:Ok s) {key:Int} (hr:jC m key=0):∃ x k g tk,TaA m s key x k g tk:=by
 unfold jC at hr
 cases e:gI m.trades key with
 | none=>rw [e] at hr;cases hr
 | some x=>
  rw [e] at hr
  obtain ⟨t,k,c0,r,A⟩:=h.tAt o.t e
  have ek:=A.key
  subst ek
  dsimp only at hr
  by_cases h1:x.taker=0
  ·rw [if_pos h1] at hr;cases hr
  rw [if_neg h1,A.at_] at hr
  dsimp only at hr
  by_cases h2:x.exb < k.exd
  ·rw [if_pos h2] at hr;cases hr
  rw [if_neg h2] at hr
  by_cases h4:bey k (YX x) (-zu x)∨bey k x.taker (zu x)
  ·rw [if_pos h4] at hr;cases hr
  cases g:t.given with
  | none=>exact absurd (A.R.none_ g) h1
  | some p=>
   obtain ⟨sd,tk⟩:=p
   obtain ⟨g1,g2⟩:=A.R.some_ sd tk g
   obtain ⟨o1,o2,o3,o4,o5⟩:=A.ok.given sd tk g
   have eg:YX x=((if sd=0 then t.buyer else t.seller:Nat):Int):=by
    unfold YX
    rw [g2,A.R.buyer,A.R.seller]
    split <;> rfl
   have el:zu x=if sd=0 then t.lots else -t.lots:=by unfold zu;rw [g2,A.R.lots]
   have hN:=h.cashN
   have ob:=A.ok.buyer
   have ol:=A.ok.seller
   have lo:=A.ok.lots
   simp only [not_or] at h4
   have hgr:1≤(if sd=0 then t.buyer else t.seller)∧(if sd=0 then t.buyer else t.seller)≤s.cash.length:=by split <;> assumption
   refine ⟨x,k,(if sd=0 then t.buyer else t.seller),tk,e,A.at_,eg,g1,by rw [hN];exact hgr,by omega,by rw [el];split <;> omega,?_⟩
   refine ⟨?_,?_,?_⟩
   ·exact setTrade (anew (side (side s c0 t.contract (if sd=0 then t.buyer else t.seller) (if sd=0 then t.lots else -t.lots) t.price (-1)) c0 t.contract tk (if sd=0 then t.lots else -t.lots) t.price 1) t.contract)
     { t with buyer:=if sd=0 then tk else t.buyer,seller:=if sd=0 then t.seller else tk,given:=none,yesBuyer:=false,yesSeller:=false }
   ·unfold Vbchaa.step
    dsimp only
    rw [z0a A]
    unfold taken
    rw [g]
    dsimp only
    rw [if_neg (show ¬ fresh s t=false by rw [A.fr];simp [h2]),A.fits eg,A.fits g1,← el,if_neg (by simp [h4.1,h4.2])]
   ·have tp:=zkG h A.C (if sd=0 then t.buyer else t.seller) tk (zu x) t.price
    rw [A.R.con] at tp
    rw [← el,tp]
    have hh:=h.pairM A.at_ (a:=if sd=0 then t.buyer else t.seller) (b:=tk) hgr ⟨o2,o3⟩ (-zu x) (zr m k (-zu x) t.price) (zr m k (zu x) t.price)
    rw [Int.neg_neg] at hh
    have L:=JY s (x.con + 1) (if sd=0 then t.buyer else t.seller) tk (-zu x) (zr m k (-zu x) t.price) (zr m k (zu x) t.price)
    have R:=A.R
    have hx:TrdR (pairM m x.con k (if sd=0 then t.buyer else t.seller) tk (-zu x) (zr m k (-zu x) t.price) (zu x) (zr m k (zu x) t.price)) (pair s (x.con + 1) (if sd=0 then t.buyer else t.seller) tk (-zu x) (zr m k (-zu x) t.price) (zr m k (zu x) t.price))
      (Y1 x) { t with buyer:=if sd=0 then tk else t.buyer,seller:=if sd=0 then t.seller else tk,given:=none,yesBuyer:=false,yesSeller:=false }:=by
     refine ⟨R.con,?_,?_,R.lots,R.price,rfl,rfl,fun _=>rfl,fun _ _ q=>(by cases q),fun k' hk'=>?_⟩
     ·unfold Y1;dsimp only;rw [g2,g1,R.buyer];split <;> rfl
     ·unfold Y1;dsimp only;rw [g2,g1,R.seller];split <;> rfl
     ·have hk':(pairM m x.con k (if sd=0 then t.buyer else t.seller) tk (-zu x) (zr m k (-zu x) t.price) (zu x) (zr m k (zu x) t.price)).cons[x.con]?=some k':=hk'
      have hk'':k'.exd=k.exd:=by
       have z:=z0R (m:=zY (zY m x.con k (if sd=0 then t.buyer else t.seller) (-zu x) (zr m k (-zu x) t.price)) x.con (zI k (if sd=0 then t.buyer else t.seller) (-zu x)) tk (zu x) (zr m k (zu x) t.price)) (yS (yS A.at_ _ _ _) _ _ _)
        { zI (zI k (if sd=0 then t.buyer else t.seller) (-zu x)) tk (zu x) with run:=Yo (zI (zI k (if sd=0 then t.buyer else t.seller) (-zu x)) tk (zu x)).held m.cash.length }
       have z3:=Option.some.inj (z.symm.trans hk')
       rw [← z3];rfl
      rw [hk'',L.ex]
      exact R.ex k A.at_
    have:=hh.set hx (z5x e)
    dsimp only at this
    rw [A.R.con] at this
    rw [R.price]
    exact this
end
end Hx
namespace Hx
open Vbchaa
section
variable {m:HouM} {s:State} {i:Nat} {k:ConM}
noncomputable def YA (m:HouM) (i a:Nat) (n x:Int):HouM:=match m.cons[i]? with
 | some k=>zY m i k a n x
 | none=>m
theorem z1y (hk:m.cons[i]?=some k) (a:Nat) (n x:Int):YA m i a n x=zY m i k a n x:=by unfold YA;rw [hk]
noncomputable def Zc (m:HouM) (i:Nat) (l:List (Nat × Int)) (pay:Int):HouM:=l.foldl (fun m p=>YA m i p.1 p.2 (-p.2 * pay)) m
theorem zgd (l:List (Nat × Int)) (p:Nat × Int) (pay:Int):Zc m i (l ++ [p]) pay=YA (Zc m i l pay) i p.1 p.2 (-p.2 * pay):=by unfold Zc;rw [List.foldl_append];rfl
theorem zgh (a:Nat) (n x:Int) (h:∃ k,m.cons[i]?=some k):∃ k,(YA m i a n x).cons[i]?=some k:=by
 obtain ⟨k,hk⟩:=h
 rw [z1y hk];exact ⟨_,yS hk _ _ _⟩
theorem zgg (a:Nat) (n x:Int):(YA m i a n x).cash.length=m.cash.length:=by
 unfold YA
 split
 ·exact yj _ _ _
 ·rfl
theorem z7s (pay:Int):∀ (l:List (Nat × Int)) (m:HouM),(Zc m i l pay).cash.length=m.cash.length
 | [],m=>rfl
 | p :: l,m=>(z7s pay l _).trans (zgg _ _ _)
theorem Rel.moves (pay:Int):∀ (l:List (Nat × Int)) {m:HouM} {s:State},Rel m s→(∃ k,m.cons[i]?=some k)→(∀ p∈l,1≤p.1∧p.1≤s.cash.length)→Rel (Zc m i l pay) (mvs s (i + 1) l pay)
 | [],m,s,h,_,_=>h
 | p :: l,m,s,h,hk,hl=>by
  have hk2:=zgh (i:=i) p.1 p.2 (-p.2 * pay) hk
  obtain ⟨k,hk⟩:=hk
  have h1:=h.move hk (hl p (by simp)) p.2 (-(p.2 * pay))
  rw [← Int.neg_mul] at h1
  have h2:=Rel.moves pay l (m:=YA m i p.1 p.2 (-p.2 * pay)) (s:=mv s p.1 (i + 1) p.2 (-p.2 * pay)) (by rw [z1y hk];exact h1) hk2 (by rw [j6];exact fun q hq=>hl q (by simp [hq]))
  rw [JX,← Int.neg_mul]
  exact h2
theorem z7x (c:Nat) (pay:Int) (R:List Run):∀ (l:List (Nat × Int)) (s:State),mvs { s with runs:=R } c l pay = { mvs s c l pay with runs:=R }
 | [],s=>rfl
 | p :: l,s=>by rw [JX,JX,← z7x c pay R l];rfl
noncomputable def zH (m:HouM) (k:ConM):Int:=k.mult * Zs k (atP m.prices k.under)
structure ExA (m:HouM) (s:State) (a c n:Int) (i b nn:Nat) (k:ConM) (r:Run):Prop where
 ec:c=((i + 1:Nat):Int)
 ea:a=(b:Int)
 en:n=(nn:Int)
 at_:m.cons[i]?=some k
 hb:1≤b∧b≤m.cash.length
 hn:1≤nn∧nn≤1000
 run:k.run=zn r
 ri:RunI r m.cash.length
 room:r.count + nn≤total r.base
 und:1≤k.under∧k.under≤(m.prices.length:Int)
 mu:1≤k.mult∧k.mult≤1000
 pay:0≤zH m k∧zH m k≤1000000000
 nw:∀ p∈newly r (assign nn r),(1≤p.1∧p.1≤m.cash.length)∧0 < p.2∧p.2≤100000
 nl:(newly r (assign nn r)).length≤12
 st:∃ S,Vbchaa.step s (.exercise a c n)=(S,(nn:Int) * zH m k :: (newly r (assign nn r)).flatMap fun p=>[(p.1:Int),p.2]) ∧
  Rel (Zc (exM (zY m i k b (-nn) (nn * zH m k)) i (zI k b (-nn)) (zn (assign nn r)) nn) i (newly r (assign nn r)) (zH m k)) S
theorem z0A:∀ {N:Nat} {l:List Nat},l.Pairwise (· < ·)→(∀ a∈l,1≤a∧a≤N)→l.length≤N
 | 0,l,_,h=>by
  cases l with
  | nil=>simp
  | cons a l=>have:=h a (by simp);omega
 | N + 1,l,hp,h=>by
  by_cases hl:N + 1∈l
  ·obtain ⟨u,v,rfl⟩:=List.append_of_mem hl
   rw [List.pairwise_append] at hp
   have hv:v=[]:=by
    cases v with
    | nil=>rfl
    | cons b v=>
     have:=(List.pairwise_cons.mp hp.2.1).1 b (by simp)
     have:=h b (by simp)
     omega
   subst hv
   have:=z0A (N:=N) (l:=u) hp.1 (fun a ha=>by have:=h a (by simp [ha]);have:=hp.2.2 a ha (N + 1) (by simp);omega)
   rw [List.length_append];simp;omega
  ·have:=z0A (N:=N) (l:=l) hp (fun a ha=>by have:=h a ha;have:a≠N + 1:=fun q=>hl (by rw [← q];exact ha);omega)
   omega
theorem zhW {p:Int} (o1:0≤k.strike∧k.strike≤1000000) (hp:0≤p∧p≤1000000):0≤Zs k p∧Zs k p≤1000000:=by
 unfold Zs
 split <;> rw [Int.max_def] <;> split <;> omega
theorem zgf {a b A B:Int} (h1:0≤a) (h2:a≤A) (h3:0≤b) (h4:b≤B):0≤a * b∧a * b≤A * B :=
 ⟨Int.mul_nonneg h1 h3,Int.mul_le_mul h2 h4 h3 (by omega)⟩
theorem zce (hc:Core s) (h:Rel m s) (u:Int):0≤atP m.prices u∧atP m.prices u≤1000000:=by
 unfold atP
 rw [h.prices,List.getD_eq_getElem?_getD]
 cases e:s.prices[u.toNat - 1]? with
 | none=>simp
 | some p=>exact hc.prices p (List.mem_of_getElem? e)
theorem zbP (h:Rel m s) (o:Ok s) {a c n:Int} (hr:jA m a c n=0):∃ i b nn k r,ExA m s a c n i b nn k r:=by
 unfold jA at hr
 by_cases h1:¬ (1≤n∧n≤1000)
 ·rw [if_pos h1] at hr;cases hr
 rw [if_neg h1] at hr
 by_cases h2:¬ (inN m.cash.length a∧inN m.cons.length c)
 ·rw [if_pos h2] at hr;cases hr
 rw [if_neg h2] at hr
 have h1:=Classical.not_not.mp h1
 have h2:=Classical.not_not.mp h2
 obtain ⟨k,c0,r,e1,e2,e3,R⟩:=h.at h2.2
 rw [e1] at hr
 dsimp only at hr
 have oc:=o.c.con c0 (z19 e2)
 by_cases h3:k.over=true
 ·rw [if_pos h3] at hr;cases hr
 rw [if_neg h3] at hr
 by_cases h4:k.kind=0
 ·rw [if_pos h4] at hr;cases hr
 rw [if_neg h4] at hr
 by_cases h5:lkI k.held a < n
 ·rw [if_pos h5] at hr;cases hr
 rw [if_neg h5] at hr
 by_cases h6:Zs k (atP m.prices k.under)=0
 ·rw [if_pos h6] at hr;cases hr
 obtain ⟨⟨a1,a2⟩,c1,c2⟩:=h2
 have hN:=h.cashN
 have hM:=h.ncon
 have ecn:c.toNat - 1 + 1=c.toNat:=by omega
 have h3':c0.over=false:=by rw [← R.over];simpa using h3
 have er:runOf s c.toNat=r:=by
  unfold runOf
  rw [List.getD_eq_getElem?_getD,e3];rfl
 have hl:lotsOf s a.toNat c.toNat=lkI k.held a:=z48 R a1 c1
 have E:=z6v o.c (c:=c.toNat) (a:=a.toNat) (n:=n.toNat) (by omega) (by omega) (by omega) (by omega) (by rw [hl];omega)
 have ri:RunI r m.cash.length:=by rw [← er,hN];exact E.r.i
 have rt:RunI (assign n.toNat r) m.cash.length:=by rw [← er,hN];exact E.t
 have room:=E.room
 have tb:=E.tb
 have mono:=E.mono
 rw [er] at room tb mono
 have ep:zH m k=c0.mult * payoff c0 (priceOf s c0.under):=by unfold zH;rw [z4F h R oc h4,R.mult]
 have eu:=R.under
 have ou:=oc.under
 have hpr:=h.priceN
 have om:=oc.mult
 have pl:=zhW (k:=k) (p:=atP m.prices k.under) (by rw [R.strike];exact oc.strike) (zce o.c h _)
 have nw:∀ p∈newly r (assign n.toNat r),(1≤p.1∧p.1≤m.cash.length)∧0 < p.2∧p.2≤100000:=fun p hp=>by
  obtain ⟨q1,q2,q3⟩:=z4x ri rt tb mono hp
  obtain ⟨q,hq,eq⟩:=List.mem_map.mp q1
  have z1:=ri.rng q hq
  have z2:=ri.pos q hq
  have z3:=ri.asg q hq
  have z4:=rt.asg q (by rw [tb];exact hq)
  rw [eq] at z1 z3 z4
  unfold MOST at z2
  exact ⟨z1,q2,by omega⟩
 refine ⟨c.toNat - 1,a.toNat,n.toNat,k,r,by omega,by omega,by omega,e1,by omega,by omega,R.run,ri,room,by rw [eu];omega,by rw [R.mult];exact om,?_,nw,?_,?_⟩
 ·have:=zgf (a:=k.mult) (A:=1000) (by rw [R.mult];omega) (by rw [R.mult];omega) pl.1 pl.2
  exact this
 ·have:=z0A (l:=(newly r (assign n.toNat r)).map (·.1)) (z0I rt) (N:=m.cash.length) (fun b hb=>by
   obtain ⟨q,hq,eq⟩:=List.mem_map.mp hb
   rw [← eq];exact (nw q hq).1)
  rw [List.length_map] at this
  have:=o.c.cashN
  omega
 ·refine ⟨(exercised s c0 c.toNat a.toNat n.toNat).1,?_,?_⟩
  ·unfold Vbchaa.step
   dsimp only
   rw [yr,Zf h,ZG h,if_neg (by rw [decide_eq_true h1];decide),if_neg (by rw [decide_eq_true (show inN m.cash.length a from ⟨a1,a2⟩),decide_eq_true (show inN m.cons.length c from ⟨c1,c2⟩)];decide),
    if_neg (by rw [z11 e2,h3'];decide),e2]
   dsimp only
   rw [if_neg (by rw [← R.kind];exact h4),hl,if_neg h5,if_neg (by rw [← z4F h R oc h4];exact h6),← ep]
   have en:((n.toNat:Nat):Int)=n:=by omega
   have e2':(exercised s c0 c.toNat a.toNat n.toNat).2=newly r (assign n.toNat r):=by unfold exercised;dsimp only;rw [er]
   rw [e2',en]
   rfl
  ·rw [ZS,er,← ep]
   have g1:=h.move e1 (a:=a.toNat) (by omega) (-(n.toNat:Int)) ((n.toNat:Int) * zH m k)
   have L:=Like.mv s a.toNat (c.toNat - 1 + 1) (-(n.toNat:Int)) ((n.toNat:Int) * zH m k)
   have g2:=g1.ex (L.trs o.t) (by rw [L.runN,L.contracts];exact o.c.runN) (yS e1 _ _ _) (t:={ assign n.toNat r with exercises:=r.exercises + 1 }) (n:=(n.toNat:Int)) (by omega) (by rw [L.ex,ecn,er])
   have g3:=g2.moves (i:=c.toNat - 1) (zH m k) (newly r (assign n.toNat r)) ⟨_,z0R (yS e1 _ _ _) _⟩ (fun p hp=>by
    show 1≤p.1∧p.1≤(mv s _ _ _ _).cash.length
    rw [j6,← hN];exact (nw p hp).1)
   rw [z7x,ecn] at g3
   exact g3
end
end Hx
namespace Hx
open Vbchaa
section
variable {m:HouM} {s:State} {i:Nat} {k:ConM}
theorem z8h (h:Rel m s) {a c:Int} (hr:¬ (inN m.cash.length a∧inN m.cons.length c)):Vbchaa.step s (.position a c)=(s,[-2]):=by
 unfold Vbchaa.step
 dsimp only
 rw [Zf h,ZG h,← Bool.decide_and,if_pos (decide_eq_false hr)]
theorem ziS (h:Rel m s) {a c:Int} (ha:inN m.cash.length a) (hc:inN m.cons.length c) (hk:m.cons[c.toNat - 1]?=some k):Vbchaa.step s (.position a c)=(s,[0,lkI k.held a]):=by
 obtain ⟨k',c0,r,e1,e2,e3,R⟩:=h.at hc
 rw [hk] at e1;cases e1
 unfold Vbchaa.step
 dsimp only
 rw [Zf h,ZG h,← Bool.decide_and,if_neg (by rw [decide_eq_true (show _∧_ from ⟨ha,hc⟩)];decide),z48 R ha.1 hc.1]
noncomputable def yR (m:HouM) (a:Int):Nat→List (Int × Int)
 | 0=>[]
 | n + 1=>yR m a n ++ (match m.cons[n]? with
  | some k=>if lkI k.held a=0 then [] else [((n:Int) + 1,lkI k.held a)]
  | none=>[])
theorem z4Q (h:Rel m s) {a:Nat} {β : Type} (f:Lots→List β) (g:Int × Int→List β) (hfg:∀ c z,f ⟨a,c,z⟩=g ((c:Int),z)):∀ n,n≤m.cons.length→(Z6 s a n).flatMap f=(yR m a n).flatMap g
 | 0,_=>rfl
 | n + 1,hn=>by
  have hk:m.cons[n]?=some m.cons[n]:=List.getElem?_eq_getElem (by omega)
  obtain ⟨c,r,e1,e2,R⟩:=h.con n _ hk
  show (Z6 s a n ++ _).flatMap f=(yR m a n ++ _).flatMap g
  rw [List.flatMap_append,List.flatMap_append,z4Q h f g hfg n (by omega),hk]
  congr 1
  dsimp only
  rw [R.lots]
  by_cases q:lotsOf s a (n + 1)=0
  ·rw [if_pos q,if_pos q];rfl
  ·rw [if_neg q,if_neg q]
   show f _ ++ []=g _ ++ []
   rw [hfg];rfl
theorem ziU (h:Rel m s) {a:Int} (hr:¬ inN m.cash.length a):Vbchaa.step s (.positions a)=(s,[-2]):=by
 unfold Vbchaa.step
 dsimp only
 rw [Zf h,if_pos (decide_eq_false hr)]
theorem ziT (h:Rel m s) (o:Core s) {a:Int} (ha:inN m.cash.length a):Vbchaa.step s (.positions a)=(s,0 :: (yR m a m.cons.length).flatMap fun p=>[p.1,p.2]):=by
 unfold Vbchaa.step
 dsimp only
 have hN:=h.cashN
 have h1:=ha.1
 have h2:=ha.2
 rw [Zf h,if_neg (by rw [decide_eq_true ha];decide),z7o o (by omega),← h.ncon,z4Q h (g:=fun p=>[p.1,p.2]) _ (fun c z=>rfl) _ (Nat.le_refl _),show ((a.toNat:Nat):Int)=a by omega]
theorem ziP (h:Rel m s) {a:Int} (hr:¬ inN m.cash.length a):Vbchaa.step s (.cash a)=(s,[-2]):=by
 unfold Vbchaa.step
 dsimp only
 rw [Zf h,if_pos (decide_eq_false hr)]
theorem ziO (h:Rel m s) {a:Int} (ha:inN m.cash.length a) {v:Int} (hv:m.cash[a.toNat - 1]?=some v):Vbchaa.step s (.cash a)=(s,[0,v]):=by
 unfold Vbchaa.step
 dsimp only
 rw [Zf h,if_neg (by rw [decide_eq_true ha];decide),← h.cash,List.getD_eq_getElem?_getD,hv];rfl
theorem ziW (h:Rel m s) {c:Int} (hr:¬ inN m.cons.length c):Vbchaa.step s (.run c)=(s,[-2]):=by
 unfold Vbchaa.step
 dsimp only
 rw [ZG h,if_pos (decide_eq_false hr)]
theorem z4S (h:Rel m s) (o:Core s) {c:Int} (hc:inN m.cons.length c):∃ k r,m.cons[c.toNat - 1]?=some k∧runOf s c.toNat=r∧k.run=zn r∧RunI r m.cash.length:=by
 obtain ⟨k,c0,r,e1,e2,e3,R⟩:=h.at hc
 have er:runOf s c.toNat=r:=by
  unfold runOf
  rw [List.getD_eq_getElem?_getD,e3];rfl
 have h1:=hc.1
 have h2:=hc.2
 have h3:=h.ncon
 have:=o.runOk (c:=c.toNat) (by omega) (by omega)
 rw [er] at this
 exact ⟨k,r,e1,er,R.run,by rw [h.cashN];exact this.i⟩
theorem ziV (h:Rel m s) {c:Int} (hc:inN m.cons.length c) {r:Run} (er:runOf s c.toNat=r):Vbchaa.step s (.run c)=(s,r.count :: r.base.flatMap fun p=>[(p.1:Int),p.2,look r.assigned p.1]):=by
 unfold Vbchaa.step
 dsimp only
 rw [ZG h,if_neg (by rw [decide_eq_true hc];decide),er];rfl
noncomputable def jF (m:HouM) (c n:Int):Int:=if ¬ (1≤n∧n≤1000) then -1 else if ¬ inN m.cons.length c then -2 else match m.cons[c.toNat - 1]? with
 | none=>-2
 | some k=>if k.run.total < k.run.count + n then -9 else 0
theorem zjC (h:Rel m s) (o:Core s) {c n:Int} (hr:jF m c n≠0):Vbchaa.step s (.wouldAssign c n)=(s,[jF m c n]):=by
 unfold Vbchaa.step
 dsimp only
 rw [yr,ZG h]
 unfold jF at *
 by_cases h1:¬ (1≤n∧n≤1000)
 ·rw [if_pos h1,if_pos (decide_eq_false h1)]
 rw [if_neg h1] at hr ⊢
 rw [if_neg (by rw [decide_eq_true (Classical.not_not.mp h1)];decide)]
 by_cases h2:¬ inN m.cons.length c
 ·rw [if_pos h2,if_pos (decide_eq_false h2)]
 rw [if_neg h2] at hr ⊢
 rw [if_neg (by rw [decide_eq_true (Classical.not_not.mp h2)];decide)]
 obtain ⟨k,r,e1,e2,e3,ri⟩:=z4S h o (Classical.not_not.mp h2)
 rw [e1] at hr ⊢
 dsimp only at hr ⊢
 rw [e2]
 rw [e3] at hr ⊢
 by_cases h3:(zn r).total < (zn r).count + n
 ·rw [if_pos h3]
  have h3':total r.base < r.count + n:=h3
  rw [if_pos h3']
 ·rw [if_neg h3] at hr;exact absurd rfl hr
structure WaA (m:HouM) (s:State) (c n:Int) (i nn:Nat) (k:ConM) (r:Run):Prop where
 ec:c=((i + 1:Nat):Int)
 en:n=(nn:Int)
 at_:m.cons[i]?=some k
 hn:1≤nn∧nn≤1000
 run:k.run=zn r
 ri:RunI r m.cash.length
 room:r.count + nn≤total r.base
 nl:(newly r (assign nn r)).length≤12
 st:Vbchaa.step s (.wouldAssign c n)=(s,0 :: (newly r (assign nn r)).flatMap fun p=>[(p.1:Int),p.2])
theorem zgp {r:Run} {N n:Nat} (ri:RunI r N) (room:r.count + n≤total r.base):(newly r (assign n r)).length≤N:=by
 obtain ⟨i1,i2,i3,i4,i5⟩:=RunI.assign n ri room
 have:=z0A (l:=(newly r (assign n r)).map (·.1)) (z0I i1) (N:=N) (fun b hb=>by
  obtain ⟨q,hq,eq⟩:=List.mem_map.mp hb
  obtain ⟨q1,_,_⟩:=z4x ri i1 i2 i5 hq
  obtain ⟨z,hz,ez⟩:=List.mem_map.mp q1
  rw [← eq,← ez];exact ri.rng z hz)
 rw [List.length_map] at this
 exact this
theorem zbV (h:Rel m s) (o:Core s) {c n:Int} (hr:jF m c n=0):∃ i nn k r,WaA m s c n i nn k r:=by
 unfold jF at hr
 by_cases h1:¬ (1≤n∧n≤1000)
 ·rw [if_pos h1] at hr;cases hr
 rw [if_neg h1] at hr
 by_cases h2:¬ inN m.cons.length c
 ·rw [if_pos h2] at hr;cases hr
 rw [if_neg h2] at hr
 have h1:=Classical.not_not.mp h1
 have h2:=Classical.not_not.mp h2
 obtain ⟨k,r,e1,e2,e3,ri⟩:=z4S h o h2
 rw [e1] at hr
 dsimp only at hr
 rw [e3] at hr
 by_cases h3:(zn r).total < (zn r).count + n
 ·rw [if_pos h3] at hr;cases hr
 have h3':¬ total r.base < r.count + n:=h3
 have hc:=h2.1
 have hN:=o.cashN
 have:=h.cashN
 have room:r.count + n.toNat≤total r.base:=by omega
 have nl:=zgp ri room
 refine ⟨c.toNat - 1,n.toNat,k,r,by omega,by omega,e1,by omega,e3,ri,room,by omega,?_⟩
 unfold Vbchaa.step
 dsimp only
 rw [yr,ZG h,if_neg (by rw [decide_eq_true h1];decide),if_neg (by rw [decide_eq_true h2];decide),e2,if_neg h3'];rfl
noncomputable def ZX (l:List (Int × Int)):Int:=l.foldl (fun acc p=>if p.2 < 0 then acc - p.2 else acc) 0
theorem z4D:∀ (l:List (Int × Int)) (acc:Int),l.foldl (fun acc p=>if p.2 < 0 then acc - p.2 else acc) acc=acc + ZX l
 | [],acc=>by show acc=acc + 0;omega
 | p :: l,acc=>by
  unfold ZX
  rw [List.foldl_cons,List.foldl_cons,z4D l,z4D l (if p.2 < 0 then 0 - p.2 else 0)]
  split <;> omega
theorem zhQ (p:Int × Int) (l:List (Int × Int)):ZX (p :: l)=yo p.2 + ZX l:=by
 show (p :: l).foldl _ 0=_
 rw [List.foldl_cons,z4D]
 unfold yo
 split <;> omega
theorem z7V:∀ (l:List (Int × Int)) (N:Nat),(l.map (·.1)).Nodup→(∀ p∈l,1≤p.1∧p.1≤(N:Int))→ZX l=zw (fun a=>yo (lkI l a)) N
 | [],N,_,_=>(z5r fun a _ _=>rfl).symm
 | p :: l,N,hn,hr=>by
  rw [List.map_cons,List.nodup_cons] at hn
  have hp:=hr p (by simp)
  have e0:∀ a:Nat,lkI (p :: l) a=if p.1=(a:Int) then p.2 else lkI l a:=fun a=>by
   unfold lkI;rw [yJ];split <;> rfl
  rw [zhQ,z7V l N hn.2 fun q hq=>hr q (by simp [hq])]
  have z:lkI l p.1=0:=by unfold lkI;rw [Zp.mpr hn.1];rfl
  rw [z0b (f:=fun a=>yo (lkI l a)) (g:=fun a=>yo (lkI (p :: l) a)) (a:=p.1.toNat) (d:=yo p.2) (n:=N) (by omega) (by omega) (fun b hb=>by
   try dsimp only
   rw [e0,if_neg (by omega)]) (by
   try dsimp only
   rw [e0,if_pos (by omega),show ((p.1.toNat:Nat):Int)=p.1 by omega,z]
   show yo p.2=0 + yo p.2
   omega)]
  omega
theorem ziR (h:Rel m s) {c:Int} (hr:¬ inN m.cons.length c):Vbchaa.step s (.open_ c)=(s,[-2]):=by
 unfold Vbchaa.step
 dsimp only
 rw [ZG h,if_pos (decide_eq_false hr)]
theorem ziQ (h:Rel m s) {c:Int} (hc:inN m.cons.length c) (hk:m.cons[c.toNat - 1]?=some k):Vbchaa.step s (.open_ c)=(s,[ZX k.held]):=by
 obtain ⟨c0,r,e1,e2,R⟩:=h.con _ _ hk
 have h1:=hc.1
 unfold Vbchaa.step
 dsimp only
 rw [ZG h,if_neg (by rw [decide_eq_true hc];decide),z5a,zbk,z7V k.held s.cash.length R.nd R.keys]
 have:(fun a:Nat=>yo (lkI k.held a))=fun a=>yo (lotsOf s a c.toNat):=by
  funext a
  rw [R.lots,show c.toNat - 1 + 1=c.toNat by omega]
 rw [this]
noncomputable def b2i (b:Bool):Int:=if b=true then 1 else 0
noncomputable def ju (x:TrdM):List Int:=if x.taker=0 then [0,0] else if x.side=0 then [1,x.taker] else [2,x.taker]
noncomputable def YE (key:Int) (x:TrdM):List Int:=[key,(x.con:Int) + 1,x.buyer,x.seller,x.lots,x.price,b2i x.yb,b2i x.ys] ++ ju x
noncomputable def YF (m:HouM) (ns:List Int):List Int:=ns.flatMap fun key=>match gI m.trades key with
 | some x=>YE key x
 | none=>[]
theorem zks {l l':List Int} (h1:l.Pairwise (·≤·)) (hn:l.Nodup) (h2:l'.Pairwise (· < ·)) (hp:l.Perm l'):l=l':=by
 have h1':l.Pairwise (· < ·):=by
  have:=List.Pairwise.and h1 hn
  exact this.imp fun {a b} h=>by have:=h.1;have:=h.2;omega
 exact z0S (lt:=fun a b:Int=>a < b) (fun a=>Int.lt_irrefl a) (fun a b q r=>by omega) h1' h2 fun x=>hp.mem_iff
theorem zbp (h:Rel m s) (T:Trs s):∀ l:List Trade,(∀ t∈l,t∈s.trades)→(l.flatMap fun t=>[t.key,nat t.contract,nat t.buyer,nat t.seller,t.lots,t.price,truth t.yesBuyer,truth t.yesSeller] ++ match t.given with
  | some p=>[p.1 + 1,nat p.2]
  | none=>[0,0])=YF m (l.map (·.key))
 | [],_=>rfl
 | t :: l,hl=>by
  unfold YF
  rw [List.map_cons,List.flatMap_cons,List.flatMap_cons,zbp h T l fun u hu=>hl u (by simp [hu])]
  have ht:=hl t (by simp)
  have hm:t.key∈m.trades.map (·.1):=h.tperm.mem_iff.mpr (List.mem_map_of_mem ht)
  cases e:gI m.trades t.key with
  | none=>exact absurd hm (Zp.mp e)
  | some x=>
   obtain ⟨u,q1,R⟩:=h.trd _ x e
   have eu:u=t:=by
    obtain ⟨q2,q3⟩:=je q1
    have:∀ {l:List Trade},l.Pairwise (fun x y=>x.key < y.key)→u∈l→t∈l→u=t:=by
     intro l
     induction l with
     | nil=>intro _ q;simp at q
     | cons z l ih=>
      intro hp q q'
      have hp':=List.pairwise_cons.mp hp
      rcases List.mem_cons.mp q with e1 | w1 <;> rcases List.mem_cons.mp q' with e2 | w2
      ·rw [e1,e2]
      ·have:=hp'.1 _ w2;rw [← e1] at this;omega
      ·have:=hp'.1 _ w1;rw [← e2] at this;omega
      ·exact ih hp'.2 w1 w2
    exact this T.sorted q2 ht
   subst eu
   have ok:=T.ok u ht
   congr 1
   show _=YE u.key x
   unfold YE
   rw [← R.lots,← R.price]
   have ec:nat u.contract=(x.con:Int) + 1:=by unfold nat;rw [← R.con];omega
   have e1:nat u.buyer=x.buyer:=R.buyer.symm
   have e2:nat u.seller=x.seller:=R.seller.symm
   have e3:truth u.yesBuyer=b2i x.yb:=by rw [R.yb];rfl
   have e4:truth u.yesSeller=b2i x.ys:=by rw [R.ys];rfl
   rw [ec,e1,e2,e3,e4]
   congr 1
   unfold ju
   cases g:u.given with
   | none=>rw [if_pos (R.none_ g)]
   | some p=>
    obtain ⟨sd,tk⟩:=p
    obtain ⟨g1,g2⟩:=R.some_ sd tk g
    obtain ⟨o1,o2,_⟩:=ok.given sd tk g
    rw [if_neg (by rw [g1];omega),g1,g2]
    rcases o1 with rfl | rfl
    ·rw [if_pos rfl];rfl
    ·rw [if_neg (by decide)];rfl
theorem ziY (h:Rel m s) (T:Trs s) {ns:List Int} (hp:ns.Perm (m.trades.map (·.1))) (hs:ns.Pairwise (·≤·)):Vbchaa.step s .trades=(s,0 :: YF m ns):=by
 have hl:(s.trades.map (·.key)).Pairwise (· < ·):=by rw [List.pairwise_map];exact T.sorted
 have hn:(s.trades.map (·.key)).Nodup:=hl.imp fun h=>Int.ne_of_lt h
 have e:ns=s.trades.map (·.key):=zks hs ((hp.trans h.tperm).nodup_iff.mpr hn) hl (hp.trans h.tperm)
 rw [e]
 unfold Vbchaa.step
 dsimp only
 exact congrArg (fun z=>(s,(0:Int) :: z)) (zbp h T s.trades fun _ q=>q)
noncomputable def ZB (k:ConM):List Int:=[k.kind,k.under,k.strike,k.mult,k.expiry,b2i k.over]
noncomputable def Zt (m:HouM):Nat→List Int
 | 0=>[]
 | n + 1=>Zt m n ++ (yR m ((n:Int) + 1) m.cons.length).flatMap fun p=>[(n:Int) + 1,p.1,p.2]
noncomputable def z2d (m:HouM):List Int:=m.turn :: (m.prices.length:Int) :: m.prices ++ ((m.cons.length:Int) :: m.cons.flatMap ZB ++ ((m.cash.length:Int) :: m.cash ++ Zt m m.cash.length))
theorem z6i (h:Rel m s):∀ n,n≤m.cons.length→(s.contracts.take n).flatMap (fun k=>[k.kind,nat k.under,k.strike,k.mult,k.expiry,truth k.over])=(m.cons.take n).flatMap ZB
 | 0,_=>rfl
 | n + 1,hn=>by
  have hk:m.cons[n]?=some m.cons[n]:=List.getElem?_eq_getElem (by omega)
  obtain ⟨c,r,e1,e2,R⟩:=h.con n _ hk
  rw [List.take_succ,List.take_succ,hk,e1,List.flatMap_append,List.flatMap_append,z6i h n (by omega)]
  congr 1
  show _ ++ []=ZB _ ++ []
  unfold ZB
  rw [R.kind,R.under,R.strike,R.mult,R.expiry,R.over];rfl
theorem z8C (h:Rel m s):∀ n,(Zk s m.cons.length n).flatMap (fun x=>[nat x.account,nat x.contract,x.lots])=Zt m n
 | 0=>rfl
 | n + 1=>by
  show (Zk s m.cons.length n ++ _).flatMap _=Zt m n ++ _
  rw [List.flatMap_append,z8C h n,z4Q h (g:=fun p=>[(n:Int) + 1,p.1,p.2]) _ (fun c z=>rfl) _ (Nat.le_refl _)]
  rfl
theorem ziX (h:Rel m s) (o:Core s):Vbchaa.step s .told=(s,z2d m):=by
 unfold Vbchaa.step z2d
 dsimp only
 have e:=z6i h m.cons.length (Nat.le_refl _)
 rw [List.take_length,h.ncon,List.take_length] at e
 rw [e,z49 o,← h.ncon,← h.cash,← h.prices,← h.turn,z8C h]
 rfl
end
end Hx
namespace Hx
open Vbchaa
section
variable {m:HouM} {s:State} {i:Nat} {k:ConM}
theorem zbT (h:Rel m s) (o:Core s) {new:List Int} (hr:jE m new=0):(∀ p∈new,rgP p)∧new.length=m.prices.length∧Vbchaa.step s (.turn new)=(turnOver s new,(m.turn + 1) :: yx m new):=by
 unfold jE at hr
 by_cases h1:¬ ∀ p∈new,rgP p
 ·rw [if_pos h1] at hr;cases hr
 rw [if_neg h1] at hr
 by_cases h2:new.length≠m.prices.length
 ·rw [if_pos h2] at hr;cases hr
 have h1:=Classical.not_not.mp h1
 have h2:=Classical.not_not.mp h2
 refine ⟨h1,h2,?_⟩
 unfold Vbchaa.step
 dsimp only
 have ea:(new.all fun p=>within p 0 PRICE)=true:=by
  rw [List.all_eq_true]
  exact fun p hp=>yU.mpr (h1 p hp)
 rw [if_neg (by rw [ea];decide),if_neg (by rw [← h.priceN];exact fun q=>q h2),zdZ h o new,h.turn]
 rfl
theorem z7O {held:List (Int × Int)} {N:Nat} {ns:List Int} (hn:(held.map (·.1)).Nodup) (hk:∀ p∈held,1≤p.1∧p.1≤(N:Int)) (hp:ns.Perm (held.map (·.1))) (hs:ns.Pairwise (·≤·)) :
  (ns.filter fun a=>decide (lkI held a < 0)).map (fun a=>(a,-lkI held a))=cI (yq (fun a=>lkI held a) N):=by
 have hnn:ns.Nodup:=hp.nodup_iff.mpr hn
 have hlt:ns.Pairwise (· < ·):=(List.Pairwise.and hs hnn).imp fun {a b} h=>by have:=h.1;have:=h.2;omega
 refine z0S (lt:=fun a b:Int × Int=>a.1 < b.1) (fun a=>Int.lt_irrefl a.1) (fun a b q r=>by omega) ?_ ?_ fun x=>?_
 ·rw [List.pairwise_map];exact hlt.filter _
 ·unfold cI
  rw [List.pairwise_map]
  have:=z1P (fun a=>lkI held a) N
  rw [List.pairwise_map] at this
  exact this.imp fun h=>by dsimp only;omega
 ·rw [List.mem_map]
  unfold cI
  rw [List.mem_map]
  constructor
  ·rintro ⟨a,ha,rfl⟩
   rw [List.mem_filter] at ha
   have h1:=of_decide_eq_true ha.2
   obtain ⟨p,q1,q2⟩:=List.mem_map.mp (hp.mem_iff.mp ha.1)
   have q3:=hk p q1
   rw [q2] at q3
   refine ⟨(a.toNat,-lkI held a),(Yy _).mpr ⟨by dsimp only;omega,by dsimp only;omega,?_,?_⟩,?_⟩
   ·dsimp only;rw [show ((a.toNat:Nat):Int)=a by omega];exact h1
   ·dsimp only;rw [show ((a.toNat:Nat):Int)=a by omega]
   ·dsimp only;rw [show ((a.toNat:Nat):Int)=a by omega]
  ·rintro ⟨p,hp',rfl⟩
   obtain ⟨q1,q2,q3,q4⟩:=(Yy _).mp hp'
   refine ⟨(p.1:Int),?_,by rw [q4]⟩
   rw [List.mem_filter]
   refine ⟨hp.mem_iff.mpr ?_,decide_eq_true q3⟩
   apply Classical.byContradiction
   intro z
   unfold lkI at q3
   rw [Zp.mpr z] at q3
   exact absurd q3 (by decide)
theorem z4z:∀ {l l':List Int},l.Nodup→(∀ x∈l,x∈l')→l.length≤l'.length
 | [],l',_,_=>by simp
 | a :: l,l',hn,hs=>by
  rw [List.nodup_cons] at hn
  have h1:=hs a (by simp)
  have:=z4z (l:=l) (l':=l'.erase a) hn.2 (fun x hx=>(List.mem_erase_of_ne (fun q=>hn.1 (by rw [← q];exact hx))).mpr (hs x (by simp [hx])))
  rw [List.length_erase_of_mem h1] at this
  have:0 < l'.length:=List.length_pos_of_mem h1
  rw [List.length_cons];omega
theorem zbn (T:Trs s):s.trades.length≤60:=by
 have hl:(s.trades.map (·.key)).Pairwise (· < ·):=by rw [List.pairwise_map];exact T.sorted
 have hn:(s.trades.map (·.key)).Nodup:=hl.imp fun h=>Int.ne_of_lt h
 have:=z4z (l:=s.trades.map (·.key)) (l':=s.spent) hn (fun x hx=>by
  obtain ⟨t,ht,e⟩:=List.mem_map.mp hx
  rw [← e];exact T.sp t ht)
 rw [List.length_map] at this
 have:=T.spN
 omega
theorem Rel.tradesN (h:Rel m s) (T:Trs s):m.trades.length≤60:=by
 have:=h.tperm.length_eq
 rw [List.length_map,List.length_map] at this
 rw [this];exact zbn T
theorem Rel.tradesD (h:Rel m s) (T:Trs s):(m.trades.map (·.1)).Nodup:=by
 have hl:(s.trades.map (·.key)).Pairwise (· < ·):=by rw [List.pairwise_map];exact T.sorted
 exact h.tperm.nodup_iff.mpr (hl.imp fun h=>Int.ne_of_lt h)
theorem heldN {l:List (Int × Int)} {N:Nat} (hn:(l.map (·.1)).Nodup) (hk:∀ p∈l,1≤p.1∧p.1≤(N:Int)):l.length≤N:=by
 have:=z4z (l:=l.map (·.1)) (l':=(List.range N).map fun i:Nat=>(i:Int) + 1) hn (fun x hx=>by
  obtain ⟨p,hp,e⟩:=List.mem_map.mp hx
  have:=hk p hp
  rw [e] at this
  exact List.mem_map.mpr ⟨(x - 1).toNat,List.mem_range.mpr (by omega),by omega⟩)
 rw [List.length_map,List.length_map,List.length_range] at this
 exact this
theorem Rel.heldN (h:Rel m s) (hk:m.cons[i]?=some k):k.held.length≤m.cash.length:=by
 obtain ⟨c,r,e1,e2,R⟩:=h.con i k hk
 rw [h.cashN];exact Hx.heldN R.nd R.keys
theorem Z3 {α : Type} {f : α→List Int} {n:Nat}:∀ (l:List α),(∀ x∈l,(f x).length≤n)→(l.flatMap f).length≤l.length * n
 | [],_=>by simp
 | x :: l,h=>by
  rw [List.flatMap_cons,List.length_append,List.length_cons,Nat.add_mul]
  have:=h x (by simp)
  have:=Z3 l fun y hy=>h y (by simp [hy])
  omega
theorem z8z (s:State) (a:Nat):∀ n,(Z6 s a n).length≤n
 | 0=>by simp [Z6]
 | n + 1=>by
  show (Z6 s a n ++ _).length≤_
  rw [List.length_append]
  have:=z8z s a n
  split <;> simp <;> omega
theorem z8B (s:State) (n:Nat):∀ j,(Zk s n j).length≤j * n
 | 0=>by simp [Zk]
 | j + 1=>by
  show (Zk s n j ++ _).length≤_
  rw [List.length_append,Nat.add_mul]
  have:=z8B s n j
  have:=z8z s (j + 1) n
  omega
theorem z7n (o:Core s):s.lots.length≤144:=by
 rw [z49 o]
 have h1:=z8B s s.contracts.length s.cash.length
 have h2:=o.cashN
 have h3:=o.conN
 have h4:s.cash.length * s.contracts.length≤12 * 12:=Nat.mul_le_mul h2 h3
 omega
theorem z1Q {r:Run} {N:Nat} (ri:RunI r N):r.base.length≤N:=by
 have:=z0A (l:=r.base.map (·.1)) ri.rise (N:=N) (fun b hb=>by
  obtain ⟨q,hq,eq⟩:=List.mem_map.mp hb
  rw [← eq];exact ri.rng q hq)
 rw [List.length_map] at this
 exact this
theorem z3j {r:Run} {N:Nat} (ri:RunI r N):r.assigned.length≤N:=by
 have h1:=congrArg List.length ri.keys
 rw [List.length_map,List.length_map] at h1
 rw [h1];exact z1Q ri
theorem z7P (r t:Run):(newly r t).length≤t.assigned.length:=by
 unfold newly
 refine Nat.le_trans (List.length_filter_le _ _) ?_
 rw [List.length_map];exact Nat.le_refl _
theorem z3k:∀ (n:Nat) (r:Run),(assign n r).assigned.length=r.assigned.length
 | 0,r=>rfl
 | n + 1,r=>by
  show (assign n (assignOne r)).assigned.length=_
  rw [z3k n]
  unfold assignOne
  split
  ·rfl
  ·show (r.assigned.map _).length=_;rw [List.length_map]
theorem z4T (o:Core s) (c:Nat):(runOf s c).base.length≤12∧(runOf s c).assigned.length≤12:=by
 unfold runOf
 rw [List.getD_eq_getElem?_getD]
 cases e:s.runs[c - 1]? with
 | none=>simp
 | some r=>
  have:=o.run _ r e
  have h1:=z1Q this.i
  have h2:=z3j this.i
  have:=o.cashN
  exact ⟨Nat.le_trans h1 this,Nat.le_trans h2 this⟩
theorem zK {c:Prop} [Decidable c] {a b:State × Ans} {n:Nat} (ha:a.2.length≤n) (hb:¬ c→b.2.length≤n):(if c then a else b).2.length≤n:=by
 by_cases h:c
 ·rw [if_pos h];exact ha
 ·rw [if_neg h];exact hb h
theorem z4A {key:Int} {f:Trade→Contract→State × Ans} {n:Nat} (hn:1≤n) (hf:∀ t k,(f t k).2.length≤n):(onTrade s key f).2.length≤n:=by
 unfold onTrade
 split
 ·exact hn
 ·split
  ·exact hn
  ·exact hf _ _
theorem zc3 (o:Ok s) (c:Call):(Vbchaa.step s c).2.length≤1000:=by
 have N1:=o.c.cashN
 have N2:=o.c.conN
 have N3:=o.c.priceN
 have one:∀ z:Int,([z]:List Int).length≤1000:=fun z=>by simp
 cases c with
 | account=>exact zK (one _) fun _=>one _
 | under p=>exact zK (one _) fun _=>zK (one _) fun _=>one _
 | contract kind u strike mult expiry=>exact zK (one _) fun _=>zK (one _) fun _=>zK (one _) fun _=>zK (one _) fun _=>one _
 | trade key c buyer seller lots price=>
  refine zK (one _) fun _=>zK (one _) fun _=>zK (one _) fun _=>zK (one _) fun _=>zK (one _) fun _=>zK (one _) fun _=>zK (one _) fun _=>?_
  cases contractOf s c.toNat with
  | none=>exact one _
  | some k=>exact one _
 | agree key a=>
  refine z4A (by omega) fun t k=>zK (one _) fun _=>zK (one _) fun _=>?_
  unfold agreed
  exact zK (one _) fun _=>zK (one _) fun _=>one _
 | give key sd taker=>exact zK (one _) fun _=>z4A (by omega) fun t k=>zK (one _) fun _=>zK (one _) fun _=>one _
 | take key=>
  refine z4A (by omega) fun t k=>?_
  unfold taken
  cases t.given with
  | none=>exact one _
  | some p=>exact zK (one _) fun _=>zK (one _) fun _=>one _
 | exercise a c n=>
  refine zK (one _) fun _=>zK (one _) fun _=>zK (one _) fun _=>?_
  cases contractOf s c.toNat with
  | none=>exact one _
  | some k=>
   refine zK (one _) fun _=>zK (one _) fun _=>zK (one _) fun _=>?_
   show (_ :: ((newly (runOf s c.toNat) (assign n.toNat (runOf s c.toNat))).flatMap fun p=>[nat p.1,p.2])).length≤1000
   have h1:=Z3 (f:=fun p:Nat × Int=>[nat p.1,p.2]) (n:=2) (newly (runOf s c.toNat) (assign n.toNat (runOf s c.toNat))) (fun _ _=>by simp)
   have h2:=z7P (runOf s c.toNat) (assign n.toNat (runOf s c.toNat))
   rw [z3k] at h2
   have h3:=(z4T o.c c.toNat).2
   rw [List.length_cons];omega
 | turn new=>
  refine zK (one _) fun _=>zK (one _) fun _=>?_
  show (_ :: (((turnOver s new).cash.zip s.cash).map _)).length≤1000
  rw [List.length_cons,List.length_map,List.length_zip]
  have:=Nat.min_le_right (turnOver s new).cash.length s.cash.length
  omega
 | position a c=>exact zK (one _) fun _=>by simp
 | positions a=>
  refine zK (one _) fun _=>?_
  have h1:=Z3 (f:=fun x:Lots=>[nat x.contract,x.lots]) (n:=2) (s.lots.filter fun x=>x.account == a.toNat) (fun _ _=>by simp)
  have h2:=List.length_filter_le (fun x:Lots=>x.account == a.toNat) s.lots
  have h3:=z7n o.c
  show (_ :: _).length≤1000
  rw [List.length_cons];omega
 | cash a=>exact zK (one _) fun _=>by simp
 | run c=>
  refine zK (one _) fun _=>?_
  have h1:=Z3 (f:=fun p:Nat × Int=>[nat p.1,p.2,assignedTo (runOf s c.toNat) p.1]) (n:=3) (runOf s c.toNat).base (fun _ _=>by simp)
  have h3:=(z4T o.c c.toNat).1
  show (_ :: _).length≤1000
  rw [List.length_cons];omega
 | wouldAssign c n=>
  refine zK (one _) fun _=>zK (one _) fun _=>zK (one _) fun _=>?_
  have h1:=Z3 (f:=fun p:Nat × Int=>[nat p.1,p.2]) (n:=2) (newly (runOf s c.toNat) (assign n.toNat (runOf s c.toNat))) (fun _ _=>by simp)
  have h2:=z7P (runOf s c.toNat) (assign n.toNat (runOf s c.toNat))
  rw [z3k] at h2
  have h3:=(z4T o.c c.toNat).2
  show (_ :: _).length≤1000
  rw [List.length_cons];omega
 | open_ c=>exact zK (one _) fun _=>one _
 | trades=>
  have h1:=zbn o.t
  have h2:=Z3 (f:=fun t:Trade=>[t.key,nat t.contract,nat t.buyer,nat t.seller,t.lots,t.price,truth t.yesBuyer,truth t.yesSeller] ++ match t.given with
   | some p=>[p.1 + 1,nat p.2]
   | none=>[0,0]) (n:=10) s.trades (fun t _=>by cases t.given <;> simp)
  show (_ :: s.trades.flatMap fun t:Trade=>[t.key,nat t.contract,nat t.buyer,nat t.seller,t.lots,t.price,truth t.yesBuyer,truth t.yesSeller] ++ match t.given with
   | some p=>[p.1 + 1,nat p.2]
   | none=>[0,0]).length≤1000
  rw [List.length_cons];omega
 | told=>
  have h1:=Z3 (f:=fun k:Contract=>[k.kind,nat k.under,k.strike,k.mult,k.expiry,truth k.over]) (n:=6) s.contracts (fun _ _=>by simp)
  have h2:=Z3 (f:=fun x:Lots=>[nat x.account,nat x.contract,x.lots]) (n:=3) s.lots (fun _ _=>by simp)
  have h3:=z7n o.c
  show (s.turn :: nat s.prices.length :: s.prices ++ (nat s.contracts.length :: (s.contracts.flatMap fun k=>[k.kind,nat k.under,k.strike,k.mult,k.expiry,truth k.over]) ++ (nat s.cash.length :: s.cash ++ s.lots.flatMap fun x=>[nat x.account,nat x.contract,x.lots]))).length≤1000
  simp only [List.length_cons,List.length_append]
  omega
end
end Hx
namespace Hx
open Vbchaa
theorem z5V:∀ (n:Nat) (r:Run),assign (n + 1) r=assignOne (assign n r)
 | 0,r=>rfl
 | n + 1,r=>by
  show assign (n + 1) (assignOne r)=assignOne (assign n (assignOne r))
  exact z5V n (assignOne r)
noncomputable def chO (o:Option (Nat × Int)):Int:=match o with
 | none=>0
 | some q=>(q.1:Int)
noncomputable def lsO (r:Run) (o:Option (Nat × Int)):Int:=match o with
 | none=>0
 | some q=>deadline r q
theorem z0l {l:List (Nat × Int)} {i:Nat} {p:Int × Int} (h:(cI l)[i]?=some p):∃ q,l[i]?=some q∧p=((q.1:Int),q.2):=by
 unfold cI at h
 rw [List.getElem?_map] at h
 cases e:l[i]? with
 | none=>rw [e] at h;cases h
 | some q=>rw [e] at h;exact ⟨q,rfl,(Option.some.inj h).symm⟩
theorem YH (l:List (Nat × Int)):(cI l).length=l.length:=by unfold cI;rw [List.length_map]
theorem zdc {l:List (Nat × Int)} (hn:(l.map (·.1)).Nodup) {q:Nat × Int} (hq:q∈l):gI (cI l) q.1=some q.2:=by
 rw [z1k,if_pos (List.mem_map_of_mem hq),j4 hn hq]
theorem z0p {r:Run} {N:Nat} (ri:RunI r N) {q:Nat × Int} (hq:q∈r.base):gI (cI r.assigned) q.1=some (look r.assigned q.1):=by
 rw [z1k,if_pos (by rw [ri.keys];exact List.mem_map_of_mem hq)]
theorem ziK {l:List (Nat × Int)} (hn:(l.map (·.1)).Nodup) {k:Nat} (hk:k∈l.map (·.1)):zP (cI l) k (look l k + 1)=cI (Z9 k l):=by
 unfold zP
 have:((cI l).any fun p=>decide (p.1=(k:Int)))=true:=by
  rw [z1j,z1k,if_pos hk];rfl
 rw [if_pos this]
 unfold cI Z9
 rw [List.map_map,List.map_map]
 apply List.map_congr_left
 intro p hp
 show (if (p.1:Int)=(k:Int) then ((p.1:Int),look l k + 1) else ((p.1:Int),p.2))=(((if p.1=k then (p.1,p.2 + 1) else p).1:Int),(if p.1=k then (p.1,p.2 + 1) else p).2)
 by_cases h:p.1=k
 ·rw [if_pos (by omega),if_pos h,← h,j4 hn hp]
 ·rw [if_neg (by omega),if_neg h]
noncomputable def Yb (r t:Run) (i:Nat):List (Nat × Int):=((t.assigned.take i).map fun p=>(p.1,p.2 - assignedTo r p.1)).filter fun p=>decide (p.2≠0)
theorem zgl {r t:Run} {i:Nat} (h:t.assigned.length≤i):Yb r t i=newly r t:=by unfold Yb newly;rw [List.take_of_length_le h]
theorem zgo {r t:Run} {i:Nat} {p:Nat × Int} (h:t.assigned[i]?=some p):Yb r t (i + 1)=Yb r t i ++ (if p.2 - look r.assigned p.1≠0 then [(p.1,p.2 - look r.assigned p.1)] else []):=by
 unfold Yb
 rw [List.take_succ,h,List.map_append,List.filter_append]
 congr 1
 show List.filter _ [(p.1,p.2 - assignedTo r p.1)]=_
 rw [z3l]
 by_cases q:p.2 - look r.assigned p.1≠0
 ·rw [if_pos q,List.filter_cons_of_pos (by simpa using q)];rfl
 ·rw [if_neg q,List.filter_cons_of_neg (by simpa using q)];rfl
theorem zgm {r t:Run} {i:Nat} {k:Nat} (h:k∈(Yb r t i).map (·.1)):k∈(t.assigned.take i).map (·.1):=by
 unfold Yb at h
 obtain ⟨p,hp,rfl⟩:=List.mem_map.mp h
 obtain ⟨q,hq,rfl⟩:=List.mem_map.mp (List.mem_filter.mp hp).1
 show q.1∈_
 exact List.mem_map_of_mem (f:=fun x:Nat × Int=>x.1) hq
theorem zgn (r t:Run) (i:Nat):(Yb r t i).length≤t.assigned.length:=by
 unfold Yb
 refine Nat.le_trans (List.length_filter_le _ _) ?_
 rw [List.length_map,List.length_take]
 exact Nat.min_le_right _ _
theorem z7N {α : Type} {l:List α} (hn:l.Nodup) {i:Nat} {x : α} (h:l[i]?=some x):x ∉ l.take i:=by
 intro z
 have hnd:=hn
 rw [← List.take_append_drop i l,List.nodup_append] at hnd
 have hd:x∈l.drop i:=List.mem_of_getElem? (i:=0) (by rw [List.getElem?_drop];exact h)
 exact hnd.2.2 _ z _ hd rfl
theorem zf9 {r:Run} {N:Nat} (ri:RunI r N) {i:Nat} {q:Nat × Int} (h:r.base[i]?=some q):r.assigned[i]?=some (q.1,look r.assigned q.1):=by
 have h1:(r.assigned.map (·.1))[i]?=some q.1:=by rw [ri.keys,List.getElem?_map,h];rfl
 rw [List.getElem?_map] at h1
 cases e:r.assigned[i]? with
 | none=>rw [e] at h1;cases h1
 | some p=>
  rw [e] at h1
  have h1:p.1=q.1:=Option.some.inj h1
  have:=j4 ri.ndA (List.mem_of_getElem? e)
  rw [← h1,this]
theorem ziA (r:Run) (o:Option (Nat × Int)) (q:Nat × Int) (ho:∀ z,o=some z→1≤z.1):(Zg r q=false→yA r o q=o)∧(Zg r q=true→chO o=0∨deadline r q < lsO r o→yA r o q=some q)∧(Zg r q=true→¬ (chO o=0∨deadline r q < lsO r o)→yA r o q=o):=by
 unfold yA
 refine ⟨fun h=>by rw [h];rfl,fun h h2=>?_,fun h h2=>?_⟩
 ·rw [h,if_pos rfl]
  cases o with
  | none=>rfl
  | some z=>
   have:=ho z rfl
   have h2:(z.1:Int)=0∨deadline r q < deadline r z:=h2
   dsimp only
   rw [if_pos (by omega)]
 ·rw [h,if_pos rfl]
  cases o with
  | none=>exact absurd (Or.inl rfl) h2
  | some z=>
   have h2:¬ ((z.1:Int)=0∨deadline r q < deadline r z):=h2
   dsimp only
   rw [if_neg (by omega)]
theorem z85 (r:Run):∀ (l:List (Nat × Int)) (o:Option (Nat × Int)) (z:Nat × Int),l.foldl (yA r) o=some z→o=some z∨z∈l
 | [],o,z,h=>.inl h
 | p :: l,o,z,h=>by
  rcases z85 r l _ z h with h | h
  ·unfold yA at h
   split at h
   ·split at h
    ·cases h;exact .inr (by simp)
    ·split at h
     ·cases h;exact .inr (by simp)
     ·exact .inl h
   ·exact .inl h
  ·exact .inr (by simp [h])
theorem zfU {r:Run} {N:Nat} (ri:RunI r N) {q:Nat × Int} (hq:q∈r.base):(0 < q.2∧q.2≤100000)∧0≤look r.assigned q.1∧look r.assigned q.1≤100000:=by
 have h1:=ri.pos q hq
 have h2:=ri.asg q hq
 unfold MOST at h1
 omega
end Hx
namespace Hx
open Vbchaa
structure Wf (m:HouM):Prop where
 und:∀ (i:Nat) (k:ConM),m.cons[i]?=some k→1≤k.under∧k.under≤(m.prices.length:Int)
 mult:∀ (i:Nat) (k:ConM),m.cons[i]?=some k→1≤k.mult∧k.mult≤1000
 held:∀ (i:Nat) (k:ConM),m.cons[i]?=some k→k.held.length < 90
 hnd:∀ (i:Nat) (k:ConM),m.cons[i]?=some k→(k.held.map (·.1)).Nodup
 hk:∀ (i:Nat) (k:ConM),m.cons[i]?=some k→∀ p∈k.held,1≤p.1∧p.1≤(m.cash.length:Int)
 cashN:m.cash.length≤12
 conN:m.cons.length≤12
 priceN:m.prices.length≤4
 spN:m.spent.length≤60
 trN:m.trades.length≤60
 trD:(m.trades.map (·.1)).Nodup
 trd:∀ (key:Int) (x:TrdM),gI m.trades key=some x→∃ k,m.cons[x.con]?=some k
theorem Rel.wf {m:HouM} {s:State} (h:Rel m s) (o:Ok s):Wf m:=by
 have hN:=h.cashN
 have oc:=o.c.cashN
 have R:∀ (i:Nat) (k:ConM),m.cons[i]?=some k→∃ c r,s.contracts[i]?=some c∧ConR s i k c r∧ConOk s c:=fun i k hk=>by
  obtain ⟨c,r,e1,e2,R⟩:=h.con i k hk
  exact ⟨c,r,e1,R,o.c.con c (List.mem_of_getElem? e1)⟩
 refine ⟨fun i k hk=>?_,fun i k hk=>?_,fun i k hk=>?_,fun i k hk=>?_,fun i k hk=>?_,by omega,by rw [h.ncon];exact o.c.conN,by rw [h.priceN];exact o.c.priceN,?_,h.tradesN o.t,h.tradesD o.t,fun key x e=>?_⟩
 ·obtain ⟨c,r,e1,R,oc⟩:=R i k hk
  have:=oc.under
  have:=h.priceN
  rw [R.under];omega
 ·obtain ⟨c,r,e1,R,oc⟩:=R i k hk
  rw [R.mult];exact oc.mult
 ·have:=h.heldN hk;omega
 ·obtain ⟨c,r,e1,R,oc⟩:=R i k hk;exact R.nd
 ·obtain ⟨c,r,e1,R,oc⟩:=R i k hk;rw [hN];exact R.keys
 ·rw [h.spent,List.length_reverse];exact o.t.spN
 ·obtain ⟨t,k,c0,r,A⟩:=h.tAt o.t e
  exact ⟨k,A.at_⟩
theorem z0w {m:HouM} {c:Int} (h:inN m.cons.length c):∃ k,m.cons[c.toNat - 1]?=some k:=⟨_,List.getElem?_eq_getElem (by have:=h.1;have:=h.2;omega)⟩
end Hx
namespace Hx
open Vbchaa
theorem zge {a b A B:Int} (h1:-A≤a) (h2:a≤A) (h3:0≤b) (h4:b≤B) (hA:0≤A):-(A * B)≤a * b∧a * b≤A * B:=by
 have e1:a * b≤A * b:=Int.mul_le_mul_of_nonneg_right h2 h3
 have e2:-A * b≤a * b:=Int.mul_le_mul_of_nonneg_right h1 h3
 have e3:A * b≤A * B:=Int.mul_le_mul_of_nonneg_left h4 hA
 rw [Int.neg_mul] at e2
 omega
theorem ziJ {α : Type} (l:List (Int × α)) (k:Int) (v : α):(zP l k v).length≤l.length + 1:=by
 unfold zP
 split
 ·rw [List.length_map];omega
 ·rw [List.length_append];simp
theorem z8d {N:Nat} {l:List (Int × Int)} (h:∀ p∈l,1≤p.1∧p.1≤(N:Int)) {a:Nat} (ha:1≤a∧a≤N) (v:Int):∀ p∈zP l a v,1≤p.1∧p.1≤(N:Int):=fun p hp=>by
 have hm:p.1∈(zP l a v).map (·.1):=List.mem_map_of_mem hp
 rw [z01] at hm
 split at hm
 ·obtain ⟨q,hq,e⟩:=List.mem_map.mp hm
  rw [← e];exact h q hq
 ·rcases List.mem_append.mp hm with hm | hm
  ·obtain ⟨q,hq,e⟩:=List.mem_map.mp hm
   rw [← e];exact h q hq
  ·rw [List.mem_singleton.mp hm];omega
structure HeldOk (l:List (Int × Int)) (N n:Nat):Prop where
 nd:(l.map (·.1)).Nodup
 keys:∀ p∈l,1≤p.1∧p.1≤(N:Int)
 len:l.length < n
theorem Wf.heldOk {m:HouM} (w:Wf m) {i:Nat} {k:ConM} (hk:m.cons[i]?=some k):HeldOk k.held m.cash.length 90:=⟨w.hnd i k hk,w.hk i k hk,w.held i k hk⟩
theorem HeldOk.move {k:ConM} {N n:Nat} (h:HeldOk k.held N n) {a:Nat} (ha:1≤a∧a≤N) (z:Int):HeldOk (zI k a z).held N (n + 1) :=
 ⟨z4L _ _ h.nd,z8d h.keys ha _,by have:=ziJ k.held (a:Int) (lkI k.held a + z);have:=h.len;show (zP _ _ _).length < _;omega⟩
end Hx
namespace Hx
open Vbchaa
noncomputable def HeldK (l:List (Int × Int)) (N:Nat):Prop:=(l.map (·.1)).Nodup∧∀ p∈l,1≤p.1∧p.1≤(N:Int)
theorem HeldK.len {l:List (Int × Int)} {N:Nat} (h:HeldK l N):l.length≤N:=heldN h.1 h.2
theorem HeldK.move {k:ConM} {N:Nat} (h:HeldK k.held N) {a:Nat} (ha:1≤a∧a≤N) (z:Int):HeldK (zI k a z).held N:=⟨z4L _ _ h.1,z8d h.2 ha _⟩
theorem zgi {m:HouM} {i N:Nat} (h:∃ k,m.cons[i]?=some k∧HeldK k.held N) {a:Nat} (ha:1≤a∧a≤N) (n x:Int):∃ k,(YA m i a n x).cons[i]?=some k∧HeldK k.held N:=by
 obtain ⟨k,hk,o⟩:=h
 rw [z1y hk]
 exact ⟨_,yS hk _ _ _,o.move ha n⟩
theorem z7t {i N:Nat} (pay:Int):∀ (l:List (Nat × Int)) (m:HouM),(∃ k,m.cons[i]?=some k∧HeldK k.held N)→(∀ p∈l,1≤p.1∧p.1≤N)→∃ k,(Zc m i l pay).cons[i]?=some k∧HeldK k.held N
 | [],m,h,_=>h
 | p :: l,m,h,hl=>z7t pay l _ (zgi h (hl p (by simp)) _ _) fun q hq=>hl q (by simp [hq])
end Hx
namespace Hx
open Vbchaa
theorem Rel.hb {m:HouM} {s:State} (h:Rel m s) (o:Core s) (i:Nat) (k:ConM) (hk:m.cons[i]?=some k):∀ p∈k.held,-100000≤p.2∧p.2≤100000:=fun p hp=>by
 obtain ⟨c,r,e1,e2,R⟩:=h.con i k hk
 have h1:=R.keys p hp
 have h2:=z6B R.nd hp
 have h3:=R.lots p.1.toNat
 rw [show ((p.1.toNat:Nat):Int)=p.1 by omega] at h3
 unfold lkI at h3
 rw [h2] at h3
 have h3:p.2=lotsOf s p.1.toNat (i + 1):=h3
 have h4:=o.most p.1.toNat (i + 1)
 unfold MOST at h4
 omega
noncomputable def ym (t:Int) (l:List ConM) (i:Nat):List ConM:=(l.take i).map (Za t) ++ l.drop i
theorem z6d (t:Int) (l:List ConM):ym t l 0=l:=by simp [ym]
theorem zcB (t:Int) (l:List ConM):ym t l l.length=l.map (Za t):=by unfold ym;rw [List.take_length,List.drop_length,List.append_nil]
theorem z6f (t:Int) (l:List ConM) (i:Nat):(ym t l i).length=l.length:=by
 unfold ym
 rw [List.length_append,List.length_map,List.length_take,List.length_drop];omega
theorem z6e {t:Int} {l:List ConM} {i:Nat} {k:ConM} (h:l[i]?=some k):(ym t l i)[i]?=some k:=by
 have hl:=(List.getElem?_eq_some_iff.mp h).1
 unfold ym
 rw [List.getElem?_append_right (by rw [List.length_map,List.length_take];omega),List.length_map,List.length_take,List.getElem?_drop]
 rw [show i + (i - min i l.length)=i by omega];exact h
theorem zcC {t:Int} {l:List ConM} {i:Nat} {k:ConM} (h:l[i]?=some k):(ym t l i).set i (Za t k)=ym t l (i + 1):=by
 have hl:=(List.getElem?_eq_some_iff.mp h).1
 have hk:=(List.getElem?_eq_some_iff.mp h).2
 unfold ym
 rw [List.set_append_right _ _ (by rw [List.length_map,List.length_take];omega),List.length_map,List.length_take,show i - min i l.length=0 by omega]
 rw [List.take_succ,h,List.map_append,List.append_assoc]
 congr 1
 rw [List.drop_eq_getElem_cons hl,List.set_cons_zero];rfl
end Hx
namespace Hx
open Vbchaa
inductive IsC:Int→List Int→Call→Prop
 | account:IsC 0 [] .account
 | under (p:Int):IsC 1 [p] (.under p)
 | contract (a b c d e:Int):IsC 2 [a,b,c,d,e] (.contract a b c d e)
 | trade (a b c d e f:Int):IsC 3 [a,b,c,d,e,f] (.trade a b c d e f)
 | agree (a b:Int):IsC 4 [a,b] (.agree a b)
 | give (a b c:Int):IsC 5 [a,b,c] (.give a b c)
 | take (a:Int):IsC 6 [a] (.take a)
 | exercise (a b c:Int):IsC 7 [a,b,c] (.exercise a b c)
 | turn (l:List Int):IsC 8 l (.turn l)
 | position (a b:Int):IsC 9 [a,b] (.position a b)
 | positions (a:Int):IsC 10 [a] (.positions a)
 | cash (a:Int):IsC 11 [a] (.cash a)
 | run (a:Int):IsC 12 [a] (.run a)
 | wouldAssign (a b:Int):IsC 13 [a,b] (.wouldAssign a b)
 | open_ (a:Int):IsC 14 [a] (.open_ a)
 | trades:IsC 15 [] .trades
 | told:IsC 16 [] .told
theorem Z4 {l:List Int} (h:l.length=0):l=[]:=List.eq_nil_of_length_eq_zero h
theorem y4 {l:List Int} {n:Nat} (h:l.length=n + 1):∃ a r,l=a :: r∧r.length=n:=by
 cases l with
 | nil=>cases h
 | cons a r=>exact ⟨a,r,rfl,by simpa using h⟩
set_option synthInstance.maxSize 4000 in
set_option synthInstance.maxHeartbeats 200000 in
theorem zhR {p:Int} (h:0≤p∧p≤16) (h8:p≠8):p=0∨p=1∨p=2∨p=3∨p=4∨p=5∨p=6∨p=7∨p=9∨p=10∨p=11∨p=12∨p=13∨p=14∨p=15∨p=16:=by
 obtain ⟨k,rfl⟩:=Int.eq_ofNat_of_zero_le h.1
 exact (by decide:∀ k:Nat,k < 17→(k:Int)≠8→(k:Int)=0∨(k:Int)=1∨(k:Int)=2∨(k:Int)=3∨(k:Int)=4∨(k:Int)=5∨(k:Int)=6∨(k:Int)=7∨(k:Int)=9∨(k:Int)=10∨(k:Int)=11∨(k:Int)=12∨(k:Int)=13∨(k:Int)=14∨(k:Int)=15∨(k:Int)=16) k (by omega) h8
theorem zeY {p:Int} {row:List Int} (h:0≤p∧p≤16) (h8:p≠8) (hl:row.length=wid p):∃ c,IsC p row c∧VbchaaNeutral.callOf [p :: row]=some c:=by
 have:=zhR h h8
 rcases this with rfl | rfl | rfl | rfl | rfl | rfl | rfl | rfl | rfl | rfl | rfl | rfl | rfl | rfl | rfl | rfl
 ·have z:=Z4 hl;subst z;exact ⟨_,.account,rfl⟩
 ·obtain ⟨a,r0,rfl,g0⟩:=y4 (n:=0) hl;have z:=Z4 g0;subst z;exact ⟨_,.under a,rfl⟩
 ·obtain ⟨a,r0,rfl,g0⟩:=y4 (n:=4) hl;obtain ⟨b,r1,rfl,g1⟩:=y4 g0;obtain ⟨c,r2,rfl,g2⟩:=y4 g1;obtain ⟨d,r3,rfl,g3⟩:=y4 g2;obtain ⟨e,r4,rfl,g4⟩:=y4 g3;have z:=Z4 g4;subst z;exact ⟨_,.contract a b c d e,rfl⟩
 ·obtain ⟨a,r0,rfl,g0⟩:=y4 (n:=5) hl;obtain ⟨b,r1,rfl,g1⟩:=y4 g0;obtain ⟨c,r2,rfl,g2⟩:=y4 g1;obtain ⟨d,r3,rfl,g3⟩:=y4 g2;obtain ⟨e,r4,rfl,g4⟩:=y4 g3;obtain ⟨f,r5,rfl,g5⟩:=y4 g4;have z:=Z4 g5;subst z;exact ⟨_,.trade a b c d e f,rfl⟩
 ·obtain ⟨a,r0,rfl,g0⟩:=y4 (n:=1) hl;obtain ⟨b,r1,rfl,g1⟩:=y4 g0;have z:=Z4 g1;subst z;exact ⟨_,.agree a b,rfl⟩
 ·obtain ⟨a,r0,rfl,g0⟩:=y4 (n:=2) hl;obtain ⟨b,r1,rfl,g1⟩:=y4 g0;obtain ⟨c,r2,rfl,g2⟩:=y4 g1;have z:=Z4 g2;subst z;exact ⟨_,.give a b c,rfl⟩
 ·obtain ⟨a,r0,rfl,g0⟩:=y4 (n:=0) hl;have z:=Z4 g0;subst z;exact ⟨_,.take a,rfl⟩
 ·obtain ⟨a,r0,rfl,g0⟩:=y4 (n:=2) hl;obtain ⟨b,r1,rfl,g1⟩:=y4 g0;obtain ⟨c,r2,rfl,g2⟩:=y4 g1;have z:=Z4 g2;subst z;exact ⟨_,.exercise a b c,rfl⟩
 ·obtain ⟨a,r0,rfl,g0⟩:=y4 (n:=1) hl;obtain ⟨b,r1,rfl,g1⟩:=y4 g0;have z:=Z4 g1;subst z;exact ⟨_,.position a b,rfl⟩
 ·obtain ⟨a,r0,rfl,g0⟩:=y4 (n:=0) hl;have z:=Z4 g0;subst z;exact ⟨_,.positions a,rfl⟩
 ·obtain ⟨a,r0,rfl,g0⟩:=y4 (n:=0) hl;have z:=Z4 g0;subst z;exact ⟨_,.cash a,rfl⟩
 ·obtain ⟨a,r0,rfl,g0⟩:=y4 (n:=0) hl;have z:=Z4 g0;subst z;exact ⟨_,.run a,rfl⟩
 ·obtain ⟨a,r0,rfl,g0⟩:=y4 (n:=1) hl;obtain ⟨b,r1,rfl,g1⟩:=y4 g0;have z:=Z4 g1;subst z;exact ⟨_,.wouldAssign a b,rfl⟩
 ·obtain ⟨a,r0,rfl,g0⟩:=y4 (n:=0) hl;have z:=Z4 g0;subst z;exact ⟨_,.open_ a,rfl⟩
 ·have z:=Z4 hl;subst z;exact ⟨_,.trades,rfl⟩
 ·have z:=Z4 hl;subst z;exact ⟨_,.told,rfl⟩
theorem zmd {p:Int} (h:0≤p∧p≤16) (h8:p≠8):([0,1,5,6,2,3,1,3,0,2,1,1,1,2,1,0,0]:List Int)[p.toNat]?=some (wid p:Int):=by
 obtain ⟨k,rfl⟩:=Int.eq_ofNat_of_zero_le h.1
 exact (by decide:∀ k:Nat,k < 17→(k:Int)≠8→([0,1,5,6,2,3,1,3,0,2,1,1,1,2,1,0,0]:List Int)[(k:Int).toNat]?=some (wid k:Int)) k (by omega) h8
theorem zkH {s:State} {n:Int} {row:List Int} {c:Call} (h:IsC n row c) (hn:9≤n):(Vbchaa.step s c).1=s:=by
 cases h with
 | account=>exact absurd hn (by decide)
 | under=>exact absurd hn (by decide)
 | contract=>exact absurd hn (by decide)
 | trade=>exact absurd hn (by decide)
 | agree=>exact absurd hn (by decide)
 | give=>exact absurd hn (by decide)
 | take=>exact absurd hn (by decide)
 | exercise=>exact absurd hn (by decide)
 | turn=>exact absurd hn (by decide)
 | position a b=>unfold Vbchaa.step;dsimp only;split <;> rfl
 | positions a=>unfold Vbchaa.step;dsimp only;split <;> rfl
 | cash a=>unfold Vbchaa.step;dsimp only;split <;> rfl
 | run a=>unfold Vbchaa.step;dsimp only;split <;> rfl
 | wouldAssign a b=>unfold Vbchaa.step;dsimp only;split;rfl;split;rfl;split <;> rfl
 | open_ a=>unfold Vbchaa.step;dsimp only;split <;> rfl
 | trades=>rfl
 | told=>rfl
theorem zd6 {f:Nat} {p:Int} {r:List Int} {cs:List (List (List Int))} (h:PyFlat.calls PyVbchaa.shape f (p :: r)=some cs) :
  ∃ (f':Nat) (cs':List (List (List Int))) (c:Call) (c0:List (List Int)) (st n:Nat),cs=c0 :: cs'∧VbchaaNeutral.callOf c0=some c∧(0≤p∧p≤16)∧st + n≤(p :: r).length∧IsC p (((p :: r).drop st).take n) c∧PyFlat.calls PyVbchaa.shape f' ((p :: r).drop (st + n))=some cs' ∧
   ((p≠8∧st=1∧n=wid p)∨(p=8∧st=2∧r[0]?=some (n:Int))):=by
 obtain ⟨hp,f',cs',hv⟩:=zcz h
 rcases hv with ⟨h8,hw,rfl,hr⟩ | ⟨rfl,m,r',rfl,hm,hl,rfl,hr⟩
 ·obtain ⟨c,hc,e⟩:=zeY (row:=r.take (wid p)) hp h8 (by rw [List.length_take];omega)
  refine ⟨f',cs',c,_,1,wid p,rfl,e,hp,by rw [List.length_cons];omega,hc,?_,.inl ⟨h8,rfl,rfl⟩⟩
  rw [Nat.add_comm,List.drop_succ_cons];exact hr
 ·refine ⟨f',cs',.turn (r'.take m.toNat),_,2,m.toNat,rfl,rfl,hp,by rw [List.length_cons,List.length_cons];omega,.turn _,?_,.inr ⟨rfl,rfl,?_⟩⟩
  ·rw [Nat.add_comm];exact hr
  ·show some m=_;congr 1;omega
end Hx
namespace L2
open PySem PySem.Spec PyProof.Rows
section
variable {X:Cx}
theorem zf {x:Str} {i:Int} {pos:Pos} (hm:∃ t,X.mg x=some (.int i t)) (hg:Gl X x) (hd:(x == ("__debug__" : Str))=false:=by decide):PE X (.Name x pos) (tC (.int i)):=by
 obtain ⟨t,h⟩:=hm
 exact z7Z hg h ⟨t,rfl⟩ hd
theorem yP:bootBuiltins "len" = some (.builtin "len"):=by decide +kernel
theorem z16:bootBuiltins "abs" = some (.builtin "abs"):=by decide +kernel
theorem z68:bootBuiltins "max" = some (.builtin "max"):=by decide +kernel
theorem zcp:bootBuiltins "sum" = some (.builtin "sum"):=by decide +kernel
theorem z69:bootBuiltins "sorted" = some (.builtin "sorted"):=by decide +kernel
theorem zco:bootBuiltins "list" = some (.type "list"):=by decide +kernel
theorem z3o:bootBuiltins "dict" = some (.type "dict"):=by decide +kernel
structure Good (P:Program) (w:World) (K:PySem.W.Frag) (mg:Str→Option Value) (base:Heap) (k:Nat) (f:Addr) (ps:List Str) (sp:Sp):Prop where
 ex:∃ fd,FnOk P w K mg base CX0 k f fd ps sp∧Binds K fd ps []
 kp:PySem.W.keepIn K (.ref f)=true
variable {j k:Nat} {f C:Addr} {ps:List Str} {sp:Sp} {x m:Str} {p pos apos:Pos} {e o:Expr} {es:List Expr} {ta:TE} {t:TA}
theorem zm (G:Good X.prog X.w X.K X.mg X.base j f ps sp) (hr:Room k X.A) (hj:j≤k) (hg:Gl X x) (hm:X.mg x=some (.ref f)) (ha:PA X (e :: es) t)
  (hdb:(x == ("__debug__" : Str))=false:=by decide) (he:starEach (e :: es) X.env=(false,eval e X.env) :: starEach es X.env:=by rfl) (hpl:(backTo pos (starEach es X.env)).any (·.1)=false:=by rfl) :
  PE X (.Call (.Name x p) (e :: es) [] pos) (z0d sp [] E0 t):=by
 obtain ⟨fd,F,b⟩:=G.ex
 exact zhZ F (hr.mono hj) hg hm G.kp b .nil z0L ha hdb he hpl
theorem zbA (G:Good X.prog X.w X.K X.mg X.base j f ps sp) (hr:Room k X.A) (hj:j≤k) (hg:Gl X x) (hm:X.mg x=some (.ref f)) (hdb:(x == ("__debug__" : Str))=false:=by decide) :
  PE X (.Call (.Name x p) [] [] pos) (z0d sp [] E0 ZO):=by
 obtain ⟨fd,F,b⟩:=G.ex
 exact zi0 F (hr.mono hj) hg hm G.kp b .nil z0L hdb
theorem yh {pl:Sem Bool} (he:PE X o ta) (c:Cls X.K C) (hm:Meth X.K C m f) (G:Good X.prog X.w X.K X.mg X.base j f ps sp) (hr:Room k X.A) (hj:j≤k) (ha:PA X (e :: es) t)
  (hst:starEach (e :: es) X.env=(false,eval e X.env) :: starEach es X.env:=by rfl) (hpl:(backTo pos (starEach es X.env)).any (·.1)=false:=by rfl)
  (ht:eval (.Call (.Attribute o m apos) (e :: es) [] pos) X.env=(do
   let ov ← eval o X.env
   standAt apos.atName
   let (f,first) ← holding [ov] (getMethod ov m pl)
   callWith pos f first (backTo pos (starEach (e :: es) X.env)) (backToKw pos (keywordEach [] X.env))):=by rfl) :
  PE X (.Call (.Attribute o m apos) (e :: es) [] pos) (z2c C m sp [] E0 ta t):=by
 obtain ⟨fd,F,b⟩:=G.ex
 exact zi8 he c hm F (hr.mono hj) b .nil z0L ha hst hpl ht
theorem z0X (M:Mk X.K C f) (G:Good X.prog X.w X.K X.mg X.base j f ps sp) (hr:Room k X.A) (hj:j + 1≤k) (hg:Gl X x) (hm:X.mg x=some (.ref C)) (ha:PA X (e :: es) t)
  (hdb:(x == ("__debug__" : Str))=false:=by decide) (he:starEach (e :: es) X.env=(false,eval e X.env) :: starEach es X.env:=by rfl) (hpl:(backTo pos (starEach es X.env)).any (·.1)=false:=by rfl) :
  PE X (.Call (.Name x p) (e :: es) [] pos) (z0V C sp [] E0 t):=by
 obtain ⟨fd,F,b⟩:=G.ex
 exact zi6 M F (hr.mono hj) hg hm b .nil z0L ha hdb he hpl
theorem zmi (M:Mk X.K C f) (G:Good X.prog X.w X.K X.mg X.base j f ps sp) (hr:Room k X.A) (hj:j + 1≤k) (hg:Gl X x) (hm:X.mg x=some (.ref C)) (hdb:(x == ("__debug__" : Str))=false:=by decide) :
  PE X (.Call (.Name x p) [] [] pos) (z0V C sp [] E0 ZO):=by
 obtain ⟨fd,F,b⟩:=G.ex
 exact zi7 M F (hr.mono hj) hg hm b .nil z0L hdb
noncomputable def z4O (K:PySem.W.Frag):V→V→Hp→VK→Prop:=fun o i H Q=>∃ p xs k v,o = .ref p∧i = .int k∧SqL K H p xs∧0≤k∧xs[k.toNat]?=some v∧Q v H
theorem zdU:z3e X (z4O X.K):=by
 intro pins s σ H o i ov iv Q I ro ri h
 obtain ⟨p,xs,k,v,rfl,rfl,hq,h0,he,q⟩:=h
 cases ro
 obtain ⟨t,rfl⟩:=ri
 obtain ⟨its,r,pl,hz⟩:=I.list hq
 obtain ⟨u,eu,ru⟩:=r.get he
 have hl:=(List.getElem?_eq_some_iff.mp he).1
 have hn:=z0B
 exact wpAny_getItem_list pl.isList h0 (by omega) (by simpa using eu) ⟨v,H,I,ru,q⟩
theorem z3p:Z7 X (.type "dict") (fun xs H Q=>∃ a kvs,xs=[V.ref a]∧Rd H a (.dK kvs)∧∀ p,H p=none→Q (.ref p) (upd H p (.dK kvs))):=by
 intro pins s σ H xs us Q I r h
 obtain ⟨a,kvs,rfl,ha,q⟩:=h
 obtain ⟨u,rfl,ru⟩:=jR r
 cases ru
 exact zcP I ha fun p s' hp I'=>⟨.ref p,_,I',rfl,q p hp⟩
variable {K:PySem.W.Frag} {o' e' value:Expr} {f':Str} {pos' tpos:Pos} {tv:TE}
theorem zc (he:PE X e ta) (hb:attributeBase e f' X.env (eval e X.env)=eval e X.env) (hK:X.K=K:=by rfl):PE X (.Attribute e f' pos) (jO K ta f'):=hK ▸ zi4 he hb
theorem zB (ha:PE X o ta) (hv:PE X value tv) (hs:swapsWith value (some (.Attribute o f' pos')) pos.line X.env=pure false) (hK:X.K=K:=by rfl):PS X (.Assign [.Attribute o f' pos'] value pos) (z4V K ta tv f'):=hK ▸ ziF ha hv hs
theorem z5F {op:Operator} {rd:V→V→Hp→VK→Prop} (ha:PE X o ta) (hv:PE X value tv) (hop:z0Y X op rd) (hK:X.K=K:=by rfl):PS X (.AugAssign (.Attribute o f' tpos) op value pos) (z4W K ta tv rd f'):=hK ▸ ziG ha hv hop
theorem zE (hK:X.K=K:=by rfl):IxR X (z0N K):=hK ▸ zf0
theorem zmf (hK:X.K=K:=by rfl):IxR X (z8l K):=hK ▸ zf1
theorem zml (hK:X.K=K:=by rfl):SlR X (z0O K):=hK ▸ zkn
theorem zbB (hK:X.K=K:=by rfl):z3e X (z4O K):=hK ▸ zdU
theorem zmj (hK:X.K=K:=by rfl):OpR X (compareOp .NotIn) (rIn K true):=hK ▸ zhP
noncomputable def z1O (K:PySem.W.Frag):List V→Hp→VK→Prop:=fun xs H Q=>∃ p ys,xs=[V.ref p]∧(SqL K H p ys∨SqT K H p ys)∧Q (.int ys.length) H
theorem Z1 (hK:X.K=K:=by rfl):Z7 X (.builtin "len") (z1O K):=hK ▸ zcu
noncomputable def ziZ:List V→Hp→VK→Prop:=fun xs H Q=>∃ a kvs,xs=[V.ref a]∧H a=some (.dK kvs)∧Q (.int kvs.length) H
theorem zmg:Z7 X (.builtin "len") ziZ:=zct
noncomputable def zj0 (K:PySem.W.Frag):List V→Hp→VK→Prop:=fun xs H Q=>∃ p ys,xs=[V.ref p]∧(SqL K H p ys∨SqT K H p ys)∧∀ l,H l=none→Q (.ref l) (upd H l (.lst ys))
theorem zmh (hK:X.K=K:=by rfl):Z7 X (.type "list") (zj0 K):=hK ▸ zcv
theorem Yk {tg l:Expr} {tl:TE} (hl:PE X l tl) (hK:X.K=K:=by rfl):PI X tg l (z3F K tl):=hK ▸ ziu hl
theorem zmk {a b:Expr} {ta2:TA} {p pos tpos:Pos} {elts:List Expr} {kk:Nat} (hg:Gl X "zip") (hm:X.mg "zip" = none) (ha:PA X [a,b] ta2)
  (hs:starEach [a,b] X.env=(false,eval a X.env) :: starEach [b] X.env:=by rfl) (hpl:(backTo pos (starEach [b] X.env)).any (·.1)=false:=by rfl) (hK:X.K=K:=by rfl) :
  PI X (.Tuple elts kk tpos) (.Call (.Name "zip" p) [a,b] [] pos) (z3G K ta2):=hK ▸ ziy hg hm ha hs hpl
theorem jS {es:List Expr} {kk:Nat} {tgs:TGs} {n:Nat} (hc:X.calm=true) (h:PGs X es tgs) (hn:(assignEach es X.env).length=n:=by rfl) (hst:(assignEach es X.env).findIdx? (·.1)=none:=by rfl) (hK:X.K=K:=by rfl) :
  PG X (.Tuple es kk pos) (z3A K n tgs):=hK ▸ zio hc h hn hst
theorem xbm {T id:String} {name:Str} {cpos:Pos} {r:V→List V→Hp→VK→Prop} (pa:PlainAttrs T) (slot:Slot T name id) (hty:typeOf (.builtin id)=pure (.type "method_descriptor")) (hm:MtR X id r) (ho:PE X o ta) (ha:PA X (e :: es) t)
  (hbase:attributeBase o name X.env (eval o X.env)=eval o X.env:=by rfl)
  (hfew:((backTo cpos (starEach (e :: es) X.env)).all (fun x=>!x.1) && (backToKw cpos (keywordEach [] X.env)).all (fun x=>x.1.isSome)
   && decide ((e :: es).length + ([]:List Keyword).length + (if ([]:List Keyword).isEmpty then 0 else 1) < 30))=true:=by rfl)
  (hline:(apos.endLine == cpos.line)=true:=by rfl) (hs:starEach (e :: es) X.env=(false,eval e X.env) :: starEach es X.env:=by rfl) (hplain:(backTo cpos (starEach es X.env)).any (·.1)=false:=by rfl) (hK:X.K=K:=by rfl) :
  PE X (.Call (.Attribute o name apos) (e :: es) [] cpos) (tBM K T r ta t):=hK ▸ zhY pa slot hty hm ho ha hbase hfew hline hs hplain
noncomputable def z8m:List V→Hp→VK→Prop:=fun xs H Q=>∃ i j,xs=[.int i,.int j]∧Q (.int (if j > i then j else i)) H
theorem zbC (hc:X.calm=true):Z7 X (.builtin "max") z8m:=zcw hc
noncomputable def z8i:List V→Hp→VK→Prop:=fun xs H Q=>∃ i,xs=[.int i]∧Q (.int (if i < 0 then -i else i)) H
theorem zme:Z7 X (.builtin "abs") z8i:=zcs
end
end L2
namespace L2
open PySem PySem.Spec PyProof.Rows
theorem z89 (ns:List Int):∀ n,n≤ns.length→preSum (fun i=>ns.getD i 0) n=(ns.take n).sum
 | 0,_=>rfl
 | n + 1,h=>by
  have e:ns[n]?=some (ns.getD n 0):=by
   rw [List.getD_eq_getElem?_getD,List.getElem?_eq_getElem (by omega)];rfl
  rw [zb0 e,← z89 ns n (by omega)];rfl
theorem z71:∀ {us:List Value} {ns:List Int},IntsAre us ns→∀ {i:Nat} {u:Value},us[i]?=some u→∃ t,u = .int (ns.getD i 0) t
 | _,_,.nil,i,u,h=>by simp at h
 | _,_,.cons n t r,0,u,h=>by
  simp at h
  exact ⟨t,h.symm⟩
 | _,_,.cons n t r,i + 1,u,h=>by
  obtain ⟨t',e⟩:=z71 r (i:=i) (u:=u) (by simpa using h)
  exact ⟨t',by rw [e];rfl⟩
section
variable {P:Program} {w:World} {H:Hp} {h h':Heap} {a:Addr} {o:HO} {fs ex:List Addr}
theorem ObjOk.here (x:ObjOk P w H h a o):∃ ob,h.get? a=some ob:=by
 cases o with
 | lst xs=>obtain ⟨_,_,_,_,e⟩:=x;exact ⟨_,e⟩
 | tup xs=>obtain ⟨_,_,_,ob,e,_⟩:=x;exact ⟨_,e⟩
 | dK kvs=>obtain ⟨_,_,_,_,ob,_,_,e,_⟩:=x;exact ⟨_,e⟩
 | dT kvs=>obtain ⟨_,_,_,_,ob,_,_,e,_⟩:=x;exact ⟨_,e⟩
 | set S n=>obtain ⟨ob,_,_,_,e,_⟩:=x;exact ⟨_,e⟩
 | ins C dx fs=>obtain ⟨_,_,_,e,_⟩:=x;exact ⟨_,e⟩
 | own y=>exact x
 | xd fs=>obtain ⟨_,⟨ob,_,_,e,_⟩,_⟩:=x;exact ⟨_,e⟩
 | rng lo hi=>obtain ⟨_,_,_,e⟩:=x;exact ⟨_,e⟩
 | frz ob u=>exact ⟨_,x.1⟩
 | tbl ps=>exact ⟨_,show h.get? a=some _ from x⟩
 | met f y=>exact ⟨_,show h.get? a=some _ from x⟩
 | ext φ=>exact x.2.1
theorem HOk.none_at (x:HOk P w H h) (n:h.get? a=none):H a=none:=by
 cases q:H a with
 | none=>rfl
 | some u=>
  obtain ⟨ob,e⟩:=(x a u q).here
  rw [n] at e;cases e
theorem Inv.laidAt {X:Cx} {pins:List (Addr × Obj)} {σ : St} {s:Shared} {t':Nat} (I:Inv X pins σ H s) (k:∀ b u,s.heap.get? b=some u→h'.get? b=some u) (np:s.heap.get? a=none) (new:ObjOk X.prog X.w (upd H a o) h' a o) :
  Inv X pins σ (upd H a o) { s with heap:=h',toks:=t' }:=by
 have hn:H a=none:=I.hok.none_at np
 have ne:∀ b u,s.heap.get? b=some u→b≠a:=fun b u e z=>by rw [z,np] at e;cases e
 refine I.un ⟨fun b u e _ _ _=>k b u e,fun b u e _ _ _=>⟨u.slots,k b u e⟩,fun b u e n _=>?_,fun b u e _=>⟨u,k b u e⟩,fun b xs e=>?_,fun b u xs e=>?_,fun b ps e=>⟨#[],?_⟩⟩ fun b u e=>?_
 ·rw [z6 (ne b u e)];exact n
 ·rw [z6 (zd e hn)];exact e
 ·rw [z6 (zd e hn)];exact e
 ·rw [z6 (zd e hn),e];simp
 ·by_cases hb:b=a
  ·subst hb;rw [z9] at e;cases e;exact new
  ·rw [z6 hb] at e
   exact (I.hok b u e).stay (fun c v _ q=>k c v q) (fun c q=>by rw [z6 (zd q hn)];exact q) fun c xs q=>by rw [z6 (zd q hn)];exact q
end
section
variable {prog:Program} {w:World} {A:Around} {E:Value→Shared→Prop} {s:Shared} {Q:Value→Shared→Prop}
theorem zkz {v d:Addr} {vs:List (Key × Value)} {ep:Nat} {ns:List Int} (hh:A.handled=none) (hv:s.heap.IsValuesView v d) (hm:s.heap.DictAt (y9 prog w) d vs ep) (hi:IntsAre (vs.map (·.2)) ns)
  (fin:∀ (g:Heap) (tk:Nat) (t:Tok),(∀ b o,s.heap.get? b=some o→g.get? b=some o)→Q (.int ns.sum t) { s with heap:=g,toks:=tk }):wpAny (model prog w) A (call (.builtin "sum") [.ref v]) Q E s:=by
 have src:=PySem.W.kdl_values (prog:=prog) (w:=w) (knd:=y9 prog w) (r:=v) (d:=d) (kvs:=vs) (ep:=ep)
 have hl:vs.length=ns.length:=by have:=hi.length;rw [List.length_map] at this;exact this
 refine call_sum_walkAnyS ?_
 obtain ⟨oi,Sx,go,walk,s0⟩:=src.iter A.in1 s hh ⟨hv,hm⟩
 apply go
 refine ⟨s.heap.objs.size,_,_,_,vs.length,_,_,fun i=>ns.getD i 0,rfl,walk.toS,s0,?_,?_,?_⟩
 ·intro b hb
  have hd:d < s.heap.objs.size:=(src.there _ ⟨hv,hm⟩).2
  have hz:(s.heap.push oi).objs.size=s.heap.objs.size + 1:=size_push' _ _
  show b < (s.heap.push oi).objs.size
  rw [hz]
  rcases List.mem_cons.mp hb with e | hb
  ·rw [e];exact Nat.lt_succ_self _
  ·rw [List.mem_singleton.mp hb];exact Nat.lt_succ_of_lt hd
 ·rintro i u ⟨key,hu⟩
  exact z71 hi (by rw [List.getElem?_map,hu];rfl)
 ·intro s' t' mvd
  have keep:∀ b o,s.heap.get? b=some o→s'.heap.get? b=some o:=fun b o e=>by
   refine mvd.heap b o (fun hb=>?_) (Heap.get?_push_of_some _ e)
   have:=Heap.lt_size e
   rw [List.mem_singleton.mp hb] at this
   exact Nat.lt_irrefl _ this
  have es:=Moved.eq_with mvd
  rw [es,hl,z89 ns ns.length (Nat.le_refl _),List.take_length]
  exact fin s'.heap s'.toks t' keep
theorem zkq {d:Addr} {vs:List (Key × Value)} {ep:Nat} {ns:List Int} (hh:A.handled=none) (hs:(d == sysModules)=false) (hm:s.heap.DictAt (y9 prog w) d vs ep) (hk:vs.map (·.1)=ns.map Sum.inl) (h64:ns.length < 64)
  (fin:∀ (g:Heap) (tk:Nat) (p:Addr) (out:List Value) (e:Nat) (ns':List Int),(∀ b o,s.heap.get? b=some o→g.get? b=some o)→s.heap.get? p=none→g.get? p=some { cls:=.type "list",data:=.seq out.toArray e }→IntsAre out ns'→ns'.Perm ns→ns'.Pairwise (·≤·) →
   Q (.ref p) { s with heap:=g,toks:=tk }):wpAny (model prog w) A (call (.builtin "sorted") [.ref d]) Q E s:=by
 have src:=PySem.W.kdl_dict (prog:=prog) (w:=w) (knd:=y9 prog w) (d:=d) (kvs:=vs) (ep:=ep) hs
 have hl:vs.length=ns.length:=by have:=congrArg List.length hk;simpa using this
 refine Calls.call_function_entry kind_sorted plain_sorted entry_sorted (args_sorted1 _) ?_
 unfold Builtin.«sorted»
 refine wpAny_bind (m:=checkCount _ _ _ _) (wpAny_pure ?_)
 refine wpAny_bind (PySem.W.kdu_collect (A:=A.in1) src hh hm (by rw [hl];exact z5b h64) fun g tk acc keep items=>?_)
 have hi:IntsAre acc.toList ns:=by
  have:∀ (us:List Value) (ms:List Int),us.length=ms.length→(∀ (j:Nat) (u:Value),us[j]?=some u→∃ t,u = .int (ms.getD j 0) t)→IntsAre us ms:=by
   intro us
   induction us with
   | nil=>intro ms e _;cases ms with | nil=>exact .nil | cons _ _=>cases e
   | cons u us ih=>
    intro ms e hu
    cases ms with
    | nil=>cases e
    | cons n ms=>
     obtain ⟨t,rfl⟩:=hu 0 u rfl
     exact .cons n t (ih ms (by simpa using e) fun j z hz=>hu (j + 1) z (by simpa using hz))
  refine this _ _ (by rw [Array.length_toList,items.1,hl]) fun j u hu=>?_
  obtain ⟨k,x,hx,hkk⟩:=items.2 j u (by rw [← Array.getElem?_toList];exact hu)
  have e1:(ns.map (Sum.inl:Int→Key))[j]?=some k:=by rw [← hk,List.getElem?_map,hx];rfl
  rw [List.getElem?_map] at e1
  cases e2:ns[j]? with
  | none=>rw [e2] at e1;cases e1
  | some n=>
   rw [e2] at e1
   have e1:Sum.inl n=k:=Option.some.inj e1
   rcases ZV (show Y9 k u=true from hkk) with ⟨i,t,ek,eu⟩ | ⟨x',t,ek,eu⟩
   ·rw [← e1] at ek
    have:n=i:=Sum.inl.inj ek
    exact ⟨t,by rw [eu,List.getD_eq_getElem?_getD,e2,this];rfl⟩
   ·rw [← e1] at ek;cases ek
 have hlen:acc.toList.length=ns.length:=hi.length
 refine wpAny_bind (wpAny_newList ?_ (by rw [hlen];exact z5b h64))
 have hob:(g.push { cls:=.type "list",data:=.seq acc.toList.toArray }).get? g.objs.size=some (seqObj "list" acc.toList.toArray 0):=Heap.get?_push_size _ rfl
 refine wpAny_bind (wpAny_holding (wpAny_call_entry slot_list_sort ⟨_,hob,rfl⟩ entry_list_sort (list_sort_tree hob hi (by rw [hlen];exact h64) fun out ns' h1 h2 h3=>⟨_,rfl,?_⟩) (args_list_sort _)))
 obtain ⟨e,he⟩:=sortedHeap_at (vs:=acc.toList) (out:=out) hob
 refine wpAny_pure ⟨_,rfl,fin _ _ _ out.toList e ns' (fun b o q=>?_) ?_ he h1 h2 h3⟩
 ·have q1:=keep b o q
  have q2:=Heap.lt_size q1
  rw [sortedHeap_old (Nat.ne_of_lt q2) (by rw [size_push'];exact Nat.lt_succ_of_lt q2)]
  exact Heap.get?_push_of_some _ q1
 ·cases q:s.heap.get? g.objs.size with
  | none=>rfl
  | some o=>exact absurd (Heap.lt_size (keep _ _ q)) (Nat.lt_irrefl _)
end
section
variable {X:Cx}
noncomputable def z0j (v d:Addr):Heap→Prop:=fun h=>h.get? v=some { cls:=.type "dict_values",data:=.fields #[.ref d] }
noncomputable def zb9 (td:TE):TE:=fun σ H Q=>td σ H fun x H1=>∃ d kvs,x = .ref d∧Rd H1 d (.dK kvs)∧∀ v,H1 v=none→Q (.ref v) (upd H1 v (.ext (z0j v d)))
theorem zi3 {e:Expr} {td:TE} {apos cpos:Pos} (he:PE X e td) (hbase:attributeBase e "values" X.env (eval e X.env)=eval e X.env:=by rfl) (hline:(apos.endLine == cpos.line)=true:=by rfl) :
  PE X (.Call (.Attribute e "values" apos) [] [] cpos) (zb9 td):=by
 intro pins s σ H Q I h
 refine wpAny_Call_method (T:="dict") (id:="dict.values") hbase rfl hline F.plainAttrs_dict F.slot_dict_values F.type_dict_values (thn (he pins s σ H _ I h) fun u s1 ⟨x,H1,I1,rx,d,kvs,ex,hd,q⟩=>?_)
 subst ex
 obtain rfl:u=Value.ref d:=rx
 obtain ⟨hz,hs,vs,rel,dd⟩:=ZC I1.hok hd
 refine ⟨dd.typeIs,dd.mapOf.noDict,?_⟩
 have hf:H1 s1.heap.objs.size=none:=I1.hok.fresh (Nat.le_refl _)
 have I2:=I1.laid (a:=s1.heap.objs.size) (o:=.ext (z0j s1.heap.objs.size d)) (h':=s1.heap.push { cls:=.type "dict_values",data:=.fields #[.ref d] }) (t':=s1.toks) (fun b ob q=>Heap.get?_push_of_some _ q) (Nat.le_refl _)
  ⟨Heap.get?_push_size _ rfl,⟨_,Heap.get?_push_size _ rfl⟩,fun h1 h2 e1 k=>k _ e1⟩
 show wpAny _ _ (callWith cpos (.builtin "dict.values") [.ref d] [] []) _ X.xe s1
 exact method_meetsIn F.slot_dict_values F.entry_dict_values rfl (PySem.evalArgs_none ⟨rfl,dd.typeIs,F.args_dict_values_1 _,_,meets_dict_values (y9 X.prog X.w) d hs,⟨vs,dd⟩,⟨.ref s1.heap.objs.size,_,I2,rfl,q _ hf⟩⟩)
theorem z7a:∀ {kvs:List (Key × V)} {vs:List (Key × Value)} {ns:List Int},KV kvs vs→kvs.map (·.2)=ns.map V.int→IntsAre (vs.map (·.2)) ns
 | _,_,[],.nil,_=>.nil
 | _,_,_ :: _,.nil,e=>by cases e
 | _,_,[],.cons _ _,e=>by cases e
 | _,_,n :: ns,.cons (a:=p) (b:=q) r t,e=>by
  rw [List.map_cons,List.map_cons,List.cons.injEq] at e
  obtain ⟨e1,e2⟩:=e
  have r2:=r.2
  rw [e1] at r2
  obtain ⟨tk,hq⟩:=r2
  rw [List.map_cons,hq]
  exact .cons n tk (z7a t e2)
theorem zcx (hc:X.calm=true):Z7 X (.builtin "sum") (fun xs H Q=>∃ v d kvs,∃ ns:List Int,xs=[V.ref v]∧H v=some (.ext (z0j v d))∧Rd H d (.dK kvs)∧kvs.map (·.2)=ns.map V.int∧Q (.int ns.sum) H):=by
 intro pins s σ H xs us Q I r h
 obtain ⟨v,d,kvs,ns,rfl,hv,hd,en,q⟩:=h
 obtain ⟨u,rfl,ru⟩:=jR r
 cases ru
 obtain ⟨hz,hs,vs,rel,dd⟩:=ZC I.hok hd
 obtain ⟨ep,hat⟩:=dd.dictAt
 have hview:z0j v d s.heap:=(I.hok v _ hv).1
 exact zkz (I.ok.hd hc) ⟨_,hview,rfl,rfl⟩ hat (z7a rel en) fun g tk t keep=>⟨.int ns.sum,H,I.kept keep,⟨t,rfl⟩,q⟩
theorem zia {e:Expr} {td:TE} {p pos apos cpos:Pos} (hc:X.calm=true) (hg:Gl X "sum") (hm:X.mg "sum" = none) (he:PE X e td)
  (hbase:attributeBase e "values" X.env (eval e X.env)=eval e X.env:=by rfl) (hline:(apos.endLine == cpos.line)=true:=by rfl)
  (hst:starEach [.Call (.Attribute e "values" apos) [] [] cpos] X.env=(false,eval (.Call (.Attribute e "values" apos) [] [] cpos) X.env) :: starEach [] X.env:=by rfl) :
  PE X (.Call (.Name "sum" p) [.Call (.Attribute e "values" apos) [] [] cpos] [] pos) (tCB (fun xs H Q=>∃ v d kvs,∃ ns:List Int,xs=[V.ref v]∧H v=some (.ext (z0j v d))∧Rd H d (.dK kvs)∧kvs.map (·.2)=ns.map V.int∧Q (.int ns.sum) H) (Yj (zb9 td) ZO)) :=
 yn (zcx hc) hg hm zcp (z0 (zi3 he hbase hline) z8 hst)
theorem z6a (hc:X.calm=true):Z7 X (.builtin "sorted") (fun xs H Q=>∃ a kvs,∃ ns:List Int,xs=[V.ref a]∧Rd H a (.dK kvs)∧kvs.map (·.1)=ns.map Sum.inl∧ns.length < 64 ∧
  ∀ (ns':List Int) (p:Addr),ns'.Perm ns→ns'.Pairwise (·≤·)→H p=none→Q (.ref p) (upd H p (.lst (ns'.map V.int)))):=by
 intro pins s σ H xs us Q I r h
 obtain ⟨a,kvs,ns,rfl,hd,en,h64,q⟩:=h
 obtain ⟨u,rfl,ru⟩:=jR r
 cases ru
 obtain ⟨hz,hs,vs,rel,dd⟩:=ZC I.hok hd
 obtain ⟨ep,hat⟩:=dd.dictAt
 refine zkq (I.ok.hd hc) hs hat (by rw [← rel.keys];exact en) h64 fun g tk p out e ns' keep hp hg h1 h2 h3=>?_
 have hlen:(ns'.map V.int).length≤sizeLine:=by rw [List.length_map,h2.length_eq];exact z5b h64
 exact ⟨.ref p,upd H p (.lst (ns'.map V.int)),I.laidAt (t':=tk) keep hp ⟨hlen,out,e,zbw h1,hg⟩,rfl,q ns' p h2 h3 (I.hok.none_at hp)⟩
end
end L2
namespace Hy
open PySem L2 Hx
noncomputable def dI (l:List (Int × Int)):List (Key × V):=l.map fun p=>(Sum.inl p.1,V.int p.2)
theorem z5B (l:List (Int × Int)) (k:Int):yu (dI l) (Sum.inl k)=(gI l k).map V.int:=by
 induction l with
 | nil=>rfl
 | cons p l ih=>
  show yu ((Sum.inl p.1,V.int p.2) :: dI l) (Sum.inl k)=_
  rw [yJ]
  by_cases h:p.1=k
  ·rw [if_pos h,z0h (by dsimp only;rw [h])];rfl
  ·rw [if_neg h,z0g (fun q=>h (Sum.inl.inj q)),ih]
theorem zc5 (l:List (Int × Int)) (k:Int):((dI l).any fun kv=>decide (kv.1=(Sum.inl k:Key)))=l.any fun p=>decide (p.1=k):=by
 unfold dI
 rw [List.any_map]
 congr 1
 funext p
 show decide ((Sum.inl p.1:Key)=Sum.inl k)=decide (p.1=k)
 by_cases h:p.1=k
 ·rw [h];simp
 ·rw [decide_eq_false h,decide_eq_false (fun q=>h (Sum.inl.inj q))]
theorem z8f (l:List (Int × Int)) (k v:Int):yB (dI l) (Sum.inl k) (V.int v)=dI (zP l k v):=by
 unfold yB zP
 rw [zc5]
 split
 ·unfold dI
  rw [List.map_map,List.map_map]
  apply List.map_congr_left
  intro p _
  show (if (Sum.inl p.1:Key)=Sum.inl k then ((Sum.inl p.1:Key),V.int v) else (Sum.inl p.1,V.int p.2))=(Sum.inl (if p.1=k then (p.1,v) else p).1,V.int (if p.1=k then (p.1,v) else p).2)
  by_cases h:p.1=k
  ·rw [if_pos (by rw [h]),if_pos h]
  ·rw [if_neg (fun q=>h (Sum.inl.inj q)),if_neg h]
 ·unfold dI;rw [List.map_append];rfl
theorem YJ (l:List (Int × Int)):(dI l).length=l.length:=by unfold dI;rw [List.length_map]
theorem zcM (l:List (Int × Int)):(dI l).map (·.1)=(l.map (·.1)).map Sum.inl:=by unfold dI;rw [List.map_map,List.map_map];rfl
theorem zcN (l:List (Int × Int)):(dI l).map (·.2)=(l.map (·.2)).map V.int:=by unfold dI;rw [List.map_map,List.map_map];rfl
inductive Nm where
 | house | pr | cl | ca | tr | sp
 | con (i:Nat) | held (i:Nat) | run (i:Nat) | base (i:Nat) | asg (i:Nat)
 | trd (k:Int)
 deriving DecidableEq
structure Lay where
 ad:Nm→Addr
 own:Nm→Addr
structure Cs where
 run:Addr
 con:Addr
 trd:Addr
 hou:Addr
noncomputable def zC (t:Int) (p c a r s:Addr):List (Str × V):=[("turn",.int t),("prices",.ref p),("contracts",.ref c),("cash",.ref a),("trades",.ref r),("spent",.ref s)]
noncomputable def zQ (b a:Addr) (tot cnt:Int):List (Str × V):=[("base",.ref b),("total",.int tot),("assigned",.ref a),("count",.int cnt)]
noncomputable def zG (num kind under strike mult expiry:Int) (over:Bool) (h r:Addr) (ex:Int):List (Str × V) :=
 [("number",.int num),("kind",.int kind),("underlying",.int under),("strike",.int strike),("multiple",.int mult),("expiry",.int expiry),("over",.bl over),("held",.ref h),("run",.ref r),("exercised",.int ex)]
noncomputable def zJ (c:Addr) (buyer seller lots price:Int) (yb ys:Bool) (taker side exb:Int):List (Str × V) :=
 [("contract",.ref c),("buyer",.int buyer),("seller",.int seller),("lots",.int lots),("price",.int price),("buyer_agreed",.bl yb),("seller_agreed",.bl ys),("taker",.int taker),("offered_side",.int side),("exercised_before",.int exb)]
noncomputable def yi (L:Lay) (i:Nat) (k:ConM):List (Str × V):=zG ((i:Int) + 1) k.kind k.under k.strike k.mult k.expiry k.over (L.ad (.held i)) (L.ad (.run i)) k.exd
noncomputable def yZ (L:Lay) (i:Nat) (R:RunM):List (Str × V):=zQ (L.ad (.base i)) (L.ad (.asg i)) R.total R.count
noncomputable def Zl (L:Lay) (x:TrdM):List (Str × V):=zJ (L.ad (.con x.con)) x.buyer x.seller x.lots x.price x.yb x.ys x.taker x.side x.exb
noncomputable def cont (C:Cs) (L:Lay) (m:HouM):Nm→Option HO
 | .house=>some (.ins C.hou (L.own .house) (zC m.turn (L.ad .pr) (L.ad .cl) (L.ad .ca) (L.ad .tr) (L.ad .sp)))
 | .pr=>some (.lst (m.prices.map V.int))
 | .cl=>some (.lst ((List.range m.cons.length).map fun i=>V.ref (L.ad (.con i))))
 | .ca=>some (.lst (m.cash.map V.int))
 | .tr=>some (.dK (m.trades.map fun p=>(Sum.inl p.1,V.ref (L.ad (.trd p.1)))))
 | .sp=>some (.dK (m.spent.map fun k=>(Sum.inl k,V.bl true)))
 | .con i=>(m.cons[i]?).map fun k=>.ins C.con (L.own (.con i)) (yi L i k)
 | .held i=>(m.cons[i]?).map fun k=>.dK (dI k.held)
 | .run i=>(m.cons[i]?).map fun k=>.ins C.run (L.own (.run i)) (yZ L i k.run)
 | .base i=>(m.cons[i]?).map fun k=>.dK (dI k.run.base)
 | .asg i=>(m.cons[i]?).map fun k=>.dK (dI k.run.asg)
 | .trd key=>(gI m.trades key).map fun x=>.ins C.trd (L.own (.trd key)) (Zl L x)
structure Hs (C:Cs) (H:Hp) (L:Lay) (m:HouM):Prop where
 at_:∀ n o,cont C L m n=some o→H (L.ad n)=some o
 inj:∀ n n',(cont C L m n).isSome=true→(cont C L m n').isSome=true→L.ad n=L.ad n'→n=n'
noncomputable def Step (C:Cs) (H:Hp) (L:Lay) (m:HouM) (H':Hp) (L':Lay) (m':HouM):Prop :=
 ∀ b o,H b=some o→(∀ n,(cont C L m n).isSome=true→L.ad n≠b)→H' b=some o∧∀ n,(cont C L' m' n).isSome=true→L'.ad n≠b
section
variable {C:Cs} {H H' H2:Hp} {L L' L2:Lay} {m m' m2:HouM}
theorem Step.refl:Step C H L m H L m:=fun b o e h=>⟨e,h⟩
theorem Step.trans (a:Step C H L m H' L' m') (b:Step C H' L' m' H2 L2 m2):Step C H L m H2 L2 m2:=fun c o e h=>b c o (a c o e h).1 (a c o e h).2
theorem Hs.house (h:Hs C H L m):H (L.ad .house)=some (.ins C.hou (L.own .house) (zC m.turn (L.ad .pr) (L.ad .cl) (L.ad .ca) (L.ad .tr) (L.ad .sp))):=h.at_ .house _ rfl
theorem Hs.pr (h:Hs C H L m):H (L.ad .pr)=some (.lst (m.prices.map V.int)):=h.at_ .pr _ rfl
theorem Hs.cl (h:Hs C H L m):H (L.ad .cl)=some (.lst ((List.range m.cons.length).map fun i=>V.ref (L.ad (.con i)))):=h.at_ .cl _ rfl
theorem Hs.ca (h:Hs C H L m):H (L.ad .ca)=some (.lst (m.cash.map V.int)):=h.at_ .ca _ rfl
theorem Hs.tr (h:Hs C H L m):H (L.ad .tr)=some (.dK (m.trades.map fun p=>(Sum.inl p.1,V.ref (L.ad (.trd p.1))))):=h.at_ .tr _ rfl
theorem Hs.sp (h:Hs C H L m):H (L.ad .sp)=some (.dK (m.spent.map fun k=>(Sum.inl k,V.bl true))):=h.at_ .sp _ rfl
theorem Hs.con (h:Hs C H L m) {i:Nat} {k:ConM} (e:m.cons[i]?=some k):H (L.ad (.con i))=some (.ins C.con (L.own (.con i)) (yi L i k)):=h.at_ (.con i) _ (by show (m.cons[i]?).map _=_;rw [e];rfl)
theorem Hs.held (h:Hs C H L m) {i:Nat} {k:ConM} (e:m.cons[i]?=some k):H (L.ad (.held i))=some (.dK (dI k.held)):=h.at_ (.held i) _ (by show (m.cons[i]?).map _=_;rw [e];rfl)
theorem Hs.run (h:Hs C H L m) {i:Nat} {k:ConM} (e:m.cons[i]?=some k):H (L.ad (.run i))=some (.ins C.run (L.own (.run i)) (yZ L i k.run)):=h.at_ (.run i) _ (by show (m.cons[i]?).map _=_;rw [e];rfl)
theorem Hs.base (h:Hs C H L m) {i:Nat} {k:ConM} (e:m.cons[i]?=some k):H (L.ad (.base i))=some (.dK (dI k.run.base)):=h.at_ (.base i) _ (by show (m.cons[i]?).map _=_;rw [e];rfl)
theorem Hs.asg (h:Hs C H L m) {i:Nat} {k:ConM} (e:m.cons[i]?=some k):H (L.ad (.asg i))=some (.dK (dI k.run.asg)):=h.at_ (.asg i) _ (by show (m.cons[i]?).map _=_;rw [e];rfl)
theorem Hs.trd (h:Hs C H L m) {key:Int} {x:TrdM} (e:gI m.trades key=some x):H (L.ad (.trd key))=some (.ins C.trd (L.own (.trd key)) (Zl L x)):=h.at_ (.trd key) _ (by show (gI m.trades key).map _=_;rw [e];rfl)
theorem Hs.same (h:Hs C H L m) (k:∀ b o,H b=some o→H' b=some o):Hs C H' L m:=⟨fun n o e=>k _ _ (h.at_ n o e),h.inj⟩
theorem Hs.some_at (h:Hs C H L m) {n:Nm} (e:(cont C L m n).isSome=true):∃ o,H (L.ad n)=some o:=by
 cases q:cont C L m n with
 | none=>rw [q] at e;cases e
 | some o=>exact ⟨o,h.at_ n o q⟩
theorem Hs.relay (h:Hs C H L m) (S:Nm→Prop)
  (off:∀ n o,¬ S n→cont C L' m' n=some o→L'.ad n=L.ad n∧(cont C L m n).isSome=true∧H' (L.ad n)=some o)
  (on:∀ n o,S n→cont C L' m' n=some o→H' (L'.ad n)=some o∧((L'.ad n=L.ad n∧(cont C L m n).isSome=true)∨H (L'.ad n)=none))
  (inj:∀ n n',S n→S n'→(cont C L' m' n).isSome=true→(cont C L' m' n').isSome=true→H (L'.ad n)=none→L'.ad n=L'.ad n'→n=n'):Hs C H' L' m':=by
 have cls:∀ n,(cont C L' m' n).isSome=true→(L'.ad n=L.ad n∧(cont C L m n).isSome=true)∨(S n∧H (L'.ad n)=none):=fun n e=>by
  cases q:cont C L' m' n with
  | none=>rw [q] at e;cases e
  | some o=>
   by_cases hs:S n
   ·rcases (on n o hs q).2 with z | z
    ·exact .inl z
    ·exact .inr ⟨hs,z⟩
   ·exact .inl ⟨(off n o hs q).1,(off n o hs q).2.1⟩
 refine ⟨fun n o e=>?_,fun n n' e e' q=>?_⟩
 ·by_cases hs:S n
  ·exact (on n o hs e).1
  ·rw [(off n o hs e).1];exact (off n o hs e).2.2
 ·rcases cls n e with ⟨a1,a2⟩ | ⟨a1,a2⟩
  ·rcases cls n' e' with ⟨b1,b2⟩ | ⟨b1,b2⟩
   ·exact h.inj n n' a2 b2 (by rw [← a1,← b1];exact q)
   ·obtain ⟨o,ho⟩:=h.some_at a2
    rw [← q,a1,ho] at b2;cases b2
  ·rcases cls n' e' with ⟨b1,b2⟩ | ⟨b1,b2⟩
   ·obtain ⟨o,ho⟩:=h.some_at b2
    rw [q,b1,ho] at a2;cases a2
   ·exact inj n n' a1 b1 e e' a2 q
theorem Hs.relayStep (S:Nm→Prop) (sub:∀ n,(cont C L' m' n).isSome=true→(L'.ad n=L.ad n∧(cont C L m n).isSome=true)∨H (L'.ad n)=none)
  (fr:∀ b o,H b=some o→(∀ n,(cont C L m n).isSome=true→L.ad n≠b)→H' b=some o):Step C H L m H' L' m':=fun b o e hb=>⟨fr b o e hb,fun n hn q=>by
 rcases sub n hn with ⟨z1,z2⟩ | z
 ·exact hb n z2 (by rw [← z1];exact q)
 ·rw [q,e] at z;cases z⟩
theorem Hs.upd1 (h:Hs C H L m) {n:Nm} {o:HO} (hl:(cont C L m n).isSome=true) (hn:cont C L m' n=some o) (hc:∀ n',n'≠n→cont C L m' n'=cont C L m n'):Hs C (upd H (L.ad n) o) L m'∧Step C H L m (upd H (L.ad n) o) L m':=by
 have live:∀ n',(cont C L m' n').isSome=true→(cont C L m n').isSome=true:=fun n' e=>by
  by_cases q:n'=n
  ·rw [q];exact hl
  ·rw [← hc n' q];exact e
 refine ⟨⟨fun n' o' e=>?_,fun a b ea eb q=>h.inj a b (live a ea) (live b eb) q⟩,fun b o' e hb=>⟨?_,fun n' e'=>hb n' (live n' e')⟩⟩
 ·by_cases q:n'=n
  ·subst q
   rw [hn] at e;cases e
   exact z9
  ·have e1:=e
   rw [hc n' q] at e
   rw [z6 (fun z=>q (h.inj n' n (by rw [e];rfl) hl z))]
   exact h.at_ n' o' e
 ·rw [z6 (fun z=>hb n hl z.symm)];exact e
theorem Hs.beside (h:Hs C H L m) {p:Addr} {o:HO} (hp:H p=none):Hs C (upd H p o) L m:=h.same fun b u e=>by
 rw [z6 (zd e hp)];exact e
theorem Step.beside {p:Addr} {o:HO} (hp:H p=none):Step C H L m (upd H p o) L m:=fun b u e hb=>⟨by rw [z6 (zd e hp)];exact e,hb⟩
theorem Hs.free (h:Hs C H L m) {p:Addr} (hp:H p=none):∀ n,(cont C L m n).isSome=true→L.ad n≠p:=fun n e q=>by
 obtain ⟨o,ho⟩:=h.some_at e
 rw [q,hp] at ho;cases ho
end
end Hy
namespace Hy
open PySem L2 Hx
section
variable {C:Cs} {H H':Hp} {L L':Lay} {m:HouM} {i:Nat} {k k':ConM}
theorem jo {α : Type} {l:List α} {i:Nat} {x y : α} (h:l[i]?=some x) (j:Nat):(l.set i y)[j]?=if i=j then some y else l[j]?:=by
 have hl:=(List.getElem?_eq_some_iff.mp h).1
 by_cases e:i=j
 ·subst e;rw [if_pos rfl,List.getElem?_set_self hl]
 ·rw [if_neg e,List.getElem?_set_ne e]
theorem J2 (hk:m.cons[i]?=some k) {n:Nm} (h1:n = .con i→yi L i k'=yi L i k) (h2:n = .held i→k'.held=k.held) (h3:n = .run i→yZ L i k'.run=yZ L i k.run) (h4:n = .base i→k'.run.base=k.run.base) (h5:n = .asg i→k'.run.asg=k.run.asg) :
  cont C L { m with cons:=m.cons.set i k' } n=cont C L m n:=by
 cases n with
 | house=>rfl
 | pr=>rfl
 | cl=>show some (HO.lst ((List.range (m.cons.set i k').length).map _))=_;rw [List.length_set];rfl
 | ca=>rfl
 | tr=>rfl
 | sp=>rfl
 | trd key=>rfl
 | con j=>
  show ((m.cons.set i k')[j]?).map _=(m.cons[j]?).map _
  rw [jo hk]
  by_cases e:i=j
  ·subst e;rw [if_pos rfl,hk]
   show some (HO.ins _ _ (yi L i k'))=some (HO.ins _ _ (yi L i k))
   rw [h1 rfl]
  ·rw [if_neg e]
 | held j=>
  show ((m.cons.set i k')[j]?).map _=(m.cons[j]?).map _
  rw [jo hk]
  by_cases e:i=j
  ·subst e;rw [if_pos rfl,hk]
   show some (HO.dK (dI k'.held))=some (HO.dK (dI k.held))
   rw [h2 rfl]
  ·rw [if_neg e]
 | run j=>
  show ((m.cons.set i k')[j]?).map _=(m.cons[j]?).map _
  rw [jo hk]
  by_cases e:i=j
  ·subst e;rw [if_pos rfl,hk]
   show some (HO.ins _ _ (yZ L i k'.run))=some (HO.ins _ _ (yZ L i k.run))
   rw [h3 rfl]
  ·rw [if_neg e]
 | base j=>
  show ((m.cons.set i k')[j]?).map _=(m.cons[j]?).map _
  rw [jo hk]
  by_cases e:i=j
  ·subst e;rw [if_pos rfl,hk]
   show some (HO.dK (dI k'.run.base))=some (HO.dK (dI k.run.base))
   rw [h4 rfl]
  ·rw [if_neg e]
 | asg j=>
  show ((m.cons.set i k')[j]?).map _=(m.cons[j]?).map _
  rw [jo hk]
  by_cases e:i=j
  ·subst e;rw [if_pos rfl,hk]
   show some (HO.dK (dI k'.run.asg))=some (HO.dK (dI k.run.asg))
   rw [h5 rfl]
  ·rw [if_neg e]
theorem j3 (hk:m.cons[i]?=some k):(cont C L m (.con i)).isSome=true:=by show ((m.cons[i]?).map _).isSome=true;rw [hk];rfl
theorem zfo (hk:m.cons[i]?=some k):(cont C L m (.held i)).isSome=true:=by show ((m.cons[i]?).map _).isSome=true;rw [hk];rfl
theorem z7e (hk:m.cons[i]?=some k):(cont C L m (.run i)).isSome=true:=by show ((m.cons[i]?).map _).isSome=true;rw [hk];rfl
theorem z43 (hk:m.cons[i]?=some k):(cont C L m (.asg i)).isSome=true:=by show ((m.cons[i]?).map _).isSome=true;rw [hk];rfl
theorem YC (hk:m.cons[i]?=some k) (k':ConM):({ m with cons:=m.cons.set i k' }:HouM).cons[i]?=some k':=by
 show (m.cons.set i k')[i]?=some k'
 rw [jo hk,if_pos rfl]
theorem Hs.setHeld (h:Hs C H L m) (hk:m.cons[i]?=some k) (l:List (Int × Int)):Hs C (upd H (L.ad (.held i)) (.dK (dI l))) L { m with cons:=m.cons.set i { k with held:=l } }∧Step C H L m (upd H (L.ad (.held i)) (.dK (dI l))) L { m with cons:=m.cons.set i { k with held:=l } }:=by
 refine h.upd1 (zfo hk) ?_ fun n hn=>J2 hk (fun _=>rfl) (fun q=>absurd q hn) (fun _=>rfl) (fun _=>rfl) fun _=>rfl
 show (({ m with cons:=m.cons.set i { k with held:=l } }:HouM).cons[i]?).map _=_
 rw [YC hk];rfl
theorem Hs.setCash (h:Hs C H L m) (l:List Int):Hs C (upd H (L.ad .ca) (.lst (l.map V.int))) L { m with cash:=l }∧Step C H L m (upd H (L.ad .ca) (.lst (l.map V.int))) L { m with cash:=l } :=
 h.upd1 rfl rfl fun n hn=>by cases n <;> first | rfl | exact absurd rfl hn
theorem Hs.setPrices (h:Hs C H L m) (l:List Int):Hs C (upd H (L.ad .pr) (.lst (l.map V.int))) L { m with prices:=l }∧Step C H L m (upd H (L.ad .pr) (.lst (l.map V.int))) L { m with prices:=l } :=
 h.upd1 rfl rfl fun n hn=>by cases n <;> first | rfl | exact absurd rfl hn
theorem Hs.setExd (h:Hs C H L m) (hk:m.cons[i]?=some k) (x:Int):Hs C (upd H (L.ad (.con i)) (.ins C.con (L.own (.con i)) (yi L i { k with exd:=x }))) L { m with cons:=m.cons.set i { k with exd:=x } } ∧
  Step C H L m (upd H (L.ad (.con i)) (.ins C.con (L.own (.con i)) (yi L i { k with exd:=x }))) L { m with cons:=m.cons.set i { k with exd:=x } }:=by
 refine h.upd1 (j3 hk) ?_ fun n hn=>J2 hk (fun q=>absurd q hn) (fun _=>rfl) (fun _=>rfl) (fun _=>rfl) fun _=>rfl
 show (({ m with cons:=m.cons.set i { k with exd:=x } }:HouM).cons[i]?).map _=_
 rw [YC hk];rfl
theorem Hs.setTrd (h:Hs C H L m) {key:Int} {x:TrdM} (hx:gI m.trades key=some x) (x':TrdM):Hs C (upd H (L.ad (.trd key)) (.ins C.trd (L.own (.trd key)) (Zl L x'))) L { m with trades:=zP m.trades key x' } ∧
  Step C H L m (upd H (L.ad (.trd key)) (.ins C.trd (L.own (.trd key)) (Zl L x'))) L { m with trades:=zP m.trades key x' }:=by
 have hm:key∈m.trades.map (·.1):=by
  apply Classical.byContradiction
  intro q
  rw [Zp.mpr q] at hx;cases hx
 refine h.upd1 (by show ((gI m.trades key).map _).isSome=true;rw [hx];rfl) ?_ fun n hn=>?_
 ·show (gI (zP m.trades key x') key).map _=_
  rw [JQ,if_pos rfl];rfl
 ·cases n with
  | tr=>
   show some (HO.dK ((zP m.trades key x').map _))=some (HO.dK (m.trades.map _))
   have e:∀ l:List (Int × TrdM),l.map (fun p=>((Sum.inl p.1:Key),V.ref (L.ad (.trd p.1))))=(l.map (·.1)).map fun a=>(Sum.inl a,V.ref (L.ad (.trd a))):=fun l=>by rw [List.map_map];rfl
   rw [e,e,z01,if_pos hm]
  | trd key'=>
   show (gI (zP m.trades key x') key').map _=(gI m.trades key').map _
   rw [JQ,if_neg (fun q=>hn (by rw [q]))]
  | _=>rfl
end
end Hy
namespace Hy
open PySem L2 Hx
section
variable {C:Cs} {H H':Hp} {L:Lay} {m:HouM} {i:Nat} {k:ConM}
noncomputable def Lay.setRun (L:Lay) (i:Nat) (r b a dx:Addr):Lay:=⟨fun n=>if n = .run i then r else if n = .base i then b else if n = .asg i then a else L.ad n,fun n=>if n = .run i then dx else L.own n⟩
theorem jM {r b a dx:Addr}:(L.setRun i r b a dx).ad (.run i)=r:=if_pos rfl
theorem jL {r b a dx:Addr}:(L.setRun i r b a dx).ad (.base i)=b:=by
 show (if Nm.base i = .run i then r else if Nm.base i = .base i then b else _)=b
 rw [if_neg (by intro q;cases q),if_pos rfl]
theorem jK {r b a dx:Addr}:(L.setRun i r b a dx).ad (.asg i)=a:=by
 show (if Nm.asg i = .run i then r else if Nm.asg i = .base i then b else if Nm.asg i = .asg i then a else _)=a
 rw [if_neg (by intro q;cases q),if_neg (by intro q;cases q),if_pos rfl]
theorem Zu {r b a dx:Addr} {n:Nm} (h1:n≠.run i) (h2:n≠.base i) (h3:n≠.asg i):(L.setRun i r b a dx).ad n=L.ad n:=by
 show (if n = .run i then r else if n = .base i then b else if n = .asg i then a else L.ad n)=_
 rw [if_neg h1,if_neg h2,if_neg h3]
theorem zkw {r b a dx:Addr}:(L.setRun i r b a dx).own (.run i)=dx:=if_pos rfl
theorem zkx {r b a dx:Addr} {n:Nm} (h1:n≠.run i):(L.setRun i r b a dx).own n=L.own n:=if_neg h1
theorem zcF (hk:m.cons[i]?=some k) {k':ConM} (hh:k'.held=k.held) {r b a dx:Addr} {n:Nm} (h0:n≠.con i) (h1:n≠.run i) (h2:n≠.base i) (h3:n≠.asg i) :
  cont C (L.setRun i r b a dx) { m with cons:=m.cons.set i k' } n=cont C L m n:=by
 have e:cont C (L.setRun i r b a dx) { m with cons:=m.cons.set i k' } n=cont C L { m with cons:=m.cons.set i k' } n:=by
  cases n with
  | house=>rfl
  | pr=>rfl
  | cl=>rfl
  | ca=>rfl
  | tr=>rfl
  | sp=>rfl
  | trd key=>rfl
  | con j=>
   have hj:j≠i:=fun q=>h0 (by rw [q])
   show (_:Option ConM).map _=(_:Option ConM).map _
   congr 1
   funext k2
   show HO.ins C.con (L.own (.con j)) (yi (L.setRun i r b a dx) j k2)=HO.ins C.con (L.own (.con j)) (yi L j k2)
   unfold yi
   rw [Zu (n:=.held j) (by intro q;cases q) (by intro q;cases q) (by intro q;cases q),Zu (n:=.run j) (by intro q;injection q with q;exact hj q) (by intro q;cases q) (by intro q;cases q)]
  | held j=>rfl
  | run j=>
   have hj:j≠i:=fun q=>h1 (by rw [q])
   show (_:Option ConM).map _=(_:Option ConM).map _
   congr 1
   funext k2
   show HO.ins C.run ((L.setRun i r b a dx).own (.run j)) (yZ (L.setRun i r b a dx) j k2.run)=HO.ins C.run (L.own (.run j)) (yZ L j k2.run)
   unfold yZ
   rw [zkx (by intro q;injection q with q;exact hj q),Zu (n:=.base j) (by intro q;cases q) (by intro q;injection q with q;exact hj q) (by intro q;cases q),Zu (n:=.asg j) (by intro q;cases q) (by intro q;cases q) (by intro q;injection q with q;exact hj q)]
  | base j=>rfl
  | asg j=>rfl
 rw [e]
 exact J2 hk (fun q=>absurd q h0) (fun _=>hh) (fun q=>absurd q h1) (fun q=>absurd q h2) fun q=>absurd q h3
theorem JU (hk:m.cons[i]?=some k) {L':Lay} {k':ConM} {n:Nm} (h:(cont C L' { m with cons:=m.cons.set i k' } n).isSome=true):(cont C L m n).isSome=true:=by
 have e:∀ j:Nat,((m.cons.set i k')[j]?).isSome=(m.cons[j]?).isSome:=fun j=>by
  rw [jo hk]
  by_cases q:i=j
  ·subst q;rw [if_pos rfl,hk];rfl
  ·rw [if_neg q]
 cases n with
 | house=>rfl
 | pr=>rfl
 | cl=>rfl
 | ca=>rfl
 | tr=>rfl
 | sp=>rfl
 | trd key=>
  have h:((gI m.trades key).map fun x=>HO.ins C.trd (L'.own (.trd key)) (Zl L' x)).isSome=true:=h
  show ((gI m.trades key).map _).isSome=true
  rw [Option.isSome_map] at h ⊢;exact h
 | con j=>have h:(((m.cons.set i k')[j]?).map _).isSome=true:=h;show ((m.cons[j]?).map _).isSome=true;rw [Option.isSome_map] at h ⊢;rw [← e];exact h
 | held j=>have h:(((m.cons.set i k')[j]?).map _).isSome=true:=h;show ((m.cons[j]?).map _).isSome=true;rw [Option.isSome_map] at h ⊢;rw [← e];exact h
 | run j=>have h:(((m.cons.set i k')[j]?).map _).isSome=true:=h;show ((m.cons[j]?).map _).isSome=true;rw [Option.isSome_map] at h ⊢;rw [← e];exact h
 | base j=>have h:(((m.cons.set i k')[j]?).map _).isSome=true:=h;show ((m.cons[j]?).map _).isSome=true;rw [Option.isSome_map] at h ⊢;rw [← e];exact h
 | asg j=>have h:(((m.cons.set i k')[j]?).map _).isSome=true:=h;show ((m.cons[j]?).map _).isSome=true;rw [Option.isSome_map] at h ⊢;rw [← e];exact h
theorem Hs.newRun (h:Hs C H L m) (hk:m.cons[i]?=some k) {k':ConM} (hh:k'.held=k.held) {r b a dx:Addr} (nr:H r=none) (nb:H b=none) (na:H a=none) (rb:r≠b) (ra:r≠a) (ba:b≠a)
  (e1:H' (L.ad (.con i))=some (.ins C.con (L.own (.con i)) (zG ((i:Int) + 1) k'.kind k'.under k'.strike k'.mult k'.expiry k'.over (L.ad (.held i)) r k'.exd)))
  (e2:H' r=some (.ins C.run dx (zQ b a k'.run.total k'.run.count))) (e3:H' b=some (.dK (dI k'.run.base))) (e4:H' a=some (.dK (dI k'.run.asg)))
  (fr:∀ x o,H x=some o→x≠L.ad (.con i)→H' x=some o):Hs C H' (L.setRun i r b a dx) { m with cons:=m.cons.set i k' }∧Step C H L m H' (L.setRun i r b a dx) { m with cons:=m.cons.set i k' }:=by
 have hc:=h.con hk
 have sub:∀ n,(cont C (L.setRun i r b a dx) { m with cons:=m.cons.set i k' } n).isSome=true→((L.setRun i r b a dx).ad n=L.ad n∧(cont C L m n).isSome=true)∨H ((L.setRun i r b a dx).ad n)=none:=fun n hn=>by
  by_cases q1:n = .run i
  ·subst q1;right;rw [jM];exact nr
  by_cases q2:n = .base i
  ·subst q2;right;rw [jL];exact nb
  by_cases q3:n = .asg i
  ·subst q3;right;rw [jK];exact na
  exact .inl ⟨Zu q1 q2 q3,JU hk hn⟩
 refine ⟨h.relay (fun n=>n = .con i∨n = .run i∨n = .base i∨n = .asg i) (fun n o hn e=>?_) (fun n o hn e=>?_) (fun n n' hn hn' e e' q1 q2=>?_),Hs.relayStep (fun _=>True) sub fun x o e hx=>fr x o e (fun q=>hx (.con i) (j3 hk) q.symm)⟩
 ·have n0:n≠.con i:=fun q=>hn (.inl q)
  have n1:n≠.run i:=fun q=>hn (.inr (.inl q))
  have n2:n≠.base i:=fun q=>hn (.inr (.inr (.inl q)))
  have n3:n≠.asg i:=fun q=>hn (.inr (.inr (.inr q)))
  rw [zcF hk hh n0 n1 n2 n3] at e
  refine ⟨Zu n1 n2 n3,by rw [e];rfl,fr _ _ (h.at_ n o e) fun q=>n0 (h.inj n (.con i) (by rw [e];rfl) (j3 hk) q)⟩
 ·have es:=YC hk k'
  rcases hn with rfl | rfl | rfl | rfl
  ·have e:((m.cons.set i k')[i]?).map _=some o:=e
   rw [es] at e
   have e:=Option.some.inj e
   subst e
   rw [Zu (n:=.con i) (by intro q;cases q) (by intro q;cases q) (by intro q;cases q)]
   refine ⟨?_,.inl ⟨rfl,j3 hk⟩⟩
   rw [e1]
   show some (HO.ins C.con (L.own (.con i)) _)=some (HO.ins C.con (L.own (.con i)) (yi (L.setRun i r b a dx) i k'))
   unfold yi
   rw [jM,Zu (n:=.held i) (by intro q;cases q) (by intro q;cases q) (by intro q;cases q)]
  ·have e:((m.cons.set i k')[i]?).map _=some o:=e
   rw [es] at e
   have e:=Option.some.inj e
   subst e
   rw [jM]
   refine ⟨?_,.inr nr⟩
   rw [e2]
   show some (HO.ins C.run dx _)=some (HO.ins C.run ((L.setRun i r b a dx).own (.run i)) (yZ (L.setRun i r b a dx) i k'.run))
   unfold yZ
   rw [zkw,jL,jK]
  ·have e:((m.cons.set i k')[i]?).map _=some o:=e
   rw [es] at e
   have e:=Option.some.inj e
   subst e
   rw [jL]
   exact ⟨e3,.inr nb⟩
  ·have e:((m.cons.set i k')[i]?).map _=some o:=e
   rw [es] at e
   have e:=Option.some.inj e
   subst e
   rw [jK]
   exact ⟨e4,.inr na⟩
 ·have hcn:(L.setRun i r b a dx).ad (.con i)=L.ad (.con i):=Zu (by intro q;cases q) (by intro q;cases q) (by intro q;cases q)
  rcases hn with rfl | rfl | rfl | rfl <;> rcases hn' with rfl | rfl | rfl | rfl
  ·rfl
  ·rw [hcn,hc] at q1;cases q1
  ·rw [hcn,hc] at q1;cases q1
  ·rw [hcn,hc] at q1;cases q1
  ·rw [q2,hcn,hc] at q1;cases q1
  ·rfl
  ·rw [jM,jL] at q2;exact absurd q2 rb
  ·rw [jM,jK] at q2;exact absurd q2 ra
  ·rw [q2,hcn,hc] at q1;cases q1
  ·rw [jM,jL] at q2;exact absurd q2.symm rb
  ·rfl
  ·rw [jL,jK] at q2;exact absurd q2 ba
  ·rw [q2,hcn,hc] at q1;cases q1
  ·rw [jK,jM] at q2;exact absurd q2.symm ra
  ·rw [jK,jL] at q2;exact absurd q2.symm ba
  ·rfl
end
end Hy
namespace Hy
open PySem L2 Hx
section
variable {C:Cs} {H H':Hp} {L:Lay} {m m':HouM} {i:Nat} {k:ConM}
theorem Hs.upd1w (h:Hs C H L m) {n:Nm} {o:HO} (hl:(cont C L m n).isSome=true) (hn:cont C L m' n=some o) (hc:∀ n' o',n'≠n→cont C L m' n'=some o'→cont C L m n'=some o'):Hs C (upd H (L.ad n) o) L m'∧Step C H L m (upd H (L.ad n) o) L m':=by
 have live:∀ n',(cont C L m' n').isSome=true→(cont C L m n').isSome=true:=fun n' e=>by
  by_cases q:n'=n
  ·rw [q];exact hl
  ·cases z:cont C L m' n' with
   | none=>rw [z] at e;cases e
   | some o'=>rw [hc n' o' q z];rfl
 refine ⟨⟨fun n' o' e=>?_,fun a b ea eb q=>h.inj a b (live a ea) (live b eb) q⟩,fun b o' e hb=>⟨?_,fun n' e'=>hb n' (live n' e')⟩⟩
 ·by_cases q:n'=n
  ·subst q
   rw [hn] at e;cases e
   exact z9
  ·have e:=hc n' o' q e
   rw [z6 (fun z=>q (h.inj n' n (by rw [e];rfl) hl z))]
   exact h.at_ n' o' e
 ·rw [z6 (fun z=>hb n hl z.symm)];exact e
theorem z2h (L:Lay) (l:List (Int × TrdM)) (key:Int):yu (l.map fun p=>((Sum.inl p.1:Key),V.ref (L.ad (.trd p.1)))) (Sum.inl key)=(gI l key).map fun _=>V.ref (L.ad (.trd key)):=by
 induction l with
 | nil=>rfl
 | cons p l ih=>
  rw [List.map_cons,yJ]
  by_cases h:p.1=key
  ·rw [if_pos h,z0h (by dsimp only;rw [h]),h];rfl
  ·rw [if_neg h,z0g (fun q=>h (Sum.inl.inj q)),ih]
theorem zkK (L:Lay) (l:List (Int × TrdM)) (key:Int):Yq (l.map fun p=>((Sum.inl p.1:Key),V.ref (L.ad (.trd p.1)))) (Sum.inl key)=(yI l key).map fun p=>(Sum.inl p.1,V.ref (L.ad (.trd p.1))):=by
 unfold Yq yI
 rw [List.filter_map]
 congr 1
 apply List.filter_congr
 intro p _
 show decide ((Sum.inl p.1:Key)≠Sum.inl key)=decide (p.1≠key)
 by_cases h:p.1=key
 ·rw [h];simp
 ·have h2:¬ (Sum.inl p.1:Key)=Sum.inl key:=fun q=>h (Sum.inl.inj q)
  simp [h,h2]
theorem zaR (l:List Int) (key:Int):yu (l.map fun k=>((Sum.inl k:Key),V.bl true)) (Sum.inl key)=if key∈l then some (V.bl true) else none:=by
 induction l with
 | nil=>rfl
 | cons a l ih=>
  rw [List.map_cons]
  by_cases h:a=key
  ·rw [z0h (by dsimp only;rw [h]),if_pos (by simp [h])]
  ·rw [z0g (fun q=>h (Sum.inl.inj q)),ih]
   by_cases h2:key∈l
   ·rw [if_pos h2,if_pos (by simp [h2])]
   ·rw [if_neg h2,if_neg (by rw [List.mem_cons];rintro (z | z);exact h z.symm;exact h2 z)]
theorem Hs.dropTrd (h:Hs C H L m) (key:Int):Hs C (upd H (L.ad .tr) (.dK ((yI m.trades key).map fun p=>(Sum.inl p.1,V.ref (L.ad (.trd p.1)))))) L { m with trades:=yI m.trades key } ∧
  Step C H L m (upd H (L.ad .tr) (.dK ((yI m.trades key).map fun p=>(Sum.inl p.1,V.ref (L.ad (.trd p.1)))))) L { m with trades:=yI m.trades key }:=by
 refine h.upd1w rfl rfl fun n o hn e=>?_
 cases n with
 | tr=>exact absurd rfl hn
 | trd key'=>
  have e:(gI (yI m.trades key) key').map _=some o:=e
  rw [z1l] at e
  split at e
  ·cases e
  ·exact e
 | _=>exact e
theorem Hs.spend (h:Hs C H L m) (key:Int):Hs C (upd H (L.ad .sp) (.dK ((m.spent ++ [key]).map fun k=>(Sum.inl k,V.bl true)))) L { m with spent:=m.spent ++ [key] } ∧
  Step C H L m (upd H (L.ad .sp) (.dK ((m.spent ++ [key]).map fun k=>(Sum.inl k,V.bl true)))) L { m with spent:=m.spent ++ [key] } :=
 h.upd1 rfl rfl fun n hn=>by cases n <;> first | rfl | exact absurd rfl hn
noncomputable def Lay.put (L:Lay) (n:Nm) (p d:Addr):Lay:=⟨fun x=>if x=n then p else L.ad x,fun x=>if x=n then d else L.own x⟩
theorem Zj {n:Nm} {p d:Addr}:(L.put n p d).ad n=p:=if_pos rfl
theorem yf {n x:Nm} {p d:Addr} (h:x≠n):(L.put n p d).ad x=L.ad x:=if_neg h
theorem ziL {n:Nm} {p d:Addr}:(L.put n p d).own n=d:=if_pos rfl
theorem ziM {n x:Nm} {p d:Addr} (h:x≠n):(L.put n p d).own x=L.own x:=if_neg h
theorem Hs.newTrd (h:Hs C H L m) {key:Int} (hn:gI m.trades key=none) {t:TrdM} {x dx:Addr} (nx:H x=none) (ex:H' x=some (.ins C.trd dx (Zl L t)))
  (et:H' (L.ad .tr)=some (.dK ((m.trades.map fun p=>(Sum.inl p.1,V.ref (L.ad (.trd p.1)))) ++ [(Sum.inl key,V.ref x)]))) (fr:∀ b o,H b=some o→b≠L.ad .tr→H' b=some o) :
  Hs C H' (L.put (.trd key) x dx) { m with trades:=m.trades ++ [(key,t)] }∧Step C H L m H' (L.put (.trd key) x dx) { m with trades:=m.trades ++ [(key,t)] }:=by
 have hk:∀ key',gI (m.trades ++ [(key,t)]) key'=if key'=key then some t else gI m.trades key':=fun key'=>by
  rw [z6z]
  by_cases q:key'=key
  ·subst q;rw [hn,if_pos rfl];show gI [(key',t)] key'=some t;rw [yJ,if_pos rfl]
  ·rw [if_neg q]
   cases gI m.trades key' with
   | some z=>rfl
   | none=>show gI [(key,t)] key'=none;rw [yJ,if_neg (fun z=>q z.symm)];rfl
 have off:∀ n,n≠.trd key→n≠.tr→cont C (L.put (.trd key) x dx) { m with trades:=m.trades ++ [(key,t)] } n=cont C L m n:=fun n h1 h2=>by
  cases n with
  | tr=>exact absurd rfl h2
  | trd key'=>
   have hq:key'≠key:=fun q=>h1 (by rw [q])
   show (gI (m.trades ++ [(key,t)]) key').map _=(gI m.trades key').map _
   rw [hk,if_neg hq]
   congr 1
   funext y
   show HO.ins C.trd ((L.put (.trd key) x dx).own (.trd key')) _=HO.ins C.trd (L.own (.trd key')) _
   rw [ziM h1];rfl
  | _=>rfl
 have live:∀ n,(cont C (L.put (.trd key) x dx) { m with trades:=m.trades ++ [(key,t)] } n).isSome=true→n≠.trd key→(cont C L m n).isSome=true:=fun n e q=>by
  by_cases q2:n = .tr
  ·rw [q2];rfl
  ·rw [off n q q2] at e;exact e
 refine ⟨h.relay (fun n=>n = .trd key∨n = .tr) (fun n o hs e=>?_) (fun n o hs e=>?_) (fun n n' hs hs' e e' q1 q2=>?_),Hs.relayStep (fun _=>True) (fun n e=>?_) fun b o e hb=>fr b o e (fun q=>hb .tr rfl q.symm)⟩
 ·have h1:n≠.trd key:=fun q=>hs (.inl q)
  have h2:n≠.tr:=fun q=>hs (.inr q)
  rw [off n h1 h2] at e
  exact ⟨yf h1,by rw [e];rfl,fr _ _ (h.at_ n o e) fun q=>h2 (h.inj n .tr (by rw [e];rfl) rfl q)⟩
 ·rcases hs with rfl | rfl
  ·have e:(gI (m.trades ++ [(key,t)]) key).map _=some o:=e
   rw [hk,if_pos rfl] at e
   have e:=Option.some.inj e
   subst e
   rw [Zj]
   refine ⟨?_,.inr nx⟩
   rw [ex]
   show _=some (HO.ins C.trd ((L.put (.trd key) x dx).own (.trd key)) _)
   rw [ziL];rfl
  ·have e:=Option.some.inj e
   subst e
   rw [yf (by intro q;cases q)]
   refine ⟨?_,.inl ⟨rfl,rfl⟩⟩
   rw [et]
   show _=some (HO.dK ((m.trades ++ [(key,t)]).map fun p=>(Sum.inl p.1,V.ref ((L.put (.trd key) x dx).ad (.trd p.1)))))
   rw [List.map_append]
   show _=some (HO.dK ((m.trades.map fun p=>(Sum.inl p.1,V.ref ((L.put (.trd key) x dx).ad (.trd p.1)))) ++ [(Sum.inl key,V.ref ((L.put (.trd key) x dx).ad (.trd key)))]))
   rw [Zj]
   have:m.trades.map (fun p=>((Sum.inl p.1:Key),V.ref ((L.put (.trd key) x dx).ad (.trd p.1))))=m.trades.map fun p=>(Sum.inl p.1,V.ref (L.ad (.trd p.1))):=List.map_congr_left fun p hp=>by
    rw [yf]
    intro q
    injection q with q
    exact Zp.mp hn (by rw [← q];exact List.mem_map_of_mem hp)
   rw [this]
 ·rcases hs with rfl | rfl <;> rcases hs' with rfl | rfl
  ·rfl
  ·have z:=h.tr
   rw [Zj,yf (by intro q;cases q)] at q2
   rw [Zj,q2,z] at q1;cases q1
  ·have z:=h.tr
   rw [yf (by intro q;cases q),z] at q1;cases q1
  ·rfl
 ·by_cases q:n = .trd key
  ·subst q;right;rw [Zj];exact nx
  ·exact .inl ⟨yf q,live n e q⟩
theorem Hs.newPart (h:Hs C H L m) {n0:Nm} (hn0:n0≠.house) {p d:Addr} (np:H p=none) {o0:HO} (c0:cont C (L.put n0 p d) m' n0=some o0) (e0:H' p=some o0) (e1:H' (L.ad .house)=cont C (L.put n0 p d) m' .house)
  (hc:∀ n o,n≠n0→n≠.house→cont C (L.put n0 p d) m' n=some o→cont C L m n=some o) (fr:∀ b o,H b=some o→b≠L.ad .house→H' b=some o) :
  Hs C H' (L.put n0 p d) m'∧Step C H L m H' (L.put n0 p d) m':=by
 refine ⟨h.relay (fun n=>n=n0∨n = .house) (fun n o hs e=>?_) (fun n o hs e=>?_) (fun n n' hs hs' e e' q1 q2=>?_),Hs.relayStep (fun _=>True) (fun n e=>?_) fun b o e hb=>fr b o e (fun q=>hb .house rfl q.symm)⟩
 ·have h1:n≠n0:=fun q=>hs (.inl q)
  have h2:n≠.house:=fun q=>hs (.inr q)
  have e:=hc n o h1 h2 e
  exact ⟨yf h1,by rw [e];rfl,fr _ _ (h.at_ n o e) fun q=>h2 (h.inj n .house (by rw [e];rfl) rfl q)⟩
 ·rcases hs with rfl | rfl
  ·rw [c0] at e;cases e
   rw [Zj];exact ⟨e0,.inr np⟩
  ·rw [yf (Ne.symm hn0)]
   refine ⟨by rw [e1,e],.inl ⟨rfl,rfl⟩⟩
 ·have hh:=h.house
  rcases hs with rfl | rfl <;> rcases hs' with rfl | rfl
  ·rfl
  ·rw [Zj,yf (Ne.symm hn0)] at q2
   rw [Zj,q2,hh] at q1;cases q1
  ·rw [yf (Ne.symm hn0),hh] at q1;cases q1
  ·rfl
 ·by_cases q:n=n0
  ·subst q;right;rw [Zj];exact np
  ·refine .inl ⟨yf q,?_⟩
   by_cases q2:n = .house
   ·rw [q2];rfl
   ·cases z:cont C (L.put n0 p d) m' n with
    | none=>rw [z] at e;cases e
    | some o=>rw [hc n o q q2 z];rfl
end
end Hy
namespace Hy
open PySem L2 Hx
section
variable {C:Cs} {H H':Hp} {L:Lay} {m m':HouM} {i:Nat} {k:ConM}
theorem Hs.newHeld (h:Hs C H L m) (hk:m.cons[i]?=some k) (l:List (Int × Int)) {p d:Addr} (np:H p=none) (e1:H' (L.ad (.con i))=some (.ins C.con (L.own (.con i)) (zG ((i:Int) + 1) k.kind k.under k.strike k.mult k.expiry k.over p (L.ad (.run i)) k.exd)))
  (e2:H' p=some (.dK (dI l))) (fr:∀ x o,H x=some o→x≠L.ad (.con i)→H' x=some o) :
  Hs C H' (L.put (.held i) p d) { m with cons:=m.cons.set i { k with held:=l } }∧Step C H L m H' (L.put (.held i) p d) { m with cons:=m.cons.set i { k with held:=l } }:=by
 have off:∀ n,n≠.con i→n≠.held i→cont C (L.put (.held i) p d) { m with cons:=m.cons.set i { k with held:=l } } n=cont C L m n:=fun n h1 h2=>by
  have e:cont C (L.put (.held i) p d) { m with cons:=m.cons.set i { k with held:=l } } n=cont C L { m with cons:=m.cons.set i { k with held:=l } } n:=by
   cases n with
   | con j=>
    have hj:j≠i:=fun q=>h1 (by rw [q])
    show (_:Option ConM).map _=(_:Option ConM).map _
    congr 1
    funext k2
    show HO.ins C.con (L.own (.con j)) (yi (L.put (.held i) p d) j k2)=HO.ins C.con (L.own (.con j)) (yi L j k2)
    unfold yi
    rw [yf (x:=.held j) (by intro q;injection q with q;exact hj q)]
    rfl
   | _=>rfl
  rw [e]
  exact J2 hk (fun q=>absurd q h1) (fun q=>absurd q h2) (fun _=>rfl) (fun _=>rfl) fun _=>rfl
 have es:=YC hk { k with held:=l }
 have hcn:(L.put (.held i) p d).ad (.con i)=L.ad (.con i):=yf (by intro q;cases q)
 refine ⟨h.relay (fun n=>n = .con i∨n = .held i) (fun n o hs e=>?_) (fun n o hs e=>?_) (fun n n' hs hs' e e' q1 q2=>?_),Hs.relayStep (fun _=>True) (fun n e=>?_) fun b o e hb=>fr b o e (fun q=>hb (.con i) (j3 hk) q.symm)⟩
 ·have h1:n≠.con i:=fun q=>hs (.inl q)
  have h2:n≠.held i:=fun q=>hs (.inr q)
  rw [off n h1 h2] at e
  exact ⟨yf h2,by rw [e];rfl,fr _ _ (h.at_ n o e) fun q=>h1 (h.inj n (.con i) (by rw [e];rfl) (j3 hk) q)⟩
 ·rcases hs with rfl | rfl
  ·have e:((m.cons.set i { k with held:=l })[i]?).map _=some o:=e
   rw [es] at e
   have e:=Option.some.inj e
   subst e
   rw [hcn]
   refine ⟨?_,.inl ⟨rfl,j3 hk⟩⟩
   rw [e1]
   show some (HO.ins C.con (L.own (.con i)) _)=some (HO.ins C.con (L.own (.con i)) (yi (L.put (.held i) p d) i { k with held:=l }))
   unfold yi
   rw [Zj];rfl
  ·have e:((m.cons.set i { k with held:=l })[i]?).map _=some o:=e
   rw [es] at e
   have e:=Option.some.inj e
   subst e
   rw [Zj]
   exact ⟨e2,.inr np⟩
 ·have hc:=h.con hk
  rcases hs with rfl | rfl <;> rcases hs' with rfl | rfl
  ·rfl
  ·rw [hcn,hc] at q1;cases q1
  ·rw [q2,hcn,hc] at q1;cases q1
  ·rfl
 ·by_cases q:n = .held i
  ·subst q;right;rw [Zj];exact np
  ·exact .inl ⟨yf q,JU hk e⟩
noncomputable def Lay.setCon (L:Lay) (i:Nat) (x ah ar ab aa dx dr:Addr):Lay :=
 ⟨fun n=>if n = .con i then x else if n = .held i then ah else if n = .run i then ar else if n = .base i then ab else if n = .asg i then aa else L.ad n,fun n=>if n = .con i then dx else if n = .run i then dr else L.own n⟩
theorem z1U {x ah ar ab aa dx dr:Addr}:(L.setCon i x ah ar ab aa dx dr).ad (.con i)=x:=if_pos rfl
theorem z1V {x ah ar ab aa dx dr:Addr}:(L.setCon i x ah ar ab aa dx dr).ad (.held i)=ah:=by unfold Lay.setCon;simp
theorem z1X {x ah ar ab aa dx dr:Addr}:(L.setCon i x ah ar ab aa dx dr).ad (.run i)=ar:=by unfold Lay.setCon;simp
theorem z1T {x ah ar ab aa dx dr:Addr}:(L.setCon i x ah ar ab aa dx dr).ad (.base i)=ab:=by unfold Lay.setCon;simp
theorem z1S {x ah ar ab aa dx dr:Addr}:(L.setCon i x ah ar ab aa dx dr).ad (.asg i)=aa:=by unfold Lay.setCon;simp
noncomputable def yT (i:Nat) (n:Nm):Prop:=n = .con i∨n = .held i∨n = .run i∨n = .base i∨n = .asg i
theorem ZN {x ah ar ab aa dx dr:Addr} {n:Nm} (h:¬ yT i n):(L.setCon i x ah ar ab aa dx dr).ad n=L.ad n:=by
 unfold yT at h
 simp only [not_or] at h
 show (if n = .con i then x else if n = .held i then ah else if n = .run i then ar else if n = .base i then ab else if n = .asg i then aa else L.ad n)=_
 rw [if_neg h.1,if_neg h.2.1,if_neg h.2.2.1,if_neg h.2.2.2.1,if_neg h.2.2.2.2]
theorem z9V {x ah ar ab aa dx dr:Addr} {n:Nm} (h:¬ yT i n):(L.setCon i x ah ar ab aa dx dr).own n=L.own n:=by
 unfold yT at h
 simp only [not_or] at h
 show (if n = .con i then dx else if n = .run i then dr else L.own n)=_
 rw [if_neg h.1,if_neg h.2.2.1]
theorem Hs.newCon (h:Hs C H L m) (hi:i=m.cons.length) (k:ConM) (ht:∀ key y,gI m.trades key=some y→y.con < m.cons.length) {x ah ar ab aa dx dr:Addr}
  (nx:H x=none) (nh:H ah=none) (nr:H ar=none) (nb:H ab=none) (na:H aa=none) (nd:[x,ah,ar,ab,aa].Nodup)
  (e1:H' x=some (.ins C.con dx (zG ((i:Int) + 1) k.kind k.under k.strike k.mult k.expiry k.over ah ar k.exd))) (e2:H' ah=some (.dK (dI k.held))) (e3:H' ar=some (.ins C.run dr (zQ ab aa k.run.total k.run.count))) (e4:H' ab=some (.dK (dI k.run.base))) (e5:H' aa=some (.dK (dI k.run.asg)))
  (e6:H' (L.ad .cl)=some (.lst (((List.range m.cons.length).map fun j=>V.ref (L.ad (.con j))) ++ [V.ref x]))) (fr:∀ b o,H b=some o→b≠L.ad .cl→H' b=some o) :
  Hs C H' (L.setCon i x ah ar ab aa dx dr) { m with cons:=m.cons ++ [k] }∧Step C H L m H' (L.setCon i x ah ar ab aa dx dr) { m with cons:=m.cons ++ [k] }:=by
 have gt:∀ j,(m.cons ++ [k])[j]?=if j=i then some k else m.cons[j]?:=fun j=>by
  by_cases q:j=i
  ·rw [if_pos q,q,hi];simp
  ·rw [if_neg q]
   by_cases q2:j < m.cons.length
   ·rw [List.getElem?_append_left q2]
   ·rw [List.getElem?_eq_none (by rw [List.length_append];simp;omega),List.getElem?_eq_none (by omega)]
 have off:∀ n,¬ yT i n→n≠.cl→cont C (L.setCon i x ah ar ab aa dx dr) { m with cons:=m.cons ++ [k] } n=cont C L m n:=fun n hn hc=>by
  cases n with
  | house=>rfl
  | pr=>rfl
  | cl=>exact absurd rfl hc
  | ca=>rfl
  | tr=>rfl
  | sp=>rfl
  | trd key=>
   show (gI m.trades key).map _=(gI m.trades key).map _
   cases e:gI m.trades key with
   | none=>rfl
   | some y=>
    show some (HO.ins C.trd (L.own (.trd key)) (Zl (L.setCon i x ah ar ab aa dx dr) y))=some (HO.ins C.trd (L.own (.trd key)) (Zl L y))
    unfold Zl
    have:=ht key y e
    rw [ZN (n:=.con y.con) (by unfold yT;rintro (q | q | q | q | q) <;> first | (injection q with q;omega) | cases q)]
  | con j=>
   have hj:j≠i:=fun q=>hn (by rw [q];exact .inl rfl)
   show ((m.cons ++ [k])[j]?).map _=(m.cons[j]?).map _
   rw [gt,if_neg hj]
   congr 1
   funext k2
   show HO.ins C.con ((L.setCon i x ah ar ab aa dx dr).own (.con j)) (yi (L.setCon i x ah ar ab aa dx dr) j k2)=HO.ins C.con (L.own (.con j)) (yi L j k2)
   unfold yi
   rw [z9V hn,ZN (n:=.held j) (by unfold yT;rintro (q | q | q | q | q) <;> first | (injection q with q;exact hj q) | cases q),ZN (n:=.run j) (by unfold yT;rintro (q | q | q | q | q) <;> first | (injection q with q;exact hj q) | cases q)]
  | held j=>
   have hj:j≠i:=fun q=>hn (by rw [q];exact .inr (.inl rfl))
   show ((m.cons ++ [k])[j]?).map _=(m.cons[j]?).map _
   rw [gt,if_neg hj]
  | run j=>
   have hj:j≠i:=fun q=>hn (by rw [q];exact .inr (.inr (.inl rfl)))
   show ((m.cons ++ [k])[j]?).map _=(m.cons[j]?).map _
   rw [gt,if_neg hj]
   congr 1
   funext k2
   show HO.ins C.run ((L.setCon i x ah ar ab aa dx dr).own (.run j)) (yZ (L.setCon i x ah ar ab aa dx dr) j k2.run)=HO.ins C.run (L.own (.run j)) (yZ L j k2.run)
   unfold yZ
   rw [z9V hn,ZN (n:=.base j) (by unfold yT;rintro (q | q | q | q | q) <;> first | (injection q with q;exact hj q) | cases q),ZN (n:=.asg j) (by unfold yT;rintro (q | q | q | q | q) <;> first | (injection q with q;exact hj q) | cases q)]
  | base j=>
   have hj:j≠i:=fun q=>hn (by rw [q];exact .inr (.inr (.inr (.inl rfl))))
   show ((m.cons ++ [k])[j]?).map _=(m.cons[j]?).map _
   rw [gt,if_neg hj]
  | asg j=>
   have hj:j≠i:=fun q=>hn (by rw [q];exact .inr (.inr (.inr (.inr rfl))))
   show ((m.cons ++ [k])[j]?).map _=(m.cons[j]?).map _
   rw [gt,if_neg hj]
 have new:∀ n,yT i n→H ((L.setCon i x ah ar ab aa dx dr).ad n)=none:=fun n hn=>by
  rcases hn with rfl | rfl | rfl | rfl | rfl
  ·rw [z1U];exact nx
  ·rw [z1V];exact nh
  ·rw [z1X];exact nr
  ·rw [z1T];exact nb
  ·rw [z1S];exact na
 have ncl:¬ yT i .cl:=by unfold yT;rintro (q | q | q | q | q) <;> cases q
 refine ⟨h.relay (fun n=>yT i n∨n = .cl) (fun n o hs e=>?_) (fun n o hs e=>?_) (fun n n' hs hs' e e' q1 q2=>?_),Hs.relayStep (fun _=>True) (fun n e=>?_) fun b o e hb=>fr b o e (fun q=>hb .cl rfl q.symm)⟩
 ·have h1:¬ yT i n:=fun q=>hs (.inl q)
  have h2:n≠.cl:=fun q=>hs (.inr q)
  rw [off n h1 h2] at e
  exact ⟨ZN h1,by rw [e];rfl,fr _ _ (h.at_ n o e) fun q=>h2 (h.inj n .cl (by rw [e];rfl) rfl q)⟩
 ·have gi:(m.cons ++ [k])[i]?=some k:=by rw [gt,if_pos rfl]
  rcases hs with hs | rfl
  ·refine ⟨?_,.inr (new n hs)⟩
   rcases hs with rfl | rfl | rfl | rfl | rfl
   ·have e:((m.cons ++ [k])[i]?).map _=some o:=e
    rw [gi] at e
    have e:=Option.some.inj e
    subst e
    rw [z1U,e1]
    show some (HO.ins C.con dx _)=some (HO.ins C.con ((L.setCon i x ah ar ab aa dx dr).own (.con i)) (yi (L.setCon i x ah ar ab aa dx dr) i k))
    unfold yi
    rw [z1V,z1X,show (L.setCon i x ah ar ab aa dx dr).own (.con i)=dx from if_pos rfl]
   ·have e:((m.cons ++ [k])[i]?).map _=some o:=e
    rw [gi] at e
    have e:=Option.some.inj e
    subst e
    rw [z1V];exact e2
   ·have e:((m.cons ++ [k])[i]?).map _=some o:=e
    rw [gi] at e
    have e:=Option.some.inj e
    subst e
    rw [z1X,e3]
    show some (HO.ins C.run dr _)=some (HO.ins C.run ((L.setCon i x ah ar ab aa dx dr).own (.run i)) (yZ (L.setCon i x ah ar ab aa dx dr) i k.run))
    unfold yZ
    rw [z1T,z1S,show (L.setCon i x ah ar ab aa dx dr).own (.run i)=dr by unfold Lay.setCon;simp]
   ·have e:((m.cons ++ [k])[i]?).map _=some o:=e
    rw [gi] at e
    have e:=Option.some.inj e
    subst e
    rw [z1T];exact e4
   ·have e:((m.cons ++ [k])[i]?).map _=some o:=e
    rw [gi] at e
    have e:=Option.some.inj e
    subst e
    rw [z1S];exact e5
  ·have e:=Option.some.inj e
   subst e
   rw [ZN ncl]
   refine ⟨?_,.inl ⟨rfl,rfl⟩⟩
   rw [e6]
   show _=some (HO.lst ((List.range (m.cons ++ [k]).length).map fun j=>V.ref ((L.setCon i x ah ar ab aa dx dr).ad (.con j))))
   rw [List.length_append,show [k].length=1 from rfl,List.range_succ,List.map_append]
   show _=some (HO.lst (_ ++ [V.ref ((L.setCon i x ah ar ab aa dx dr).ad (.con m.cons.length))]))
   rw [← hi,z1U,hi]
   have:(List.range m.cons.length).map (fun j=>V.ref ((L.setCon m.cons.length x ah ar ab aa dx dr).ad (.con j)))=(List.range m.cons.length).map fun j=>V.ref (L.ad (.con j)):=List.map_congr_left fun j hj=>by
    have:=List.mem_range.mp hj
    rw [ZN (by unfold yT;rintro (q | q | q | q | q) <;> first | (injection q with q;omega) | cases q)]
   rw [this]
 ·have hcl:=h.cl
  rcases hs with hs | rfl
  ·rcases hs' with hs' | rfl
   ·have nd':x≠ah∧x≠ar∧x≠ab∧x≠aa∧ah≠ar∧ah≠ab∧ah≠aa∧ar≠ab∧ar≠aa∧ab≠aa:=by
     simp only [List.nodup_cons,List.mem_cons,List.not_mem_nil,or_false,not_or,not_false_eq_true,List.nodup_nil,and_true] at nd
     obtain ⟨⟨a1,a2,a3,a4⟩,⟨b1,b2,b3⟩,⟨c1,c2⟩,f1⟩:=nd
     exact ⟨a1,a2,a3,a4,b1,b2,b3,c1,c2,f1⟩
    obtain ⟨d1,d2,d3,d4,d5,d6,d7,d8,d9,d10⟩:=nd'
    rcases hs with rfl | rfl | rfl | rfl | rfl <;> rcases hs' with rfl | rfl | rfl | rfl | rfl <;> (try rfl) <;> (simp only [z1U,z1V,z1X,z1T,z1S] at q2) <;> first | exact absurd q2 (by assumption) | exact absurd q2.symm (by assumption)
   ·rw [q2,ZN ncl,hcl] at q1;cases q1
  ·rw [ZN ncl,hcl] at q1;cases q1
 ·by_cases q:yT i n
  ·exact .inr (new n q)
  ·refine .inl ⟨ZN q,?_⟩
   by_cases q2:n = .cl
   ·rw [q2];rfl
   ·rw [off n q q2] at e;exact e
end
end Hy
namespace Hy
open PySem PySem.Spec PyProof.Rows L2 Hx
noncomputable def zS (K:PySem.W.Frag) (f:Str) (x:V) (H:Hp) (Q:VK):Prop:=∃ a C dx fs v,x = .ref a∧H a=some (.ins C dx fs)∧Cls K C∧NoAttr K C f∧fs.lookup f=some v∧Q v H
noncomputable def z5P (K:PySem.W.Frag) (f:Str) (y x:V) (H:Hp) (Q:Hp→Prop):Prop:=∃ a C dx fs,x = .ref a∧H a=some (.ins C dx fs)∧Cls K C∧NoAttr K C f∧fs.length < 1000∧Q (upd H a (.ins C dx (zh f y fs)))
section
variable {K:PySem.W.Frag} {σ : L2.St} {H:Hp} {Q:VK} {D:Ends} {ta tb tc:TE} {c:TT} {t u:TS} {as:TA} {v:V} {i j n:Int} {a:Addr} {f:Str} {QB:Bool→Hp→Prop} {QL:List V→Hp→Prop}
theorem zdO {x:V} (h:zS K f x H Q):zS K f x H Q:=h
theorem z3S (h:t { D with nx:=u D } σ H):Y0 t u D σ H:=h
theorem z3N (h:D.nx σ H):jQ D σ H:=h
theorem zeI (h:ta σ H D.rt):z0e ta D σ H:=h
theorem zeJ (h:D.rt .non H):zkD D σ H:=h
theorem zeo (h:ta σ H fun _ H1=>D.nx σ H1):z2b ta D σ H:=h
theorem z3L (h:c σ H fun b H1=>if b=true then t D σ H1 else u D σ H1):jP c t u D σ H:=h
theorem ze6 {g:TG} (h:ta σ H fun x H1=>g x σ H1 D.nx):z0c ta g D σ H:=h
theorem z3K {k:Nat} {Qs:L2.St→Hp→Prop} (h:Qs (σ.set k (some v)) H):Y5 k v σ H Qs:=h
theorem z3T (h:ta σ H fun x H'=>∃ k,x = .bl k∧QB k H'):YD ta σ H QB:=h
theorem zeQ (h:ta σ H fun x H'=>∃ k,x = .bl k∧QB k H'):tB ta σ H QB:=h
theorem z3I {b:Bool} {P:Bool→Prop} (h:P b):∃ k,V.bl b = .bl k∧P k:=⟨b,rfl,h⟩
theorem zeA (h:c σ H fun b H1=>QB (!b) H1):z5u c σ H QB:=h
theorem ze4 {c2:TT} (h:c σ H fun b H1=>if b=true then c2 σ H1 QB else QB false H1):zb1 c c2 σ H QB:=h
theorem zeC {c2:TT} (h:c σ H fun b H1=>if b=true then QB true H1 else c2 σ H1 QB):tOr c c2 σ H QB:=h
theorem ze5 (h:ta σ H fun x H1=>∃ c,x = .bl c∧if c=true then tb σ H1 Q else Q (.bl false) H1):zb2 ta tb σ H Q:=h
theorem zeD (h:ta σ H fun x H1=>∃ c,x = .bl c∧if c=true then Q (.bl true) H1 else tb σ H1 Q):zkC ta tb σ H Q:=h
theorem zeB (h:ta σ H fun x H1=>∃ c,x = .bl c∧Q (.bl (!c)) H1):zkB ta σ H Q:=h
theorem z3U {k:Nat} (e : σ[k]?=some (some v)) (h:Q v H):yg k σ H Q:=⟨v,e,h⟩
theorem i_c (h:Q v H):tC v σ H Q:=h
theorem z3P {r:R2} (h:ta σ H fun x H1=>tb σ H1 fun y H2=>r x y H2 Q):tOp r ta tb σ H Q:=h
theorem zeR {r:V→Hp→VK→Prop} (h:ta σ H fun x H1=>r x H1 Q):tUn r ta σ H Q:=h
theorem zed {r r':R2} (h:ta σ H fun x H1=>tb σ H1 fun y H2=>r x y H2 fun z H3=>∃ k,z = .bl k∧(if k=true then tc σ H3 fun w' H4=>r' y w' H4 Q else Q (.bl false) H3)):z2a r r' ta tb tc σ H Q:=h
theorem z3R {g:Int→Int→V} (h:Q (g i j) H):rI0 g (.int i) (.int j) H Q:=⟨i,j,rfl,rfl,h⟩
theorem Zb {P:Int→Int→Prop} {g:Int→Int→V} (p:P i j) (h:Q (g i j) H):rI P g (.int i) (.int j) H Q:=⟨i,j,rfl,rfl,p,h⟩
theorem zeH {g:Int→V} (h:Q (g i) H):rU g (.int i) H Q:=⟨i,rfl,h⟩
theorem zeE (h:Q (.int (i + j)) H):z8j (.int i) (.int j) H Q:=⟨i,j,rfl,rfl,h⟩
theorem zeG (h:Q (.int (i - j)) H):zj1 (.int i) (.int j) H Q:=⟨i,j,rfl,rfl,h⟩
theorem zes {g:Int→Int→Int} (h:Q (.int (g i j)) H):ipI g (.int i) (.int j) H Q:=⟨i,j,rfl,rfl,h⟩
theorem z6m (i j:Int):decide (V.int i=V.int j)=decide (i=j):=by
 by_cases h:i=j
 ·subst h;simp
 ·rw [decide_eq_false h,decide_eq_false (fun q=>h (V.int.inj q))]
theorem z3Q (h:Q (.bl (decide (i=j))) H):rEq (.int i) (.int j) H Q:=⟨rfl,by rw [z6m];exact h⟩
theorem zeF (h:Q (.bl (!decide (i=j))) H):rNe (.int i) (.int j) H Q:=⟨rfl,by rw [z6m];exact h⟩
theorem zep (h:ta σ H fun x H1=>zS K f x H1 Q):jO K ta f σ H Q:=h
theorem zeO (h:tb σ H fun y H1=>ta σ H1 fun x H2=>z5P K f y x H2 (D.nx σ)):z4V K ta tb f D σ H:=h
theorem zez (h:QL [] H):ZO σ H QL:=h
theorem zef (h:ta σ H fun x H1=>as σ H1 fun xs H2=>QL (x :: xs) H2):Yj ta as σ H QL:=h
theorem zeb {sp:Sp} {E:XK} (h:as σ H fun vs H1=>sp (vs ++ []) H1 Q E):z0d sp [] E as σ H Q:=h
theorem zec {r:List V→Hp→VK→Prop} (h:as σ H fun vs H1=>r vs H1 Q):tCB r as σ H Q:=h
theorem zew (h:as σ H fun xs H1=>xs.length≤sizeLine∧∀ p,H1 p=none→Q (.ref p) (upd H1 p (.lst xs))):zbc as σ H Q:=h
theorem z6Z (h:as σ H fun xs H1=>xs.length≤sizeLine∧∀ p,H1 p=none→Q (.ref p) (upd H1 p (.tup xs))):zbd as σ H Q:=h
noncomputable def z0Z (C:Addr) (m:Str) (sp:Sp) (E:XK) (as:TA) (σ : L2.St) (x:V) (H:Hp) (Q:VK):Prop:=∃ a dx fs,x = .ref a∧H a=some (.ins C dx fs)∧fs.lookup m=none∧as σ H fun vs H2=>sp (x :: (vs ++ [])) H2 Q E
theorem zey {C:Addr} {m:Str} {sp:Sp} {E:XK} (h:ta σ H fun x H1=>z0Z C m sp E as σ x H1 Q):z2c C m sp [] E ta as σ H Q:=h
theorem JS {C dx:Addr} {fs:List (Str × V)} {m:Str} {sp:Sp} {E:XK} (e:H a=some (.ins C dx fs)) (l:fs.lookup m=none) (h:as σ H fun vs H2=>sp (.ref a :: (vs ++ [])) H2 Q E):z0Z C m sp E as σ (.ref a) H Q:=⟨a,dx,fs,rfl,e,l,h⟩
noncomputable def z2m (x y:V) (H:Hp) (Q:VK):Prop:=∃ a v,x = .ref a∧DGet H a y (some v)∧Q v H
theorem zeh (h:ta σ H fun x H1=>tb σ H1 fun y H2=>z2m x y H2 Q):z5s ta tb σ H Q:=h
theorem zjr {kvs:List (Key × V)} {k:Key} (e:Rd H a (.dK kvs)):DGet H a (kV k) (yu kvs k):=.inl ⟨kvs,k,e,rfl,rfl⟩
theorem Yw {l:List (Int × Int)} {v:Int} (e:Rd H a (.dK (dI l))) (g:gI l i=some v) (h:Q (.int v) H):z2m (.ref a) (.int i) H Q :=
 ⟨a,.int v,rfl,by have z:=zjr (k:=Sum.inl i) e;rw [z5B,g] at z;exact z,h⟩
theorem zei (h:ta σ H fun x H1=>∃ a,x = .ref a∧IsD H1 a∧tb σ H1 fun y H2=>tc σ H2 fun z H3=>∃ o,DGet H3 a y o∧Q (o.getD z) H3):zb5 ta tb tc σ H Q:=h
theorem z8v {kvs:List (Key × V)} (e:Rd H a (.dK kvs)):IsD H a:=.inl ⟨kvs,e⟩
theorem z0u {p:Addr} {xs:List V} {k:Nat} (s:SqL K H p xs) (ei:i=(k:Int)) (e:xs[k]?=some v) (h:Q v H):z0N K (.ref p) (.int i) H Q:=⟨p,xs,i,v,rfl,rfl,s,z5X ei e,h⟩
end
theorem zt {P A B:Prop} [Decidable P] (h1:P→A) (h2:¬ P→B):if decide P=true then A else B:=by
 by_cases h:P
 ·rw [if_pos (decide_eq_true h)];exact h1 h
 ·rw [if_neg (by simpa using h)];exact h2 h
theorem zW {P A B:Prop} [Decidable P] (h1:¬ P→A) (h2:P→B):if (!decide P)=true then A else B:=by
 by_cases h:P
 ·rw [if_neg (by simpa using h)];exact h2 h
 ·rw [if_pos (by simpa using h)];exact h1 h
theorem jr {b:Bool} {A B:Prop} (h1:b=true→A) (h2:b=false→B):if b=true then A else B:=by
 cases b
 ·exact h2 rfl
 ·exact h1 rfl
section
variable {K:PySem.W.Frag} {σ : L2.St} {H:Hp} {Q:VK} {ta tb:TE} {a:Addr} {i j:Int}
noncomputable def z5I (y x:V) (H:Hp) (Q:VK):Prop:=∃ a o,x = .ref a∧DGet H a y o∧Q (.bl o.isSome) H
noncomputable def z5J (y x:V) (H:Hp) (Q:VK):Prop:=∃ a o,x = .ref a∧DGet H a y o∧Q (.bl (!o.isSome)) H
theorem zej (h:ta σ H fun y H1=>tb σ H1 fun x H2=>z5I y x H2 Q):zb6 ta tb σ H Q:=h
theorem zel (h:ta σ H fun y H1=>tb σ H1 fun x H2=>z5J y x H2 Q):z5t ta tb σ H Q:=h
theorem z3O {L:Lay} {m:HouM} {C:Cs} (hs:Hs C H L m) (h:Q (.bl (!(gI m.trades i).isSome)) H):z5J (.int i) (V.ref (L.ad .tr)) H Q:=by
 refine ⟨_,_,rfl,DGet.k (k:=Sum.inl i) hs.tr,?_⟩
 rw [z2h,Option.isSome_map];exact h
theorem zer {L:Lay} {m:HouM} {C:Cs} (hs:Hs C H L m) (h:Q (.bl (decide (i∈m.spent))) H):z5I (.int i) (V.ref (L.ad .sp)) H Q:=by
 refine ⟨_,_,rfl,DGet.k (k:=Sum.inl i) hs.sp,?_⟩
 rw [zaR]
 by_cases q:i∈m.spent
 ·rw [if_pos q];rw [decide_eq_true q] at h;exact h
 ·rw [if_neg q];rw [decide_eq_false q] at h;exact h
theorem jp {L:Lay} {m:HouM} {C:Cs} (hs:Hs C H L m) {x:TrdM} (e:gI m.trades i=some x) (h:Q (.ref (L.ad (.trd i))) H):z2m (.ref (L.ad .tr)) (.int i) H Q :=
 ⟨_,_,rfl,by have z:=DGet.k (k:=Sum.inl i) hs.tr;rw [z2h,e] at z;exact z,h⟩
theorem ZF {p:Addr} {l:List Int} (e:H p=some (.lst (l.map V.int))) (h:Q (.int l.length) H):z1O K [.ref p] H Q:=⟨p,_,rfl,.inl (SqL.of e),by rw [List.length_map];exact h⟩
theorem z0v {p:Addr} {n:Nat} {g:Nat→V} (e:H p=some (.lst ((List.range n).map g))) (h:Q (.int n) H):z1O K [.ref p] H Q:=⟨p,_,rfl,.inl (SqL.of e),by rw [List.length_map,List.length_range];exact h⟩
theorem z6Y (h:Q (.int (max i j)) H):z8m [.int i,.int j] H Q:=⟨i,j,rfl,by
 have e:(if j > i then j else i)=max i j:=by rw [Int.max_def];split <;> split <;> omega
 rw [e];exact h⟩
theorem ze3 (h:Q (.int (if i < 0 then -i else i)) H):z8i [.int i] H Q:=⟨i,rfl,h⟩
theorem zV {p:Addr} {l:List Int} {n:Nat} {z:Int} (e:H p=some (.lst (l.map V.int))) (ei:i=(n:Int)) (g:l[n]?=some z) (h:Q (.int z) H):z0N K (.ref p) (.int i) H Q:=z0u (SqL.of e) ei (by rw [List.getElem?_map,g];rfl) h
end
theorem z3h {P R:Prop} [Decidable P] [Decidable R] {Qb:V→Hp→Prop} {H:Hp} (p:P) (h:Qb (.bl (decide (P∧R))) H):Qb (.bl (decide R)) H:=by
 have e:decide (P∧R)=decide R:=by by_cases r:R <;> simp [p,r]
 rw [← e];exact h
theorem z3g {P R:Prop} [Decidable P] [Decidable R] {Qb:V→Hp→Prop} {H:Hp} (p:¬ P) (h:Qb (.bl (decide (P∧R))) H):Qb (.bl false) H:=by
 rw [decide_eq_false (fun q=>p q.1)] at h;exact h
theorem zee {σ : L2.St} {H:Hp} {Q:VK} {j x y:Int} {k:Nat} (e : σ[k]?=some (some (.int j))) (h:Q (.bl (decide (x≤j∧j≤y))) H) :
  z2a (rI0 fun i j=>.bl (decide (i≤j))) (rI0 fun i j=>.bl (decide (i≤j))) (tC (.int x)) (yg k) (tC (.int y)) σ H Q:=by
 refine ⟨_,e,x,j,rfl,rfl,_,rfl,?_⟩
 by_cases p:x≤j
 ·rw [decide_eq_true p]
  refine ⟨j,y,rfl,rfl,?_⟩
  have e2:decide (x≤j∧j≤y)=decide (j≤y):=by by_cases q:j≤y <;> simp [p,q]
  rw [e2] at h;exact h
 ·rw [decide_eq_false p]
  rw [decide_eq_false (fun q=>p q.1)] at h;exact h
end Hy
namespace Hy
open PySem PySem.Spec PyProof.Rows L2 Hx
noncomputable def jT (J:It) (g:TG) (tb:TS) (D:Ends) (σ : L2.St) (H:Hp):Prop:=∃ W:Nat→Nat→L2.St→Hp→Prop,(∃ m,W 0 m σ H)∧∀ i m σ H,W i m σ H →
 (J.stop i H∧D.nx σ H)∨(J.go i H∧∃ N:L2.St→Hp→Prop,(∀ σ' H',N σ' H'→∃ m',m' < m∧W (i + 1) m' σ' H')∧∀ x H',J.yld i H x H'→g x σ H' fun σ2 H2=>tb { D with nx:=N,ct:=N,bk:=D.nx } σ2 H2)
section
variable {K:PySem.W.Frag} {σ : L2.St} {H:Hp} {Q:VK} {D:Ends} {g:TG} {tb:TS} {wi:TI} {t:TS} {td:TE} {d:Addr} {od:Obj} {l:List (Int × Int)} {R:It→Hp→Prop}
theorem zeq (h:wi σ H fun J H1=>jT J g tb D σ H1):zba wi g tb D σ H:=h
theorem j0 {u:HO} (e:H d=some u) (mu:Mut (some u)) (h:∀ od,t ⟨fun σ' H'=>H' d=some (.frz od u)∧D.nx σ' (upd H' d u),fun v H'=>H' d=some (.frz od u)∧D.rt v (upd H' d u),fun σ' H'=>H' d=some (.frz od u)∧D.bk σ' (upd H' d u),fun σ' H'=>H' d=some (.frz od u)∧D.ct σ' (upd H' d u)⟩ σ (upd H d (.frz od u))):zbb t D σ H:=⟨d,u,e,mu,h⟩
noncomputable def z5L (x:V) (H:Hp) (R:It→Hp→Prop):Prop:=∃ d o,x = .ref d∧((∃ kvs,H d=some (.frz o (.dK kvs))∧R (Itk d o kvs) H)∨∃ kvs,H d=some (.frz o (.dT kvs))∧R (z3a d o kvs) H)
theorem zeu (h:td σ H fun x H1=>z5L x H1 R):z6S td σ H R:=h
theorem z3M {kvs:List (Key × V)} (e:H d=some (.frz od (.dK kvs))) (h:R (Itk d od kvs) H):z5L (.ref d) H R:=⟨d,od,rfl,.inl ⟨kvs,e,h⟩⟩
noncomputable def z5K (x:V) (H:Hp) (R:It→Hp→Prop):Prop:=∃ d o kvs,x = .ref d∧H d=some (.frz o (.dK kvs))∧R (Iti d o kvs) H
theorem zet (h:td σ H fun x H1=>z5K x H1 R):z6R td σ H R:=h
theorem z1q {kvs:List (Key × V)} (e:H d=some (.frz od (.dK kvs))) (h:R (Iti d od kvs) H):z5K (.ref d) H R:=⟨d,od,kvs,rfl,e,h⟩
noncomputable def z5S (x:V) (H:Hp) (R:It→Hp→Prop):Prop:=∃ d o kvs,x = .ref d∧H d=some (.frz o (.dK kvs))∧R (Itd d o kvs) H
theorem zeS (h:td σ H fun x H1=>z5S x H1 R):z6V td σ H R:=h
theorem zeT {kvs:List (Key × V)} (e:H d=some (.frz od (.dK kvs))) (h:R (Itd d od kvs) H):z5S (.ref d) H R:=⟨d,od,kvs,rfl,e,h⟩
noncomputable def z5M (K:PySem.W.Frag) (x:V) (H:Hp) (R:It→Hp→Prop):Prop:=∃ a,x = .ref a∧(∃ xs,SqL K H a xs)∧R (Itl K a) H
theorem zev (h:td σ H fun x H1=>z5M K x H1 R):z3F K td σ H R:=h
theorem Y8 {xs:List V} (e:SqL K H d xs) (h:R (Itl K d) H):z5M K (.ref d) H R:=⟨d,rfl,⟨xs,e⟩,h⟩
theorem z3u {i:Nat} {kv:Key × V} (h:(dI l)[i]?=some kv):∃ p,l[i]?=some p∧kv=(Sum.inl p.1,V.int p.2):=by
 unfold dI at h
 rw [List.getElem?_map] at h
 cases e:l[i]? with
 | none=>rw [e] at h;cases h
 | some p=>rw [e] at h;exact ⟨p,rfl,(Option.some.inj h).symm⟩
theorem z3x (Pv:Nat→L2.St→Hp→Prop) (h0:Pv 0 σ H) (hl:∀ i σ H,Pv i σ H→H d=some (.frz od (.dK (dI l))))
  (hs:∀ i p σ H,l[i]?=some p→Pv i σ H→g (.int p.1) σ H fun σ2 H2=>tb { D with nx:=Pv (i + 1),ct:=Pv (i + 1),bk:=D.nx } σ2 H2) (hd:∀ σ H,Pv l.length σ H→D.nx σ H):jT (Itk d od (dI l)) g tb D σ H:=by
 refine ⟨fun i m σ H=>m=l.length - i∧i≤l.length∧Pv i σ H,⟨l.length,by simp,Nat.zero_le _,h0⟩,?_⟩
 rintro i m σ H ⟨rfl,hi,p⟩
 have q:=hl i σ H p
 by_cases hlt:i < l.length
 ·refine .inr ⟨⟨q,by rw [YJ];exact hlt⟩,Pv (i + 1),fun σ' H' p'=>⟨l.length - (i + 1),by omega,rfl,hlt,p'⟩,fun x H' y=>?_⟩
  obtain ⟨e,k,v,y,ex⟩:=y
  subst e ex
  obtain ⟨z,hz,ez⟩:=z3u y
  injection ez with e1 e2
  subst e1
  exact hs i z σ _ hz p
 ·have e:i=l.length:=by omega
  subst e
  exact .inl ⟨⟨q,by rw [YJ];exact Nat.le_refl _⟩,hd σ H p⟩
theorem zda (Pv:Nat→L2.St→Hp→Prop) (h0:Pv 0 σ H) (hl:∀ i σ H,Pv i σ H→H d=some (.frz od (.dK (dI l))))
  (hs:∀ i p σ H,l[i]?=some p→Pv i σ H→g (.int p.2) σ H fun σ2 H2=>tb { D with nx:=Pv (i + 1),ct:=Pv (i + 1),bk:=D.nx } σ2 H2) (hd:∀ σ H,Pv l.length σ H→D.nx σ H):jT (Itd d od (dI l)) g tb D σ H:=by
 refine ⟨fun i m σ H=>m=l.length - i∧i≤l.length∧Pv i σ H,⟨l.length,by simp,Nat.zero_le _,h0⟩,?_⟩
 rintro i m σ H ⟨rfl,hi,p⟩
 have q:=hl i σ H p
 by_cases hlt:i < l.length
 ·refine .inr ⟨⟨q,by rw [YJ];exact hlt⟩,Pv (i + 1),fun σ' H' p'=>⟨l.length - (i + 1),by omega,rfl,hlt,p'⟩,fun x H' y=>?_⟩
  obtain ⟨e,k,y⟩:=y
  subst e
  obtain ⟨z,hz,ez⟩:=z3u y
  injection ez with e1 e2
  subst e2
  exact hs i z σ _ hz p
 ·have e:i=l.length:=by omega
  subst e
  exact .inl ⟨⟨q,by rw [YJ];exact Nat.le_refl _⟩,hd σ H p⟩
theorem z1i (Pv:Nat→L2.St→Hp→Prop) (h0:Pv 0 σ H) (hl:∀ i σ H,Pv i σ H→H d=some (.frz od (.dK (dI l))))
  (hs:∀ i p T σ H,l[i]?=some p→Pv i σ H→H T=none→g (.ref T) σ (upd H T (.tup [.int p.1,.int p.2])) fun σ2 H2=>tb { D with nx:=Pv (i + 1),ct:=Pv (i + 1),bk:=D.nx } σ2 H2) (hd:∀ σ H,Pv l.length σ H→D.nx σ H):jT (Iti d od (dI l)) g tb D σ H:=by
 refine ⟨fun i m σ H=>m=l.length - i∧i≤l.length∧Pv i σ H,⟨l.length,by simp,Nat.zero_le _,h0⟩,?_⟩
 rintro i m σ H ⟨rfl,hi,p⟩
 have q:=hl i σ H p
 by_cases hlt:i < l.length
 ·refine .inr ⟨⟨q,by rw [YJ];exact hlt⟩,Pv (i + 1),fun σ' H' p'=>⟨l.length - (i + 1),by omega,rfl,hlt,p'⟩,fun x H' y=>?_⟩
  obtain ⟨T,k,v,y,ex,hT,eH⟩:=y
  subst eH ex
  obtain ⟨z,hz,ez⟩:=z3u y
  injection ez with e1 e2
  subst e1 e2
  exact hs i z T σ _ hz p hT
 ·have e:i=l.length:=by omega
  subst e
  exact .inl ⟨⟨q,by rw [YJ];exact Nat.le_refl _⟩,hd σ H p⟩
theorem Yu {xs:List V} (Pv:Nat→L2.St→Hp→Prop) (h0:Pv 0 σ H) (hl:∀ i σ H,i≤xs.length→Pv i σ H→SqL K H d xs)
  (hs:∀ i x σ H,xs[i]?=some x→Pv i σ H→g x σ H fun σ2 H2=>tb { D with nx:=Pv (i + 1),ct:=Pv (i + 1),bk:=D.nx } σ2 H2) (hd:∀ σ H,Pv xs.length σ H→D.nx σ H):jT (Itl K d) g tb D σ H:=zd8 Pv h0 hl hs hd
theorem z6y {lo:Int} {n:Nat} (Pv:Nat→L2.St→Hp→Prop) (h0:Pv 0 σ H)
  (hs:∀ i σ H,i < n→Pv i σ H→g (.int (lo + i)) σ H fun σ2 H2=>tb { D with nx:=Pv (i + 1),ct:=Pv (i + 1),bk:=D.nx } σ2 H2) (hd:∀ σ H,Pv n σ H→D.nx σ H):jT (Itr lo n) g tb D σ H:=zd9 Pv h0 hs hd
theorem jq {i j:Nat} {a:Addr} {x y:V} {Qs:L2.St→Hp→Prop} (e:H a=some (.tup [x,y])) (h:Qs ((σ.set i (some x)).set j (some y)) H):z3A K 2 (z3z (Y5 i) (z3z (Y5 j) z6C)) (.ref a) σ H Qs :=
 ⟨a,[x,y],rfl,SqT.of e,rfl,x,[y],rfl,y,[],rfl,rfl,h⟩
variable {C dx a:Addr} {fs:List (Str × V)} {f:Str} {y v:V} {Qh:Hp→Prop} {ta tv:TE}
theorem zy (e:H a=some (.ins C dx fs)) (c:Cls K C) (n:NoAttr K C f) (l:fs.length < 1000) (q:Qh (upd H a (.ins C dx (zh f y fs)))):z5P K f y (.ref a) H Qh:=⟨a,C,dx,fs,rfl,e,c,n,l,q⟩
noncomputable def z5G (K:PySem.W.Frag) (rd:V→V→Hp→VK→Prop) (tv:TE) (f:Str) (D:Ends) (σ : L2.St) (x:V) (H:Hp):Prop:=∃ a C dx fs v,x = .ref a∧H a=some (.ins C dx fs)∧Cls K C∧NoAttr K C f∧fs.lookup f=some v ∧
 tv σ H fun y H2=>rd v y H2 fun z H3=>∃ dx' fs',H3 a=some (.ins C dx' fs')∧fs'.length < 1000∧D.nx σ (upd H3 a (.ins C dx' (zh f z fs')))
theorem ze7 {rd:V→V→Hp→VK→Prop} (h:ta σ H fun x H1=>z5G K rd tv f D σ x H1):z4W K ta tv rd f D σ H:=h
theorem z3H {rd:V→V→Hp→VK→Prop} (e:H a=some (.ins C dx fs)) (c:Cls K C) (n:NoAttr K C f) (l:fs.lookup f=some v) (h:tv σ H fun y H2=>rd v y H2 fun z H3=>∃ dx' fs',H3 a=some (.ins C dx' fs')∧fs'.length < 1000∧D.nx σ (upd H3 a (.ins C dx' (zh f z fs')))):z5G K rd tv f D σ (.ref a) H :=
 ⟨a,C,dx,fs,v,rfl,e,c,n,l,h⟩
theorem zek (h:∀ p,H p=none→Q (.ref p) (upd H p (.dK []))):zb7 σ H Q:=h
noncomputable def z2l (x y v:V) (H:Hp) (Qh:Hp→Prop):Prop:=∃ a H4,x = .ref a∧DPut H a y v H4∧Qh H4
theorem zen {ty:TE} (h:tv σ H fun v H1=>td σ H1 fun x H2=>ty σ H2 fun y H3=>z2l x y v H3 (D.nx σ)):z8G td ty tv D σ H:=h
theorem z3J {kvs:List (Key × V)} {k:Key} (e:H a=some (.dK kvs)) (hl:kvs.length < sizeLine) (h:Qh (upd H a (.dK (yB kvs k v)))):z2l (.ref a) (kV k) v H Qh:=⟨a,_,rfl,DPut.k e hl,h⟩
theorem z1p {i z:Int} (e:H a=some (.dK (dI l))) (hl:l.length < sizeLine) (h:Qh (upd H a (.dK (dI (zP l i z))))):z2l (.ref a) (.int i) (.int z) H Qh:=by
 refine z3J (k:=Sum.inl i) e (by rw [YJ];exact hl) ?_
 rw [z8f];exact h
noncomputable def zbE (rd:V→V→Hp→VK→Prop) (tv:TE) (D:Ends) (σ : L2.St) (x y:V) (H:Hp):Prop:=∃ a v,x = .ref a∧DGet H a y (some v)∧tv σ H fun y2 H3=>rd v y2 H3 fun z H4=>∃ H5,DPut H4 a y z H5∧D.nx σ H5
theorem zeg {ty:TE} {rd:V→V→Hp→VK→Prop} (h:td σ H fun x H1=>ty σ H1 fun y H2=>zbE rd tv D σ x y H2):z8F td ty tv rd D σ H:=h
theorem zea {T:String} {r:V→List V→Hp→VK→Prop} {ta2:TA} (h:ta σ H fun x H1=>tyV K T x H1∧ta2 σ H1 fun vs H2=>r x vs H2 Q):tBM K T r ta ta2 σ H Q:=h
theorem Z0 {xs:List V} {p:Addr} (e:H p=some (.lst xs)):tyV K "list" (.ref p) H:=.inl ⟨rfl,_,SqL.of e⟩
theorem YB {xs:List V} {p:Addr} (e:H p=some (.lst xs)) (hl:xs.length < sizeLine) (h:Q .non (upd H p (.lst (xs ++ [y])))):z4M (.ref p) [y] H Q:=⟨p,xs,y,rfl,rfl,e,hl,h⟩
theorem jb {xs zs:List V} {p b:Addr} (e:H p=some (.lst xs)) (eb:H b=some (.lst zs)) (hl:xs.length + zs.length≤sizeLine) (h:Q .non (upd H p (.lst (xs ++ zs)))):z4N (.ref p) [.ref b] H Q:=⟨p,b,xs,zs,rfl,rfl,e,eb,hl,h⟩
theorem z0P {xs zs:List V} {p b:Addr} (e:H p=some (.lst xs)) (eb:H b=some (.lst zs)) (hl:xs.length + zs.length≤sizeLine) (h:∀ q,H q=none→Q (.ref q) (upd H q (.lst (xs ++ zs)))):z8k (.ref p) (.ref b) H Q:=⟨p,b,xs,zs,rfl,rfl,e,eb,hl,h⟩
theorem ze8 {te:TE} {ti:TIp} {x:V} {i:Nat} (e : σ[i]?=some (some x)) (h:te σ H fun y H1=>ti x y H1 fun z H2=>D.nx (σ.set i (some z)) H2):zb3 i te ti D σ H:=⟨x,e,h⟩
theorem zex {sp:Sp} {E:XK} {as:TA} {C:Addr} (h:as σ H fun vs H1=>∀ x dx,H1 x=none→H1 dx=none→dx≠x→sp (.ref x :: (vs ++ [])) (upd (upd H1 dx (.own x)) x (.ins C dx [])) (fun v H2=>v = .non∧Q (.ref x) H2) E):z0V C sp [] E as σ H Q:=h
end
section
variable {K:PySem.W.Frag} {σ : L2.St} {H:Hp} {Q:VK} {D:Ends} {R:It→Hp→Prop} {ta:TA} {td:TE}
noncomputable def z5Q (vs:List V) (H:Hp) (R:It→Hp→Prop):Prop:=∃ j:Int,vs=[.int j]∧-(2 ^ 62)≤j∧j < 2 ^ 62∧R (Itr 0 j.toNat) H
theorem zeK (h:ta σ H fun vs H1=>z5Q vs H1 R):z6T ta σ H R:=h
theorem zeL {j:Int} (h1:-(2 ^ 62)≤j) (h2:j < 2 ^ 62) (h:R (Itr 0 j.toNat) H):z5Q [.int j] H R:=⟨j,rfl,h1,h2,h⟩
noncomputable def z5R (vs:List V) (H:Hp) (R:It→Hp→Prop):Prop:=∃ i j:Int,vs=[.int i,.int j]∧(-(2 ^ 62)≤i∧i < 2 ^ 62∧-(2 ^ 62)≤j∧j < 2 ^ 62)∧R (Itr i (j - i).toNat) H
theorem zeM (h:ta σ H fun vs H1=>z5R vs H1 R):z6U ta σ H R:=h
theorem zeN {i j:Int} (h1:-(2 ^ 62)≤i∧i < 2 ^ 62∧-(2 ^ 62)≤j∧j < 2 ^ 62) (h:R (Itr i (j - i).toNat) H):z5R [.int i,.int j] H R:=⟨i,j,rfl,h1,h⟩
end
theorem lp0 {f:Str} {v:V} {fs:List (Str × V)} {n:Nat} (h:fs.length + 1 < n):(zh f v fs).length < n:=Nat.lt_of_le_of_lt (z1s f v fs) h
theorem lp1 {f:Str} {v:V} {fs:List (Str × V)} {n k:Nat} (h:fs.length + (k + 1) < n):(zh f v fs).length + k < n:=Nat.lt_of_le_of_lt (Nat.add_le_add_right (z1s f v fs) k) (by omega)
theorem yL {α : Type} {l:List α} {i:Nat} {x : α} (h:l[i]?=some x):l.take (i + 1)=l.take i ++ [x]:=by rw [List.take_succ,h];rfl
theorem ze9 {σ : L2.St} {H:Hp} {D:Ends} {to ti te:TE} {tget:V→V→Hp→VK→Prop} {tip:TIp} {tset:z10} (h:to σ H fun o H1=>ti σ H1 fun i H2=>tget o i H2 fun x H3=>te σ H3 fun y H4=>tip x y H4 fun z H5=>tset o i z H5 fun H6=>D.nx σ H6):zb4 to ti te tget tip tset D σ H:=h
theorem ye {H:Hp} {a:Addr} {o o':HO}:upd (upd H a o) a o'=upd H a o':=by
 funext b
 by_cases h:b=a
 ·subst h;rw [z9,z9]
 ·rw [z6 h,z6 h,z6 h]
theorem zdT {l:List Int} {j:Nat} (h:j < l.length):(l.map V.int)[j]?=some (V.int l[j]):=by rw [List.getElem?_map,List.getElem?_eq_getElem h];rfl
theorem zkk {l:List Int} {j:Nat} (h:j < l.length) (x:Int):(l.map V.int).set j (V.int (l[j] + x))=(l.modify j fun v=>v + x).map V.int:=by
 apply List.ext_getElem?
 intro i
 rw [List.getElem?_map,List.getElem?_modify]
 by_cases e:j=i
 ·subst e
  rw [List.getElem?_set_self (by rw [List.length_map];exact h),List.getElem?_eq_getElem h]
  show _=some (V.int (if j=j then l[j] + x else l[j]))
  rw [if_pos rfl]
 ·rw [List.getElem?_set_ne e,List.getElem?_map]
  cases l[i]? with
  | none=>rfl
  | some v=>show some (V.int v)=some (V.int (if j=i then v + x else v));rw [if_neg e]
theorem z8o {K:PySem.W.Frag} {H:Hp} {Q:VK} {p:Addr} {l:List Int} {z:Int} {j:Nat} (e:H p=some (.lst (l.map V.int))) (hz:z=(j:Int)) (h:j < l.length) (q:Q (.int l[j]) H):z4O K (.ref p) (.int z) H Q:=by
 subst hz
 exact ⟨p,_,_,_,rfl,rfl,SqL.of e,by omega,by rw [show ((j:Int)).toNat=j by omega];exact zdT h,q⟩
theorem z8p {H:Hp} {Qh:Hp→Prop} {p:Addr} {l:List Int} {z x:Int} {j:Nat} (e:H p=some (.lst (l.map V.int))) (hz:z=(j:Int)) (h:j < l.length) (q:Qh (upd H p (.lst ((l.modify j fun v=>v + x).map V.int)))):z8n (.ref p) (.int z) (.int (l[j] + x)) H Qh:=by
 subst hz
 refine ⟨p,_,_,j,rfl,rfl,e,?_,by rw [zkk h];exact q⟩
 unfold ixN
 rw [List.length_map,if_pos (by omega),if_pos (by omega)]
 congr 1
theorem zdP {σ : L2.St} {H:Hp} {Q:VK} {C:Addr} {m:Str} {sp:Sp} {E:XK} {as:TA} {x:V} (h:z0Z C m sp E as σ x H Q):z0Z C m sp E as σ x H Q:=h
theorem YZ {K:PySem.W.Frag} {H:Hp} {Q:VK} {C:Cs} {L:Lay} {m:HouM} (hs:Hs C H L m) {c:Int} (hc:inN m.cons.length c) (h:Q (.ref (L.ad (.con (c.toNat - 1)))) H):z0N K (.ref (L.ad .cl)) (.int (c - 1)) H Q:=by
 have h1:=hc.1
 have h2:=hc.2
 refine z0u (SqL.of hs.cl) (k:=c.toNat - 1) (by omega) ?_ h
 rw [List.getElem?_map,List.getElem?_range (by omega)];rfl
noncomputable def yk (C:Cs) (L:Lay) (m:HouM) (p:Addr):Prop:=∀ n,(cont C L m n).isSome=true→L.ad n≠p
section
variable {C:Cs} {H H':Hp} {L L':Lay} {m m':HouM} {p:Addr} {o:HO}
theorem Hs.on (h:Hs C H L m) (k:∀ n o,cont C L m n=some o→H' (L.ad n)=some o):Hs C H' L m:=⟨k,h.inj⟩
theorem Hs.updFree (h:Hs C H L m) (f:yk C L m p):Hs C (upd H p o) L m:=h.on fun n u e=>by
 rw [z6 (f n (by rw [e];rfl))];exact h.at_ n u e
theorem Step.same {H2:Hp} (s:Step C H L m H' L' m') (k:Same H' H2):Step C H L m H2 L' m':=fun b u e hb=>⟨k _ _ (s b u e hb).1,(s b u e hb).2⟩
theorem Step.ofSame (k:Same H H'):Step C H L m H' L m:=fun b u e hb=>⟨k _ _ e,hb⟩
theorem Step.keeps (s:Step C H L m H' L' m') (e:H p=some o) (f:yk C L m p):H' p=some o∧yk C L' m' p:=s p o e f
theorem ZM (k:Same H H') (hp:H p=none):Same H (upd H' p o):=fun b u e=>by rw [z6 (zd e hp)];exact k b u e
theorem yC (hp:H p=none):Same H (upd H p o):=ZM (Same.refl H) hp
theorem Hs.ofSame (h:Hs C H L m) (k:Same H H'):Hs C H' L m:=h.same k
end
theorem yW {A B:Prop} {b:Bool} (e:b=true) (h:A):if b=true then A else B:=by rw [if_pos e];exact h
theorem js {A B:Prop} {b:Bool} (e:b=false) (h:B):if b=true then A else B:=by rw [if_neg (by rw [e];decide)];exact h
theorem zaZ (l:List (Nat × Int)):((cI l).map (·.2)).sum=Vbchaa.total l:=by
 unfold cI
 induction l with
 | nil=>rfl
 | cons p l ih=>
  rw [List.map_cons,List.map_cons,List.sum_cons,ih];rfl
end Hy
namespace Hy
open PySem PySem.Spec PyProof.Rows L2 Hx
theorem us0 {α : Type} {C:List α→Prop} (h:C []):∀ us:List α,us.length=0→C us
 | [],_=>h
theorem us1 {α : Type} {C:List α→Prop} (h:∀ a0,C [a0]):∀ us:List α,us.length=1→C us
 | [a0],_=>h a0
theorem us2 {α : Type} {C:List α→Prop} (h:∀ a0 a1,C [a0,a1]):∀ us:List α,us.length=2→C us
 | [a0,a1],_=>h a0 a1
theorem us3 {α : Type} {C:List α→Prop} (h:∀ a0 a1 a2,C [a0,a1,a2]):∀ us:List α,us.length=3→C us
 | [a0,a1,a2],_=>h a0 a1 a2
theorem us4 {α : Type} {C:List α→Prop} (h:∀ a0 a1 a2 a3,C [a0,a1,a2,a3]):∀ us:List α,us.length=4→C us
 | [a0,a1,a2,a3],_=>h a0 a1 a2 a3
theorem us5 {α : Type} {C:List α→Prop} (h:∀ a0 a1 a2 a3 a4,C [a0,a1,a2,a3,a4]):∀ us:List α,us.length=5→C us
 | [a0,a1,a2,a3,a4],_=>h a0 a1 a2 a3 a4
theorem us6 {α : Type} {C:List α→Prop} (h:∀ a0 a1 a2 a3 a4 a5,C [a0,a1,a2,a3,a4,a5]):∀ us:List α,us.length=6→C us
 | [a0,a1,a2,a3,a4,a5],_=>h a0 a1 a2 a3 a4 a5
theorem us7 {α : Type} {C:List α→Prop} (h:∀ a0 a1 a2 a3 a4 a5 a6,C [a0,a1,a2,a3,a4,a5,a6]):∀ us:List α,us.length=7→C us
 | [a0,a1,a2,a3,a4,a5,a6],_=>h a0 a1 a2 a3 a4 a5 a6
noncomputable def top (i:Nat):Stmt:=PySem.Challenge.pw_houseturns_s01_answers.main.body.getD i (.Pass ⟨0,0,0,0⟩)
noncomputable abbrev z8P:Stmt:=ZU (top 2) 0
noncomputable abbrev z97:Stmt:=top 3
noncomputable abbrev z9t:Stmt:=top 4
noncomputable abbrev z95:Stmt:=top 5
noncomputable abbrev z9g:Stmt:=top 6
noncomputable abbrev z9p:Stmt:=top 7
noncomputable abbrev z8Y:Stmt:=top 8
noncomputable abbrev z94:Stmt:=top 9
noncomputable abbrev z9L:Stmt:=top 10
noncomputable abbrev z8H:Stmt:=ZU (top 17) 0
noncomputable abbrev z8I:Stmt:=ZU (top 17) 1
noncomputable abbrev z8Q:Stmt:=ZU (top 18) 0
noncomputable abbrev z8M:Stmt:=ZU (top 19) 0
noncomputable abbrev z8J:Stmt:=ZU (top 19) 1
noncomputable abbrev z8L:Stmt:=ZU (top 19) 2
noncomputable abbrev z8K:Stmt:=ZU (top 19) 3
noncomputable abbrev z8O:Stmt:=ZU (top 19) 4
noncomputable abbrev z8N:Stmt:=ZU (top 19) 5
noncomputable abbrev z9i:Stmt:=top 20
noncomputable abbrev z9e:Stmt:=top 21
noncomputable abbrev z9k:Stmt:=top 22
noncomputable abbrev z99:Stmt:=top 40
noncomputable abbrev z98:Stmt:=top 41
noncomputable abbrev z9m:Stmt:=top 48
noncomputable abbrev z9o:Stmt:=top 49
noncomputable abbrev z91:Stmt:=top 50
noncomputable abbrev z92:Stmt:=top 51
noncomputable abbrev z9n:Stmt:=top 52
noncomputable abbrev z96:Stmt:=top 59
noncomputable abbrev z8Z:Stmt:=top 60
noncomputable abbrev z9a:Stmt:=top 61
noncomputable abbrev z9F:Stmt:=top 62
noncomputable abbrev z9G:Stmt:=top 63
noncomputable abbrev z9E:Stmt:=top 64
noncomputable abbrev z9h:Stmt:=top 65
noncomputable abbrev z8S:Stmt:=top 66
noncomputable abbrev z9J:Stmt:=top 67
noncomputable abbrev z8R:Stmt:=top 68
noncomputable abbrev z9d:Stmt:=top 69
noncomputable abbrev z9c:Stmt:=top 70
noncomputable abbrev z9r:Stmt:=top 71
noncomputable abbrev z9s:Stmt:=top 72
noncomputable abbrev z9v:Stmt:=top 73
noncomputable abbrev z9f:Stmt:=top 74
noncomputable abbrev z9u:Stmt:=top 75
noncomputable abbrev z8X:Stmt:=top 80
noncomputable abbrev z9z:Stmt:=top 81
noncomputable abbrev z9l:Stmt:=top 82
noncomputable abbrev z9A:Stmt:=top 83
noncomputable abbrev z9w:Stmt:=top 84
noncomputable abbrev z9B:Stmt:=top 85
noncomputable abbrev z9K:Stmt:=top 86
noncomputable abbrev z9D:Stmt:=top 87
noncomputable abbrev z9y:Stmt:=top 88
noncomputable abbrev z9q:Stmt:=top 89
noncomputable abbrev z9H:Stmt:=top 90
noncomputable abbrev z9C:Stmt:=top 91
noncomputable abbrev z93:Stmt:=top 92
noncomputable abbrev z9x:Stmt:=top 93
noncomputable abbrev z9I:Stmt:=top 95
noncomputable abbrev z9b:Stmt:=top 96
noncomputable abbrev z9j:Stmt:=top 97
noncomputable abbrev z4Z:Stmt:=top 98
noncomputable abbrev z90:Stmt:=top 99
noncomputable abbrev z4Y:Stmt:=top 100
noncomputable abbrev z8V:Stmt:=top 119
noncomputable abbrev z8W:Stmt:=top 120
noncomputable abbrev z8T:Stmt:=top 121
noncomputable abbrev z8U:Stmt:=top 122
noncomputable abbrev z4X:Stmt:=top 123
theorem z9M:FnScope ["self", "base", "account"] ["self", "base"] (zl z8P):=⟨rfl,rfl,rfl,by decide +kernel,rfl,by decide +kernel,by decide +kernel⟩
theorem zk1:FnScope [] [] (zl z97):=⟨rfl,rfl,rfl,by decide +kernel,rfl,by decide +kernel,by decide +kernel⟩
theorem z54:FnScope ["held", "base", "account"] ["held"] (zl z9t):=⟨rfl,rfl,rfl,by decide +kernel,rfl,by decide +kernel,by decide +kernel⟩
theorem z9R:FnScope ["run", "account", "lots"] ["run", "account"] (zl z95):=⟨rfl,rfl,rfl,by decide +kernel,rfl,by decide +kernel,by decide +kernel⟩
theorem zk6:FnScope ["run", "account"] ["run", "account"] (zl z9g):=⟨rfl,rfl,rfl,by decide +kernel,rfl,by decide +kernel,by decide +kernel⟩
theorem jI:FnScope ["run", "chosen", "least", "account", "own"] ["run"] (zl z9p):=⟨rfl,rfl,rfl,by decide +kernel,rfl,by decide +kernel,by decide +kernel⟩
theorem jG:FnScope ["run", "n", "before", "step", "account", "got", "lots"] ["run", "n"] (zl z8Y):=⟨rfl,rfl,rfl,by decide +kernel,rfl,by decide +kernel,by decide +kernel⟩
theorem z9Q:FnScope ["run", "copied"] ["run"] (zl z94):=⟨rfl,rfl,rfl,by decide +kernel,rfl,by decide +kernel,by decide +kernel⟩
theorem zki:FnScope ["run", "n"] ["run", "n"] (zl z9L):=⟨rfl,rfl,rfl,by decide +kernel,rfl,by decide +kernel,by decide +kernel⟩
theorem zjK:FnScope ["self", "number", "kind", "underlying", "strike", "multiple", "expiry"] ["self", "number", "kind", "underlying", "strike", "multiple", "expiry"] (zl z8H):=⟨rfl,rfl,rfl,by decide +kernel,rfl,by decide +kernel,by decide +kernel⟩
theorem zjL:FnScope ["self", "account"] ["self", "account"] (zl z8I):=⟨rfl,rfl,rfl,by decide +kernel,rfl,by decide +kernel,by decide +kernel⟩
theorem zjS:FnScope ["self", "contract", "buyer", "seller", "lots", "price"] ["self", "contract", "buyer", "seller", "lots", "price"] (zl z8Q):=⟨rfl,rfl,rfl,by decide +kernel,rfl,by decide +kernel,by decide +kernel⟩
theorem zjP:FnScope ["self"] ["self"] (zl z8M):=⟨rfl,rfl,rfl,by decide +kernel,rfl,by decide +kernel,by decide +kernel⟩
theorem zjM:FnScope ["self", "a"] ["self", "a"] (zl z8J):=⟨rfl,rfl,rfl,by decide +kernel,rfl,by decide +kernel,by decide +kernel⟩
theorem zjO:FnScope ["self", "u"] ["self", "u"] (zl z8L):=⟨rfl,rfl,rfl,by decide +kernel,rfl,by decide +kernel,by decide +kernel⟩
theorem zjN:FnScope ["self", "c"] ["self", "c"] (zl z8K):=⟨rfl,rfl,rfl,by decide +kernel,rfl,by decide +kernel,by decide +kernel⟩
theorem zjR:FnScope ["self", "contract"] ["self", "contract"] (zl z8O):=⟨rfl,rfl,rfl,by decide +kernel,rfl,by decide +kernel,by decide +kernel⟩
theorem zjQ:FnScope ["self", "contract", "account", "lots", "money"] ["self", "contract", "account", "lots", "money"] (zl z8N):=⟨rfl,rfl,rfl,by decide +kernel,rfl,by decide +kernel,by decide +kernel⟩
theorem zk8:FnScope ["p"] ["p"] (zl z9i):=⟨rfl,rfl,rfl,by decide +kernel,rfl,by decide +kernel,by decide +kernel⟩
theorem zk4:FnScope ["contract", "account", "lots"] ["contract", "account", "lots"] (zl z9e):=⟨rfl,rfl,rfl,by decide +kernel,rfl,by decide +kernel,by decide +kernel⟩
theorem zk9:FnScope ["contract", "price"] ["contract", "price"] (zl z9k):=⟨rfl,rfl,rfl,by decide +kernel,rfl,by decide +kernel,by decide +kernel⟩
theorem z9S:FnScope ["house", "a", "c", "n", "contract"] ["house", "a", "c", "n"] (zl z99):=⟨rfl,rfl,rfl,by decide +kernel,rfl,by decide +kernel,by decide +kernel⟩
theorem jc:FnScope ["house", "a", "c", "n", "refusal", "contract", "pay", "answer", "got", "account", "lots"] ["house", "a", "c", "n"] (zl z98):=⟨rfl,rfl,rfl,by decide +kernel,rfl,by decide +kernel,by decide +kernel⟩
theorem zka:FnScope ["house"] ["house"] (zl z9m):=⟨rfl,rfl,rfl,by decide +kernel,rfl,by decide +kernel,by decide +kernel⟩
theorem zkb:FnScope ["house", "p"] ["house", "p"] (zl z9o):=⟨rfl,rfl,rfl,by decide +kernel,rfl,by decide +kernel,by decide +kernel⟩
theorem zjZ:FnScope ["kind", "strike", "multiple", "expiry"] ["kind", "strike", "multiple", "expiry"] (zl z91):=⟨rfl,rfl,rfl,by decide +kernel,rfl,by decide +kernel,by decide +kernel⟩
theorem zk0:FnScope ["house", "kind", "u", "strike", "multiple", "expiry"] ["house", "kind", "u", "strike", "multiple", "expiry"] (zl z92):=⟨rfl,rfl,rfl,by decide +kernel,rfl,by decide +kernel,by decide +kernel⟩
theorem z53:FnScope ["house", "kind", "u", "strike", "multiple", "expiry", "refusal", "number"] ["house", "kind", "u", "strike", "multiple", "expiry"] (zl z9n):=⟨rfl,rfl,rfl,by decide +kernel,rfl,by decide +kernel,by decide +kernel⟩
theorem z51:FnScope ["house", "contract", "account", "lots", "price", "gain"] ["house", "contract", "account", "lots", "price"] (zl z96):=⟨rfl,rfl,rfl,by decide +kernel,rfl,by decide +kernel,by decide +kernel⟩
theorem zjY:FnScope ["contract"] ["contract"] (zl z8Z):=⟨rfl,rfl,rfl,by decide +kernel,rfl,by decide +kernel,by decide +kernel⟩
theorem zk2:FnScope ["deal"] ["deal"] (zl z9a):=⟨rfl,rfl,rfl,by decide +kernel,rfl,by decide +kernel,by decide +kernel⟩
theorem zkh:FnScope ["key", "lots", "price"] ["key", "lots", "price"] (zl z9F):=⟨rfl,rfl,rfl,by decide +kernel,rfl,by decide +kernel,by decide +kernel⟩
theorem z9W:FnScope ["house", "key", "c", "buyer", "seller", "lots", "price", "contract"] ["house", "key", "c", "buyer", "seller", "lots", "price"] (zl z9G):=⟨rfl,rfl,rfl,by decide +kernel,rfl,by decide +kernel,by decide +kernel⟩
theorem z57:FnScope ["house", "key", "c", "buyer", "seller", "lots", "price", "refusal", "contract"] ["house", "key", "c", "buyer", "seller", "lots", "price"] (zl z9E):=⟨rfl,rfl,rfl,by decide +kernel,rfl,by decide +kernel,by decide +kernel⟩
theorem zk7:FnScope ["deal", "a"] ["deal", "a"] (zl z9h):=⟨rfl,rfl,rfl,by decide +kernel,rfl,by decide +kernel,by decide +kernel⟩
theorem z9N:FnScope ["house", "key", "a", "deal"] ["house", "key", "a"] (zl z8S):=⟨rfl,rfl,rfl,by decide +kernel,rfl,by decide +kernel,by decide +kernel⟩
theorem z9Z:FnScope ["house", "key", "deal"] ["house", "key"] (zl z9J):=⟨rfl,rfl,rfl,by decide +kernel,rfl,by decide +kernel,by decide +kernel⟩
theorem z50:FnScope ["house", "key", "a", "refusal", "deal"] ["house", "key", "a"] (zl z8R):=⟨rfl,rfl,rfl,by decide +kernel,rfl,by decide +kernel,by decide +kernel⟩
theorem z9T:FnScope ["house", "key", "side", "taker", "deal"] ["house", "key", "side", "taker"] (zl z9d):=⟨rfl,rfl,rfl,by decide +kernel,rfl,by decide +kernel,by decide +kernel⟩
theorem z52:FnScope ["house", "key", "side", "taker", "refusal", "deal"] ["house", "key", "side", "taker"] (zl z9c):=⟨rfl,rfl,rfl,by decide +kernel,rfl,by decide +kernel,by decide +kernel⟩
theorem zkd:FnScope ["deal"] ["deal"] (zl z9r):=⟨rfl,rfl,rfl,by decide +kernel,rfl,by decide +kernel,by decide +kernel⟩
theorem zke:FnScope ["deal"] ["deal"] (zl z9s):=⟨rfl,rfl,rfl,by decide +kernel,rfl,by decide +kernel,by decide +kernel⟩
theorem z55:FnScope ["house", "key", "deal", "lots"] ["house", "key"] (zl z9v):=⟨rfl,rfl,rfl,by decide +kernel,rfl,by decide +kernel,by decide +kernel⟩
theorem zk5:FnScope ["deal"] ["deal"] (zl z9f):=⟨rfl,rfl,rfl,by decide +kernel,rfl,by decide +kernel,by decide +kernel⟩
theorem z1Y:FnScope ["house", "key", "refusal", "deal", "lots"] ["house", "key"] (zl z9u):=⟨rfl,rfl,rfl,by decide +kernel,rfl,by decide +kernel,by decide +kernel⟩
theorem zjX:FnScope ["holds"] ["holds"] (zl z8X):=⟨rfl,rfl,rfl,by decide +kernel,rfl,by decide +kernel,by decide +kernel⟩
theorem zkg:FnScope ["house", "a", "c"] ["house", "a", "c"] (zl z9z):=⟨rfl,rfl,rfl,by decide +kernel,rfl,by decide +kernel,by decide +kernel⟩
theorem z1W:FnScope ["house", "a", "held", "contract", "lots"] ["house", "a"] (zl z9l):=⟨rfl,rfl,rfl,by decide +kernel,rfl,by decide +kernel,by decide +kernel⟩
theorem z20:FnScope ["house", "a", "answer", "c", "lots"] ["house", "a"] (zl z9A):=⟨rfl,rfl,rfl,by decide +kernel,rfl,by decide +kernel,by decide +kernel⟩
theorem zkf:FnScope ["house", "a"] ["house", "a"] (zl z9w):=⟨rfl,rfl,rfl,by decide +kernel,rfl,by decide +kernel,by decide +kernel⟩
theorem z0Q:FnScope ["house", "c", "run", "answer", "account", "lots"] ["house", "c"] (zl z9B):=⟨rfl,rfl,rfl,by decide +kernel,rfl,by decide +kernel,by decide +kernel⟩
theorem za0:FnScope ["house", "c", "n", "run"] ["house", "c", "n"] (zl z9K):=⟨rfl,rfl,rfl,by decide +kernel,rfl,by decide +kernel,by decide +kernel⟩
theorem z07:FnScope ["house", "c", "n", "refusal", "answer", "got", "account", "lots"] ["house", "c", "n"] (zl z9D):=⟨rfl,rfl,rfl,by decide +kernel,rfl,by decide +kernel,by decide +kernel⟩
theorem z1Z:FnScope ["house", "c", "short", "lots"] ["house", "c"] (zl z9y):=⟨rfl,rfl,rfl,by decide +kernel,rfl,by decide +kernel,by decide +kernel⟩
theorem zkc:FnScope ["deal"] ["deal"] (zl z9q):=⟨rfl,rfl,rfl,by decide +kernel,rfl,by decide +kernel,by decide +kernel⟩
theorem z9X:FnScope ["key", "deal", "sides"] ["key", "deal"] (zl z9H):=⟨rfl,rfl,rfl,by decide +kernel,rfl,by decide +kernel,by decide +kernel⟩
theorem z56:FnScope ["house", "answer", "key"] ["house"] (zl z9C):=⟨rfl,rfl,rfl,by decide +kernel,rfl,by decide +kernel,by decide +kernel⟩
theorem z9P:FnScope ["contract", "terms"] ["contract"] (zl z93):=⟨rfl,rfl,rfl,by decide +kernel,rfl,by decide +kernel,by decide +kernel⟩
theorem z06:FnScope ["house", "answer", "contract", "a", "c", "lots"] ["house"] (zl z9x):=⟨rfl,rfl,rfl,by decide +kernel,rfl,by decide +kernel,by decide +kernel⟩
theorem z9Y:FnScope ["house", "prices", "p"] ["house", "prices"] (zl z9I):=⟨rfl,rfl,rfl,by decide +kernel,rfl,by decide +kernel,by decide +kernel⟩
theorem zk3:FnScope ["house", "contract"] ["house", "contract"] (zl z9b):=⟨rfl,rfl,rfl,by decide +kernel,rfl,by decide +kernel,by decide +kernel⟩
theorem z9U:FnScope ["house", "contract", "prices", "price"] ["house", "contract", "prices"] (zl z9j):=⟨rfl,rfl,rfl,by decide +kernel,rfl,by decide +kernel,by decide +kernel⟩
theorem jH:FnScope ["house", "prices", "grown", "a", "contract", "gain", "account", "lots"] ["house", "prices"] (zl z4Z):=⟨rfl,rfl,rfl,by decide +kernel,rfl,by decide +kernel,by decide +kernel⟩
theorem z9O:FnScope ["house", "contract"] ["house"] (zl z90):=⟨rfl,rfl,rfl,by decide +kernel,rfl,by decide +kernel,by decide +kernel⟩
theorem z05:FnScope ["house", "prices", "refusal", "grown", "cash", "more"] ["house", "prices"] (zl z4Y):=⟨rfl,rfl,rfl,by decide +kernel,rfl,by decide +kernel,by decide +kernel⟩
theorem zjU:FnScope ["house", "number", "row"] ["house", "number", "row"] (zl z8V):=⟨rfl,rfl,rfl,by decide +kernel,rfl,by decide +kernel,by decide +kernel⟩
theorem zjV:FnScope ["house", "number", "row"] ["house", "number", "row"] (zl z8W):=⟨rfl,rfl,rfl,by decide +kernel,rfl,by decide +kernel,by decide +kernel⟩
theorem zjT:FnScope ["house", "number", "row"] ["house", "number", "row"] (zl z8T):=⟨rfl,rfl,rfl,by decide +kernel,rfl,by decide +kernel,by decide +kernel⟩
theorem Yi:FnScope ["house", "calls", "told", "at", "number", "start", "end", "answer"] ["house", "calls"] (zl z8U):=⟨rfl,rfl,rfl,by decide +kernel,rfl,by decide +kernel,by decide +kernel⟩
theorem zjW:FnScope ["calls"] ["calls"] (zl z4X):=⟨rfl,rfl,rfl,by decide +kernel,rfl,by decide +kernel,by decide +kernel⟩
structure Ad where
 zN:Addr
 zF:Addr
 zT:Addr
 zM:Addr
 J4:Addr
 YN:Addr
 Jw:Addr
 Jh:Addr
 Jp:Addr
 Ju:Addr
 YM:Addr
 Jg:Addr
 JO:Addr
 z1e:Addr
 YL:Addr
 z1h:Addr
 z1g:Addr
 Yr:Addr
 z1f:Addr
 Ys:Addr
 jk:Addr
 z0n:Addr
 ZD:Addr
 Zo:Addr
 Y4:Addr
 Jk:Addr
 Jj:Addr
 Jr:Addr
 Jt:Addr
 Jd:Addr
 Je:Addr
 Js:Addr
 Zn:Addr
 Y3:Addr
 YO:Addr
 JI:Addr
 JJ:Addr
 JH:Addr
 YR:Addr
 J6:Addr
 JM:Addr
 J5:Addr
 Jm:Addr
 Jl:Addr
 YT:Addr
 YU:Addr
 Jy:Addr
 Jo:Addr
 Jx:Addr
 Yt:Addr
 JC:Addr
 YS:Addr
 JD:Addr
 Jz:Addr
 JE:Addr
 JN:Addr
 JG:Addr
 JB:Addr
 Jv:Addr
 JK:Addr
 JF:Addr
 Jf:Addr
 JA:Addr
 JL:Addr
 YQ:Addr
 Jq:Addr
 Jn:Addr
 Jc:Addr
 Ji:Addr
 J9:Addr
 Ja:Addr
 J7:Addr
 J8:Addr
 Jb:Addr
 z3Z:Addr
abbrev UF (K:PySem.W.Frag) (x qual:Str) (st:Stmt) (f:Addr):Prop:=∃ fd,Fun K x qual st f fd
theorem uf {K:PySem.W.Frag} {x qual:Str} {st:Stmt} {f:Addr} {oc:Value} {od an:Option Addr} {osl:Array (Option Value)} {kV doc pm cdv ct:Value} (l:K.lookup f=some ⟨oc,od,.func (PySem.W.fnOf x qual (ji st) (Yp st) (zl st) .none kV doc pm an cdv ct),osl⟩) (c:PySem.W.codeIn K cdv qual=true) (k:PySem.W.keepIn K (.ref f)=true):UF K x qual st f:=⟨_,zdb l c k⟩
structure Tx (K:PySem.W.Frag) (mg:Str→Option Value) (A:Ad):Prop where
 zN:mg "Run" = some (.ref A.zN)
 ZQ:Cls K A.zN
 z4i:Mk K A.zN A.J4
 z7H:NoAttr K A.zN "base"
 z7I:NoAttr K A.zN "total"
 z4t:NoAttr K A.zN "assigned"
 z1C:NoAttr K A.zN "count"
 zF:mg "Contract" = some (.ref A.zF)
 zZ:Cls K A.zF
 zga:Mk K A.zF A.z1e
 z7D:NoAttr K A.zF "number"
 z7B:NoAttr K A.zF "kind"
 z7F:NoAttr K A.zF "underlying"
 z7E:NoAttr K A.zF "strike"
 z7C:NoAttr K A.zF "multiple"
 z7A:NoAttr K A.zF "expiry"
 z4n:NoAttr K A.zF "over"
 z4m:NoAttr K A.zF "held"
 z1B:NoAttr K A.zF "run"
 z4l:NoAttr K A.zF "exercised"
 zT:mg "Trade" = some (.ref A.zT)
 zU:Cls K A.zT
 zgc:Mk K A.zT A.z1h
 z7J:NoAttr K A.zT "contract"
 z4u:NoAttr K A.zT "buyer"
 z4w:NoAttr K A.zT "seller"
 z7L:NoAttr K A.zT "lots"
 z7M:NoAttr K A.zT "price"
 z0F:NoAttr K A.zT "buyer_agreed"
 z0G:NoAttr K A.zT "seller_agreed"
 z0H:NoAttr K A.zT "taker"
 z4v:NoAttr K A.zT "offered_side"
 z7K:NoAttr K A.zT "exercised_before"
 zM:mg "House" = some (.ref A.zM)
 zO:Cls K A.zM
 zgb:Mk K A.zM A.z1g
 z4s:NoAttr K A.zM "turn"
 z4p:NoAttr K A.zM "prices"
 z7G:NoAttr K A.zM "contracts"
 z4o:NoAttr K A.zM "cash"
 z4r:NoAttr K A.zM "trades"
 z4q:NoAttr K A.zM "spent"
 zl7:UF K "__init__" "Run.__init__" z8P A.J4
 YN:mg "empty_run" = some (.ref A.YN)
 zlq:UF K "empty_run" "empty_run" z97 A.YN
 Jw:mg "run_begun_anew" = some (.ref A.Jw)
 zlO:UF K "run_begun_anew" "run_begun_anew" z9t A.Jw
 Jh:mg "deadline" = some (.ref A.Jh)
 zlo:UF K "deadline" "deadline" z95 A.Jh
 Jp:mg "is_due" = some (.ref A.Jp)
 zlB:UF K "is_due" "is_due" z9g A.Jp
 Ju:mg "next_assigned" = some (.ref A.Ju)
 zlK:UF K "next_assigned" "next_assigned" z9p A.Ju
 YM:mg "assign" = some (.ref A.YM)
 zlh:UF K "assign" "assign" z8Y A.YM
 Jg:mg "copied_run" = some (.ref A.Jg)
 zln:UF K "copied_run" "copied_run" z94 A.Jg
 JO:mg "would_be_assigned" = some (.ref A.JO)
 zm6:UF K "would_be_assigned" "would_be_assigned" z9L A.JO
 zkZ:UF K "__init__" "Contract.__init__" z8H A.z1e
 z0D:Meth K A.zF "lots_of" A.YL
 zl0:UF K "lots_of" "Contract.lots_of" z8I A.YL
 zl8:UF K "__init__" "Trade.__init__" z8Q A.z1h
 zl4:UF K "__init__" "House.__init__" z8M A.z1g
 jt:Meth K A.zM "has_account" A.Yr
 zl1:UF K "has_account" "House.has_account" z8J A.Yr
 zfZ:Meth K A.zM "has_underlying" A.z1f
 zl3:UF K "has_underlying" "House.has_underlying" z8L A.z1f
 JW:Meth K A.zM "has_contract" A.Ys
 zl2:UF K "has_contract" "House.has_contract" z8K A.Ys
 z1v:Meth K A.zM "price_of" A.jk
 zl6:UF K "price_of" "House.price_of" z8O A.jk
 z4d:Meth K A.zM "move" A.z0n
 zl5:UF K "move" "House.move" z8N A.z0n
 ZD:mg "is_price" = some (.ref A.ZD)
 zlD:UF K "is_price" "is_price" z9i A.ZD
 Zo:mg "goes_beyond" = some (.ref A.Zo)
 zly:UF K "goes_beyond" "goes_beyond" z9e A.Zo
 Y4:mg "lot_pays" = some (.ref A.Y4)
 zlF:UF K "lot_pays" "lot_pays" z9k A.Y4
 Jk:mg "exercise_refusal" = some (.ref A.Jk)
 zlt:UF K "exercise_refusal" "exercise_refusal" z99 A.Jk
 Jj:mg "exercise" = some (.ref A.Jj)
 zls:UF K "exercise" "exercise" z98 A.Jj
 Jr:mg "new_account" = some (.ref A.Jr)
 zlH:UF K "new_account" "new_account" z9m A.Jr
 Jt:mg "new_underlying" = some (.ref A.Jt)
 zlJ:UF K "new_underlying" "new_underlying" z9o A.Jt
 Jd:mg "contract_in_range" = some (.ref A.Jd)
 zlk:UF K "contract_in_range" "contract_in_range" z91 A.Jd
 Je:mg "contract_refusal" = some (.ref A.Je)
 zll:UF K "contract_refusal" "contract_refusal" z92 A.Je
 Js:mg "new_contract" = some (.ref A.Js)
 zlI:UF K "new_contract" "new_contract" z9n A.Js
 Zn:mg "do_side" = some (.ref A.Zn)
 zlp:UF K "do_side" "do_side" z96 A.Zn
 Y3:mg "begin_run_anew" = some (.ref A.Y3)
 zli:UF K "begin_run_anew" "begin_run_anew" z8Z A.Y3
 YO:mg "exercised_since" = some (.ref A.YO)
 zlu:UF K "exercised_since" "exercised_since" z9a A.YO
 JI:mg "trade_in_range" = some (.ref A.JI)
 zm0:UF K "trade_in_range" "trade_in_range" z9F A.JI
 JJ:mg "trade_refusal" = some (.ref A.JJ)
 zm1:UF K "trade_refusal" "trade_refusal" z9G A.JJ
 JH:mg "trade" = some (.ref A.JH)
 zlZ:UF K "trade" "trade" z9E A.JH
 YR:mg "is_last_to_agree" = some (.ref A.YR)
 zlC:UF K "is_last_to_agree" "is_last_to_agree" z9h A.YR
 J6:mg "agree_refusal" = some (.ref A.J6)
 zla:UF K "agree_refusal" "agree_refusal" z8S A.J6
 JM:mg "undo" = some (.ref A.JM)
 zm4:UF K "undo" "undo" z9J A.JM
 J5:mg "agree" = some (.ref A.J5)
 zl9:UF K "agree" "agree" z8R A.J5
 Jm:mg "give_refusal" = some (.ref A.Jm)
 zlx:UF K "give_refusal" "give_refusal" z9d A.Jm
 Jl:mg "give" = some (.ref A.Jl)
 zlw:UF K "give" "give" z9c A.Jl
 YT:mg "offered_account" = some (.ref A.YT)
 zlM:UF K "offered_account" "offered_account" z9r A.YT
 YU:mg "offered_lots" = some (.ref A.YU)
 zlN:UF K "offered_lots" "offered_lots" z9s A.YU
 Jy:mg "take_refusal" = some (.ref A.Jy)
 zlQ:UF K "take_refusal" "take_refusal" z9v A.Jy
 Jo:mg "hand_over" = some (.ref A.Jo)
 zlA:UF K "hand_over" "hand_over" z9f A.Jo
 Jx:mg "take" = some (.ref A.Jx)
 zlP:UF K "take" "take" z9u A.Jx
 Yt:mg "as_number" = some (.ref A.Yt)
 zlg:UF K "as_number" "as_number" z8X A.Yt
 JC:mg "tell_position" = some (.ref A.JC)
 zlU:UF K "tell_position" "tell_position" z9z A.JC
 YS:mg "lots_that_are_not_0" = some (.ref A.YS)
 zlG:UF K "lots_that_are_not_0" "lots_that_are_not_0" z9l A.YS
 JD:mg "tell_positions" = some (.ref A.JD)
 zlV:UF K "tell_positions" "tell_positions" z9A A.JD
 Jz:mg "tell_cash" = some (.ref A.Jz)
 zlR:UF K "tell_cash" "tell_cash" z9w A.Jz
 JE:mg "tell_run" = some (.ref A.JE)
 zlW:UF K "tell_run" "tell_run" z9B A.JE
 JN:mg "would_assign_refusal" = some (.ref A.JN)
 zm5:UF K "would_assign_refusal" "would_assign_refusal" z9K A.JN
 JG:mg "tell_would_assign" = some (.ref A.JG)
 zlY:UF K "tell_would_assign" "tell_would_assign" z9D A.JG
 JB:mg "tell_open_lots" = some (.ref A.JB)
 zlT:UF K "tell_open_lots" "tell_open_lots" z9y A.JB
 Jv:mg "offer_told" = some (.ref A.Jv)
 zlL:UF K "offer_told" "offer_told" z9q A.Jv
 JK:mg "trade_told" = some (.ref A.JK)
 zm2:UF K "trade_told" "trade_told" z9H A.JK
 JF:mg "tell_trades" = some (.ref A.JF)
 zlX:UF K "tell_trades" "tell_trades" z9C A.JF
 Jf:mg "contract_told" = some (.ref A.Jf)
 zlm:UF K "contract_told" "contract_told" z93 A.Jf
 JA:mg "tell_house" = some (.ref A.JA)
 zlS:UF K "tell_house" "tell_house" z9x A.JA
 JL:mg "turn_refusal" = some (.ref A.JL)
 zm3:UF K "turn_refusal" "turn_refusal" z9I A.JL
 YQ:mg "expires_now" = some (.ref A.YQ)
 zlv:UF K "expires_now" "expires_now" z9b A.YQ
 Jq:mg "lot_gains" = some (.ref A.Jq)
 zlE:UF K "lot_gains" "lot_gains" z9j A.Jq
 Jn:mg "growths" = some (.ref A.Jn)
 zlz:UF K "growths" "growths" z4Z A.Jn
 Jc:mg "close_expired" = some (.ref A.Jc)
 zlj:UF K "close_expired" "close_expired" z90 A.Jc
 Ji:mg "end_turn" = some (.ref A.Ji)
 zlr:UF K "end_turn" "end_turn" z4Y A.Ji
 J9:mg "answer_change" = some (.ref A.J9)
 zld:UF K "answer_change" "answer_change" z8V A.J9
 Ja:mg "answer_question" = some (.ref A.Ja)
 zle:UF K "answer_question" "answer_question" z8W A.Ja
 J7:mg "answer_call" = some (.ref A.J7)
 zlb:UF K "answer_call" "answer_call" z8T A.J7
 J8:mg "answer_calls" = some (.ref A.J8)
 zlc:UF K "answer_calls" "answer_calls" z8U A.J8
 Jb:mg "answers" = some (.ref A.Jb)
 zlf:UF K "answers" "answers" z4X A.Jb
 z6G:∃ t,mg "MOST_ASSIGNED" = some (.int 1000 t)
 z0r:∃ t,mg "FUTURE" = some (.int 0 t)
 z6D:∃ t,mg "CALL" = some (.int 1 t)
 zdD:∃ t,mg "PUT" = some (.int 2 t)
 zdt:∃ t,mg "MOST_PRICE" = some (.int 1000000 t)
 zdp:∃ t,mg "MOST_HELD" = some (.int 100000 t)
 yV:∃ t,mg "ACCEPTED" = some (.int 0 t)
 jn:∃ t,mg "OUT_OF_RANGE" = some (.int (-1) t)
 Y6:∃ t,mg "UNKNOWN" = some (.int (-2) t)
 z6E:∃ t,mg "CONTRACT_OVER" = some (.int (-3) t)
 z6K:∃ t,mg "UNFIT" = some (.int (-4) t)
 zdl:∃ t,mg "KEY_SPENT" = some (.int (-5) t)
 z3B:∃ t,mg "NO_TRADE" = some (.int (-6) t)
 z3C:∃ t,mg "TOO_MANY_LOTS" = some (.int (-7) t)
 z1m:∃ t,mg "FULL" = some (.int (-8) t)
 z6I:∃ t,mg "TOO_FEW_LOTS" = some (.int (-9) t)
 z6H:∃ t,mg "SAME_ACCOUNT" = some (.int (-10) t)
 z6F:∃ t,mg "EXERCISED_SINCE" = some (.int (-11) t)
 zdy:∃ t,mg "NOT_A_SIDE" = some (.int (-12) t)
 zdx:∃ t,mg "NOTHING_OFFERED" = some (.int (-13) t)
 zdA:∃ t,mg "PAYS_NOTHING" = some (.int (-14) t)
 zdN:∃ t,mg "WRONG_PRICES" = some (.int (-15) t)
 zdm:∃ t,mg "MOST_ACCOUNTS" = some (.int 12 t)
 zdv:∃ t,mg "MOST_UNDERLYINGS" = some (.int 4 t)
 zdn:∃ t,mg "MOST_CONTRACTS" = some (.int 12 t)
 zds:∃ t,mg "MOST_MULTIPLE" = some (.int 1000 t)
 zdo:∃ t,mg "MOST_EXPIRY" = some (.int 1000000 t)
 zdq:∃ t,mg "MOST_KEY" = some (.int 1000000000 t)
 zdr:∃ t,mg "MOST_LOTS" = some (.int 1000 t)
 zdu:∃ t,mg "MOST_SPENT" = some (.int 60 t)
 z0q:∃ t,mg "BUYER_SIDE" = some (.int 0 t)
 zdG:∃ t,mg "SELLER_SIDE" = some (.int 1 t)
 zdw:∃ t,mg "NOTHING_IS_OFFERED" = some (.int 0 t)
 zdg:∃ t,mg "BUYER_IS_OFFERED" = some (.int 1 t)
 zdF:∃ t,mg "SELLER_IS_OFFERED" = some (.int 2 t)
 zde:∃ t,mg "ACCOUNT" = some (.int 0 t)
 zdK:∃ t,mg "UNDER" = some (.int 1 t)
 zdi:∃ t,mg "CONTRACT" = some (.int 2 t)
 zdI:∃ t,mg "TRADE" = some (.int 3 t)
 zdf:∃ t,mg "AGREE" = some (.int 4 t)
 zdk:∃ t,mg "GIVE" = some (.int 5 t)
 zdH:∃ t,mg "TAKE" = some (.int 6 t)
 zdj:∃ t,mg "EXERCISE" = some (.int 7 t)
 z6J:∃ t,mg "TURN" = some (.int 8 t)
 zdB:∃ t,mg "POSITION" = some (.int 9 t)
 zdC:∃ t,mg "POSITIONS" = some (.int 10 t)
 zdh:∃ t,mg "CASH" = some (.int 11 t)
 zdE:∃ t,mg "RUN" = some (.int 12 t)
 zdM:∃ t,mg "WOULD_ASSIGN" = some (.int 13 t)
 zdz:∃ t,mg "OPEN_LOTS" = some (.int 14 t)
 zdJ:∃ t,mg "TRADES" = some (.int 15 t)
 zdL:mg "WIDTHS" = some (.ref A.z3Z)
 zkE:∀ H,SqT K H A.z3Z [V.int 0,V.int 1,V.int 5,V.int 6,V.int 2,V.int 3,V.int 1,V.int 3,V.int 0,V.int 2,V.int 1,V.int 1,V.int 1,V.int 2,V.int 1,V.int 0,V.int 0]
 zcg:mg "abs" = none
 z3m:mg "dict" = none
 yO:mg "len" = none
 zch:mg "list" = none
 z5Y:mg "max" = none
 z5Z:mg "range" = none
 z60:mg "sorted" = none
 zci:mg "sum" = none
 zcj:mg "zip" = none
section
variable {K:PySem.W.Frag} {mg:Str→Option Value} {A:Ad} {H:Hp} {x dx:Addr} {Q:VK}
section
variable {b a:Addr} {tot cnt:Int}
theorem zfE:(zQ b a tot cnt).lookup ("base" : Str)=some (V.ref b):=by kernel_rfl
theorem zje (T:Tx K mg A) (e:H x=some (.ins A.zN dx (zQ b a tot cnt))) (q:Q (V.ref b) H):zS K "base" (.ref x) H Q:=⟨x,_,dx,_,_,rfl,e,T.ZQ,T.z7H,zfE,q⟩
theorem zfF:(zQ b a tot cnt).lookup ("total" : Str)=some (V.int tot):=by kernel_rfl
theorem zjg (T:Tx K mg A) (e:H x=some (.ins A.zN dx (zQ b a tot cnt))) (q:Q (V.int tot) H):zS K "total" (.ref x) H Q:=⟨x,_,dx,_,_,rfl,e,T.ZQ,T.z7I,zfF,q⟩
theorem zfD:(zQ b a tot cnt).lookup ("assigned" : Str)=some (V.ref a):=by kernel_rfl
theorem zjd (T:Tx K mg A) (e:H x=some (.ins A.zN dx (zQ b a tot cnt))) (q:Q (V.ref a) H):zS K "assigned" (.ref x) H Q:=⟨x,_,dx,_,_,rfl,e,T.ZQ,T.z4t,zfD,q⟩
theorem zik (v:Addr):zh "assigned" (V.ref v) (zQ b a tot cnt)=zQ b v tot cnt:=by kernel_rfl
theorem z7h:(zQ b a tot cnt).lookup ("count" : Str)=some (V.int cnt):=by kernel_rfl
theorem zjf (T:Tx K mg A) (e:H x=some (.ins A.zN dx (zQ b a tot cnt))) (q:Q (V.int cnt) H):zS K "count" (.ref x) H Q:=⟨x,_,dx,_,_,rfl,e,T.ZQ,T.z1C,z7h,q⟩
theorem z83 (v:Int):zh "count" (V.int v) (zQ b a tot cnt)=zQ b a tot v:=by kernel_rfl
end
section
variable {num kind under strike mult expiry:Int} {over:Bool} {h r:Addr} {ex:Int}
theorem zft:(zG num kind under strike mult expiry over h r ex).lookup ("number" : Str)=some (V.int num):=by kernel_rfl
theorem zj5 (T:Tx K mg A) (e:H x=some (.ins A.zF dx (zG num kind under strike mult expiry over h r ex))) (q:Q (V.int num) H):zS K "number" (.ref x) H Q:=⟨x,_,dx,_,_,rfl,e,T.zZ,T.z7D,zft,q⟩
theorem zfr:(zG num kind under strike mult expiry over h r ex).lookup ("kind" : Str)=some (V.int kind):=by kernel_rfl
theorem zj3 (T:Tx K mg A) (e:H x=some (.ins A.zF dx (zG num kind under strike mult expiry over h r ex))) (q:Q (V.int kind) H):zS K "kind" (.ref x) H Q:=⟨x,_,dx,_,_,rfl,e,T.zZ,T.z7B,zfr,q⟩
theorem zfx:(zG num kind under strike mult expiry over h r ex).lookup ("underlying" : Str)=some (V.int under):=by kernel_rfl
theorem zj9 (T:Tx K mg A) (e:H x=some (.ins A.zF dx (zG num kind under strike mult expiry over h r ex))) (q:Q (V.int under) H):zS K "underlying" (.ref x) H Q:=⟨x,_,dx,_,_,rfl,e,T.zZ,T.z7F,zfx,q⟩
theorem zfw:(zG num kind under strike mult expiry over h r ex).lookup ("strike" : Str)=some (V.int strike):=by kernel_rfl
theorem zj8 (T:Tx K mg A) (e:H x=some (.ins A.zF dx (zG num kind under strike mult expiry over h r ex))) (q:Q (V.int strike) H):zS K "strike" (.ref x) H Q:=⟨x,_,dx,_,_,rfl,e,T.zZ,T.z7E,zfw,q⟩
theorem zfs:(zG num kind under strike mult expiry over h r ex).lookup ("multiple" : Str)=some (V.int mult):=by kernel_rfl
theorem zj4 (T:Tx K mg A) (e:H x=some (.ins A.zF dx (zG num kind under strike mult expiry over h r ex))) (q:Q (V.int mult) H):zS K "multiple" (.ref x) H Q:=⟨x,_,dx,_,_,rfl,e,T.zZ,T.z7C,zfs,q⟩
theorem zfp:(zG num kind under strike mult expiry over h r ex).lookup ("expiry" : Str)=some (V.int expiry):=by kernel_rfl
theorem zj2 (T:Tx K mg A) (e:H x=some (.ins A.zF dx (zG num kind under strike mult expiry over h r ex))) (q:Q (V.int expiry) H):zS K "expiry" (.ref x) H Q:=⟨x,_,dx,_,_,rfl,e,T.zZ,T.z7A,zfp,q⟩
theorem zfu:(zG num kind under strike mult expiry over h r ex).lookup ("over" : Str)=some (V.bl over):=by kernel_rfl
theorem zj6 (T:Tx K mg A) (e:H x=some (.ins A.zF dx (zG num kind under strike mult expiry over h r ex))) (q:Q (V.bl over) H):zS K "over" (.ref x) H Q:=⟨x,_,dx,_,_,rfl,e,T.zZ,T.z4n,zfu,q⟩
theorem zie (v:Bool):zh "over" (V.bl v) (zG num kind under strike mult expiry over h r ex)=zG num kind under strike mult expiry v h r ex:=by kernel_rfl
theorem zfq:(zG num kind under strike mult expiry over h r ex).lookup ("held" : Str)=some (V.ref h):=by kernel_rfl
theorem z4P (T:Tx K mg A) (e:H x=some (.ins A.zF dx (zG num kind under strike mult expiry over h r ex))) (q:Q (V.ref h) H):zS K "held" (.ref x) H Q:=⟨x,_,dx,_,_,rfl,e,T.zZ,T.z4m,zfq,q⟩
theorem zid (v:Addr):zh "held" (V.ref v) (zG num kind under strike mult expiry over h r ex)=zG num kind under strike mult expiry over v r ex:=by kernel_rfl
theorem zfv:(zG num kind under strike mult expiry over h r ex).lookup ("run" : Str)=some (V.ref r):=by kernel_rfl
theorem zj7 (T:Tx K mg A) (e:H x=some (.ins A.zF dx (zG num kind under strike mult expiry over h r ex))) (q:Q (V.ref r) H):zS K "run" (.ref x) H Q:=⟨x,_,dx,_,_,rfl,e,T.zZ,T.z1B,zfv,q⟩
theorem z82 (v:Addr):zh "run" (V.ref v) (zG num kind under strike mult expiry over h r ex)=zG num kind under strike mult expiry over h v ex:=by kernel_rfl
theorem z7f:(zG num kind under strike mult expiry over h r ex).lookup ("exercised" : Str)=some (V.int ex):=by kernel_rfl
theorem z8r (T:Tx K mg A) (e:H x=some (.ins A.zF dx (zG num kind under strike mult expiry over h r ex))) (q:Q (V.int ex) H):zS K "exercised" (.ref x) H Q:=⟨x,_,dx,_,_,rfl,e,T.zZ,T.z4l,z7f,q⟩
theorem zic (v:Int):zh "exercised" (V.int v) (zG num kind under strike mult expiry over h r ex)=zG num kind under strike mult expiry over h r v:=by kernel_rfl
end
section
variable {c:Addr} {buyer seller lots price:Int} {yb ys:Bool} {taker side exb:Int}
theorem zfI:(zJ c buyer seller lots price yb ys taker side exb).lookup ("contract" : Str)=some (V.ref c):=by kernel_rfl
theorem zjj (T:Tx K mg A) (e:H x=some (.ins A.zT dx (zJ c buyer seller lots price yb ys taker side exb))) (q:Q (V.ref c) H):zS K "contract" (.ref x) H Q:=⟨x,_,dx,_,_,rfl,e,T.zU,T.z7J,zfI,q⟩
theorem zfG:(zJ c buyer seller lots price yb ys taker side exb).lookup ("buyer" : Str)=some (V.int buyer):=by kernel_rfl
theorem zjh (T:Tx K mg A) (e:H x=some (.ins A.zT dx (zJ c buyer seller lots price yb ys taker side exb))) (q:Q (V.int buyer) H):zS K "buyer" (.ref x) H Q:=⟨x,_,dx,_,_,rfl,e,T.zU,T.z4u,zfG,q⟩
theorem zil (v:Int):zh "buyer" (V.int v) (zJ c buyer seller lots price yb ys taker side exb)=zJ c v seller lots price yb ys taker side exb:=by kernel_rfl
theorem zfN:(zJ c buyer seller lots price yb ys taker side exb).lookup ("seller" : Str)=some (V.int seller):=by kernel_rfl
theorem zjo (T:Tx K mg A) (e:H x=some (.ins A.zT dx (zJ c buyer seller lots price yb ys taker side exb))) (q:Q (V.int seller) H):zS K "seller" (.ref x) H Q:=⟨x,_,dx,_,_,rfl,e,T.zU,T.z4w,zfN,q⟩
theorem zin (v:Int):zh "seller" (V.int v) (zJ c buyer seller lots price yb ys taker side exb)=zJ c buyer v lots price yb ys taker side exb:=by kernel_rfl
theorem zfK:(zJ c buyer seller lots price yb ys taker side exb).lookup ("lots" : Str)=some (V.int lots):=by kernel_rfl
theorem zjl (T:Tx K mg A) (e:H x=some (.ins A.zT dx (zJ c buyer seller lots price yb ys taker side exb))) (q:Q (V.int lots) H):zS K "lots" (.ref x) H Q:=⟨x,_,dx,_,_,rfl,e,T.zU,T.z7L,zfK,q⟩
theorem zfM:(zJ c buyer seller lots price yb ys taker side exb).lookup ("price" : Str)=some (V.int price):=by kernel_rfl
theorem zjn (T:Tx K mg A) (e:H x=some (.ins A.zT dx (zJ c buyer seller lots price yb ys taker side exb))) (q:Q (V.int price) H):zS K "price" (.ref x) H Q:=⟨x,_,dx,_,_,rfl,e,T.zU,T.z7M,zfM,q⟩
theorem zfH:(zJ c buyer seller lots price yb ys taker side exb).lookup ("buyer_agreed" : Str)=some (V.bl yb):=by kernel_rfl
theorem zji (T:Tx K mg A) (e:H x=some (.ins A.zT dx (zJ c buyer seller lots price yb ys taker side exb))) (q:Q (V.bl yb) H):zS K "buyer_agreed" (.ref x) H Q:=⟨x,_,dx,_,_,rfl,e,T.zU,T.z0F,zfH,q⟩
theorem z4H (v:Bool):zh "buyer_agreed" (V.bl v) (zJ c buyer seller lots price yb ys taker side exb)=zJ c buyer seller lots price v ys taker side exb:=by kernel_rfl
theorem zfO:(zJ c buyer seller lots price yb ys taker side exb).lookup ("seller_agreed" : Str)=some (V.bl ys):=by kernel_rfl
theorem zjp (T:Tx K mg A) (e:H x=some (.ins A.zT dx (zJ c buyer seller lots price yb ys taker side exb))) (q:Q (V.bl ys) H):zS K "seller_agreed" (.ref x) H Q:=⟨x,_,dx,_,_,rfl,e,T.zU,T.z0G,zfO,q⟩
theorem z4I (v:Bool):zh "seller_agreed" (V.bl v) (zJ c buyer seller lots price yb ys taker side exb)=zJ c buyer seller lots price yb v taker side exb:=by kernel_rfl
theorem zfP:(zJ c buyer seller lots price yb ys taker side exb).lookup ("taker" : Str)=some (V.int taker):=by kernel_rfl
theorem zjq (T:Tx K mg A) (e:H x=some (.ins A.zT dx (zJ c buyer seller lots price yb ys taker side exb))) (q:Q (V.int taker) H):zS K "taker" (.ref x) H Q:=⟨x,_,dx,_,_,rfl,e,T.zU,T.z0H,zfP,q⟩
theorem z4J (v:Int):zh "taker" (V.int v) (zJ c buyer seller lots price yb ys taker side exb)=zJ c buyer seller lots price yb ys v side exb:=by kernel_rfl
theorem zfL:(zJ c buyer seller lots price yb ys taker side exb).lookup ("offered_side" : Str)=some (V.int side):=by kernel_rfl
theorem zjm (T:Tx K mg A) (e:H x=some (.ins A.zT dx (zJ c buyer seller lots price yb ys taker side exb))) (q:Q (V.int side) H):zS K "offered_side" (.ref x) H Q:=⟨x,_,dx,_,_,rfl,e,T.zU,T.z4v,zfL,q⟩
theorem zim (v:Int):zh "offered_side" (V.int v) (zJ c buyer seller lots price yb ys taker side exb)=zJ c buyer seller lots price yb ys taker v exb:=by kernel_rfl
theorem zfJ:(zJ c buyer seller lots price yb ys taker side exb).lookup ("exercised_before" : Str)=some (V.int exb):=by kernel_rfl
theorem zjk (T:Tx K mg A) (e:H x=some (.ins A.zT dx (zJ c buyer seller lots price yb ys taker side exb))) (q:Q (V.int exb) H):zS K "exercised_before" (.ref x) H Q:=⟨x,_,dx,_,_,rfl,e,T.zU,T.z7K,zfJ,q⟩
end
section
variable {t:Int} {p c a r s:Addr}
theorem z7g:(zC t p c a r s).lookup ("turn" : Str)=some (V.int t):=by kernel_rfl
theorem zjc (T:Tx K mg A) (e:H x=some (.ins A.zM dx (zC t p c a r s))) (q:Q (V.int t) H):zS K "turn" (.ref x) H Q:=⟨x,_,dx,_,_,rfl,e,T.zO,T.z4s,z7g,q⟩
theorem zij (v:Int):zh "turn" (V.int v) (zC t p c a r s)=zC v p c a r s:=by kernel_rfl
theorem zfA:(zC t p c a r s).lookup ("prices" : Str)=some (V.ref p):=by kernel_rfl
theorem zjb (T:Tx K mg A) (e:H x=some (.ins A.zM dx (zC t p c a r s))) (q:Q (V.ref p) H):zS K "prices" (.ref x) H Q:=⟨x,_,dx,_,_,rfl,e,T.zO,T.z4p,zfA,q⟩
theorem zig (v:Addr):zh "prices" (V.ref v) (zC t p c a r s)=zC t v c a r s:=by kernel_rfl
theorem zfz:(zC t p c a r s).lookup ("contracts" : Str)=some (V.ref c):=by kernel_rfl
theorem z8s (T:Tx K mg A) (e:H x=some (.ins A.zM dx (zC t p c a r s))) (q:Q (V.ref c) H):zS K "contracts" (.ref x) H Q:=⟨x,_,dx,_,_,rfl,e,T.zO,T.z7G,zfz,q⟩
theorem zfy:(zC t p c a r s).lookup ("cash" : Str)=some (V.ref a):=by kernel_rfl
theorem zja (T:Tx K mg A) (e:H x=some (.ins A.zM dx (zC t p c a r s))) (q:Q (V.ref a) H):zS K "cash" (.ref x) H Q:=⟨x,_,dx,_,_,rfl,e,T.zO,T.z4o,zfy,q⟩
theorem zif (v:Addr):zh "cash" (V.ref v) (zC t p c a r s)=zC t p c v r s:=by kernel_rfl
theorem zfC:(zC t p c a r s).lookup ("trades" : Str)=some (V.ref r):=by kernel_rfl
theorem z8u (T:Tx K mg A) (e:H x=some (.ins A.zM dx (zC t p c a r s))) (q:Q (V.ref r) H):zS K "trades" (.ref x) H Q:=⟨x,_,dx,_,_,rfl,e,T.zO,T.z4r,zfC,q⟩
theorem zii (v:Addr):zh "trades" (V.ref v) (zC t p c a r s)=zC t p c a v s:=by kernel_rfl
theorem zfB:(zC t p c a r s).lookup ("spent" : Str)=some (V.ref s):=by kernel_rfl
theorem z8t (T:Tx K mg A) (e:H x=some (.ins A.zM dx (zC t p c a r s))) (q:Q (V.ref s) H):zS K "spent" (.ref x) H Q:=⟨x,_,dx,_,_,rfl,e,T.zO,T.z4q,zfB,q⟩
theorem zih (v:Addr):zh "spent" (V.ref v) (zC t p c a r s)=zC t p c a r v:=by kernel_rfl
end
theorem zgu {num kind under strike mult expiry:Int} {over:Bool} {h r:Addr} {ex:Int}:(zG num kind under strike mult expiry over h r ex).lookup ("lots_of" : Str)=none:=by kernel_rfl
theorem zgv {t:Int} {p c a r s:Addr}:(zC t p c a r s).lookup ("has_account" : Str)=none:=by kernel_rfl
theorem zgx {t:Int} {p c a r s:Addr}:(zC t p c a r s).lookup ("has_underlying" : Str)=none:=by kernel_rfl
theorem zgw {t:Int} {p c a r s:Addr}:(zC t p c a r s).lookup ("has_contract" : Str)=none:=by kernel_rfl
theorem zgz {t:Int} {p c a r s:Addr}:(zC t p c a r s).lookup ("price_of" : Str)=none:=by kernel_rfl
theorem zgy {t:Int} {p c a r s:Addr}:(zC t p c a r s).lookup ("move" : Str)=none:=by kernel_rfl
end
end Hy
namespace Hy
open PySem PySem.Spec PyProof.Rows L2 Hx
variable {P:Program} {w:World} {K:PySem.W.Frag} {mg:Str→Option Value} {base:Heap} {A:Ad}
noncomputable abbrev Ad.cs (A:Ad):Cs:=⟨A.zN,A.zF,A.zT,A.zM⟩
theorem Good.of {P:Program} {w:World} {K:PySem.W.Frag} {mg:Str→Option Value} {base:Heap} {x qual:Str} {st:Stmt} {f:Addr} {N ps:List Str} {k:Nat} {sp:Sp} (u:∃ fd,Fun K x qual st f fd) (S:FnScope N ps (zl st))
  (hb:∀ (kV doc pm:Value) (an:Option Addr) (cdv ct:Value) (us:List Value),us.length=ps.length→bindArgs (PySem.W.fnOf x qual (ji st) (Yp st) (zl st) .none kV doc pm an cdv ct) ⟨us,[]⟩=pure (ps.zip us))
  (len:∀ vs H Q E,sp vs H Q E→vs.length=ps.length)
  (hbody:∀ (cdv:Value) (A:Around) (outer:List Env) (s:Shared) (H:Hp) (vs:List V) (Q:VK) (E:XK),Room k (A.deeper (envOfC qual (zl st) s.heap.objs.size f cdv))→sp vs H Q E →
   ∃ t,PSs (jh CX0 P w K mg base N qual (zl st) f cdv A outer s H E).nox (Yp st) t∧t { nx:=fun _ H'=>Q .non H',rt:=Q } (start N vs) H):Good P w K mg base (k + 1) f ps sp:=by
 obtain ⟨fd,F⟩:=u
 exact ⟨⟨fd,F.ok S len hbody,F.binds hb⟩,F.kp⟩
section
variable {A:Ad} {H:Hp} {L:Lay} {m:HouM} {i:Nat} {k:ConM}
theorem Zq (h:Hs A.cs H L m):H (L.ad .house)=some (.ins A.zM (L.own .house) (zC m.turn (L.ad .pr) (L.ad .cl) (L.ad .ca) (L.ad .tr) (L.ad .sp))):=h.house
theorem YY (h:Hs A.cs H L m) (e:m.cons[i]?=some k):H (L.ad (.con i))=some (.ins A.zF (L.own (.con i)) (zG ((i:Int) + 1) k.kind k.under k.strike k.mult k.expiry k.over (L.ad (.held i)) (L.ad (.run i)) k.exd)):=h.con e
theorem z1n (h:Hs A.cs H L m) (e:m.cons[i]?=some k):H (L.ad (.run i))=some (.ins A.zN (L.own (.run i)) (zQ (L.ad (.base i)) (L.ad (.asg i)) k.run.total k.run.count)):=h.run e
theorem JR (h:Hs A.cs H L m) {key:Int} {x:TrdM} (e:gI m.trades key=some x):H (L.ad (.trd key))=some (.ins A.zT (L.own (.trd key)) (zJ (L.ad (.con x.con)) x.buyer x.seller x.lots x.price x.yb x.ys x.taker x.side x.exb)):=h.trd e
end
local macro_rules | `(tactic| walk_at "hs")=>`(tactic| first | assumption | with_reducible first | exact Zq (by assumption) | exact YY (by assumption) (by assumption) | exact JR (by assumption) (by assumption) | exact z1n (by assumption) (by assumption) | exact Hs.held (by assumption) (by assumption) | exact Hs.ca (by assumption) | exact Hs.pr (by assumption) | exact Hs.cl (by assumption) | exact Hs.tr (by assumption) | exact Hs.sp (by assumption))
local macro_rules | `(tactic| walk_at "hg")=>`(tactic| with_reducible (refine zdP ?_;first | refine JS (by walk_at "hs") zgu ?_ | refine JS (by walk_at "hs") zgv ?_ | refine JS (by walk_at "hs") zgx ?_ | refine JS (by walk_at "hs") zgw ?_ | refine JS (by walk_at "hs") zgz ?_ | refine JS (by walk_at "hs") zgy ?_))
local macro_rules | `(tactic| walk_at "hf")=>`(tactic| with_reducible (refine zdO ?_;first | refine zje (by assumption) (by walk_at "hs") ?_ | refine zjg (by assumption) (by walk_at "hs") ?_ | refine zjd (by assumption) (by walk_at "hs") ?_ | refine zjf (by assumption) (by walk_at "hs") ?_ | refine zj5 (by assumption) (by walk_at "hs") ?_ | refine zj3 (by assumption) (by walk_at "hs") ?_ | refine zj9 (by assumption) (by walk_at "hs") ?_ | refine zj8 (by assumption) (by walk_at "hs") ?_ | refine zj4 (by assumption) (by walk_at "hs") ?_ | refine zj2 (by assumption) (by walk_at "hs") ?_ | refine zj6 (by assumption) (by walk_at "hs") ?_ | refine z4P (by assumption) (by walk_at "hs") ?_ | refine zj7 (by assumption) (by walk_at "hs") ?_ | refine z8r (by assumption) (by walk_at "hs") ?_ | refine zjj (by assumption) (by walk_at "hs") ?_ | refine zjh (by assumption) (by walk_at "hs") ?_ | refine zjo (by assumption) (by walk_at "hs") ?_ | refine zjl (by assumption) (by walk_at "hs") ?_ | refine zjn (by assumption) (by walk_at "hs") ?_ | refine zji (by assumption) (by walk_at "hs") ?_ | refine zjp (by assumption) (by walk_at "hs") ?_ | refine zjq (by assumption) (by walk_at "hs") ?_ | refine zjm (by assumption) (by walk_at "hs") ?_ | refine zjk (by assumption) (by walk_at "hs") ?_ | refine zjc (by assumption) (by walk_at "hs") ?_ | refine zjb (by assumption) (by walk_at "hs") ?_ | refine z8s (by assumption) (by walk_at "hs") ?_ | refine zja (by assumption) (by walk_at "hs") ?_ | refine z8u (by assumption) (by walk_at "hs") ?_ | refine z8t (by assumption) (by walk_at "hs") ?_))
local macro_rules | `(tactic| walk_at "h1")=>`(tactic| with_reducible first
 | refine z3U rfl ?_ | refine zef ?_ | refine zez ?_ | refine z3S ?_ | refine i_c ?_ | refine zep ?_ | walk_at "hf" | refine zeI ?_ | refine z3P ?_ | refine z3I ?_ | refine zeb ?_ | refine z3K ?_ | refine z3L ?_ | refine z3N ?_ | refine ze6 ?_ | refine z3T ?_ | refine z3R ?_ | refine zeO ?_ | refine zew ?_ | refine zeQ ?_ | refine zeo ?_ | refine zec ?_ | walk_at "hg" | refine zey ?_ | refine z3Q ?_ | refine zeq ?_ | refine zeA ?_ | refine zea ?_ | refine zeh ?_ | refine zeF ?_ | refine zeH ?_ | refine zeR ?_ | refine zev ?_ | refine zek ?_ | refine ze4 ?_ | refine zeC ?_ | refine zee rfl ?_ | refine zen ?_ | refine zex ?_ | refine ze5 ?_ | refine zeE ?_ | refine zet ?_ | refine zes ?_ | refine zed ?_ | refine zel ?_ | refine zeu ?_ | refine ze7 ?_ | refine ze9 ?_ | refine zej ?_ | refine zeS ?_ | refine zeK ?_ | refine zeM ?_ | refine zeg ?_ | refine ze8 rfl ?_ | refine zeD ?_ | refine zeB ?_ | refine zeG ?_ | refine zeJ ?_)
local macro_rules | `(tactic| walk_at "hl")=>`(tactic| first | exact (by decide:(0:Nat) < 1000) | exact (by decide:(4:Nat) < 1000) | exact (by decide:(6:Nat) < 1000) | exact (by decide:(10:Nat) < 1000) | (refine lp0 ?_;(repeat refine lp1 ?_);show 0 + _ < 1000;decide))
local macro_rules | `(tactic| walk_at "hh")=>`(tactic| first | assumption | exact z9 | (rw [z6 (by assumption)];walk_at "hh") | (rw [z6 (Ne.symm (by assumption))];walk_at "hh"))
local macro_rules | `(tactic| walk_at "hx")=>`(tactic| repeat walk_at "h1")
structure RunAt (A:Ad) (H:Hp) (r ab aa dx:Addr) (R:RunM):Prop where
 obj:H r=some (.ins A.zN dx (zQ ab aa R.total R.count))
 base:Rd H ab (.dK (dI R.base))
 asg:Rd H aa (.dK (dI R.asg))
noncomputable def z3c (x:Int):Prop:=-(2 ^ 64) < x∧x < 2 ^ 64
noncomputable def zal (A:Ad):Sp:=fun vs H Q _=>∃ (r ab aa dx:Addr) (R:RunM) (a s m:Int),vs=[.ref r,.int a]∧RunAt A H r ab aa dx R∧gI R.base a=some s∧gI R.asg a=some m∧(0 < s∧s < 1073741824)∧z3c (m + 1)∧Q (.int (((m + 1) * R.total + s - 1) / s)) H
theorem zh4 (T:Tx K mg A):Good P w K mg base 1 A.Jh ["run", "account"] (zal A):=by
 refine Good.of T.zlo z9R (fun _ _ _ _ _ _=>us2 (fun _ _=>rfl)) (fun vs H Q E h=>?_) (fun cdv A1 outer s0 H vs Q E hr h=>?_)
 ·obtain ⟨r,ab,aa,dx,R,a,s,m,rfl,_⟩:=h;rfl
 ·obtain ⟨r,ab,aa,dx,R,a,s,m,rfl,⟨h1,h2,h3⟩,g1,g2,b1,b2,q⟩:=h
  have hu:=yQ hr
  refine ⟨_,(z7 (zp (i:=2) z9R.nd rfl (Or.inl rfl) (Z5 hu (zc (K:=K) (pv 0) rfl) (pv 1) (fun _ _=>rfl))) (za (ze (zz zhO (zz yE (zz Zh (zz ZK (zz Zh (Z5 hu (zc (K:=K) (pv 0) rfl) (pv 1) (fun _ _=>rfl)) zg) (zc (K:=K) (pv 0) rfl)) (pv 2)) zg) (pv 2))))),?_⟩
  walk_at "hx"
  refine Yw h2 g1 ?_
  walk_at "hx"
  refine Yw h3 g2 ?_
  walk_at "hx"
  refine Zb (.inl b2) ?_
  walk_at "hx"
  refine Zb b1 ?_
  exact q
noncomputable def zat (A:Ad):Sp:=fun vs H Q _=>∃ (r ab aa dx:Addr) (R:RunM) (a s m:Int),vs=[.ref r,.int a]∧RunAt A H r ab aa dx R∧gI R.base a=some s∧gI R.asg a=some m∧z3c m∧z3c s∧Q (.bl (decide (m * R.total < (R.count + 1) * s))) H
theorem zhh (T:Tx K mg A):Good P w K mg base 1 A.Jp ["run", "account"] (zat A):=by
 refine Good.of T.zlB zk6 (fun _ _ _ _ _ _=>us2 (fun _ _=>rfl)) (fun vs H Q E h=>?_) (fun cdv A1 outer s0 H vs Q E hr h=>?_)
 ·obtain ⟨r,ab,aa,dx,R,a,s,m,rfl,_⟩:=h;rfl
 ·obtain ⟨r,ab,aa,dx,R,a,s,m,rfl,⟨h1,h2,h3⟩,g1,g2,b1,b2,q⟩:=h
  have hu:=yQ hr
  refine ⟨_,(za (ze (z1I jv (zz ZK (Z5 hu (zc (K:=K) (pv 0) rfl) (pv 1) (fun _ _=>rfl)) (zc (K:=K) (pv 0) rfl)) (zz ZK (zz Zh (zc (K:=K) (pv 0) rfl) zg) (Z5 hu (zc (K:=K) (pv 0) rfl) (pv 1) (fun _ _=>rfl))) (zo _)))),?_⟩
  walk_at "hx"
  refine Yw h3 g2 ?_
  walk_at "hx"
  refine Zb (.inl b1) ?_
  walk_at "hx"
  refine Yw h2 g1 ?_
  walk_at "hx"
  refine Zb (.inr b2) ?_
  walk_at "hx"
  exact q
theorem zis {b a:Addr} {t c:Int}:zh "count" (.int c) (zh "assigned" (.ref a) (zh "total" (.int t) (zh "base" (.ref b) [])))=zQ b a t c:=by kernel_rfl
noncomputable def z25 (A:Ad):Sp:=fun vs H Q _=>∃ (x ab dx:Addr) (l:List (Int × Int)),vs=[.ref x,.ref ab]∧H x=some (.ins A.zN dx [])∧H ab=some (.dK (dI l))∧(l.map (·.1)).Nodup∧l.length≤64 ∧
 ∀ (aa:Addr) (H':Hp),H aa=none→H' x=some (.ins A.zN dx (zQ ab aa (l.map (·.2)).sum 0))→H' aa=some (.dK (dI (l.map fun p=>(p.1,0))))→(∀ b o,H b=some o→b≠x→H' b=some o)→Q .non H'
theorem zgN (T:Tx K mg A):Good P w K mg base 1 A.J4 ["self", "base"] (z25 A):=by
 refine Good.of T.zl7 z9M (fun _ _ _ _ _ _=>us2 (fun _ _=>rfl)) (fun vs H Q E h=>?_) (fun cdv A1 outer s0 H vs Q E hr h=>?_)
 ·obtain ⟨x,ab,dx,l,rfl,_⟩:=h;rfl
 ·obtain ⟨x,ab,dx,l,rfl,hx,hab,hn,hl,q⟩:=h
  have hu:=yQ hr
  refine ⟨_,(z7 (zB (K:=K) (pv 0) (pv 1) rfl) (z7 (zB (K:=K) (pv 0) (zia rfl rfl T.zci (pv 1)) rfl) (z7 (zB (K:=K) (pv 0) Yd rfl) (z7 (zB (K:=K) (pv 0) zg rfl) (za (ja (yK PassesOwn.never rfl (z4K (pv 1)) (y6 (i:=2) z9M.nd rfl (Or.inl rfl)) (za (z00 hu (zc (K:=K) (pv 0) rfl) (pv 2) zg rfl))))))))),?_⟩
  have nxb:ab≠x:=yX hab hx (by intro z;cases z)
  walk_at "hx"
  refine zy hx T.ZQ T.z7H (by show 0 < 1000;decide) ?_
  walk_at "hx"
  refine ⟨_,rfl,ab,_,rfl,.inl (by walk_at "hh"),fun v hv=>?_⟩
  have hvx:v≠x:=fun z=>by rw [z,z9] at hv;cases hv
  have hvb:v≠ab:=fun z=>by rw [z,z6 nxb,hab] at hv;cases hv
  walk_at "hx"
  refine ⟨v,ab,dI l,l.map (·.2),rfl,z9,.inl (by walk_at "hh"),zcN l,?_⟩
  walk_at "hx"
  refine zy (by walk_at "hh") T.ZQ T.z7I (by walk_at "hl") ?_
  walk_at "hx"
  intro aa haa
  have hax:aa≠x:=fun z=>by rw [z,z9] at haa;cases haa
  have hav:aa≠v:=fun z=>by rw [z,z6 hvx,z9] at haa;cases haa
  have hab2:aa≠ab:=fun z=>by rw [z,z6 nxb,z6 (Ne.symm hvb),z6 nxb,hab] at haa;cases haa
  have haH:H aa=none:=by rw [z6 hax,z6 hav,z6 hax] at haa;exact haa
  walk_at "hx"
  refine zy (by walk_at "hh") T.ZQ T.z4t (by walk_at "hl") ?_
  walk_at "hx"
  refine zy (by walk_at "hh") T.ZQ T.z1C (by walk_at "hl") ?_
  rw [zis]
  generalize hH:upd _ x (HO.ins A.zN dx (zQ ab aa (l.map (·.2)).sum 0))=H1
  have f1:H1 x=some (.ins A.zN dx (zQ ab aa (l.map (·.2)).sum 0)):=by rw [← hH];walk_at "hh"
  have f2:H1 aa=some (.dK (dI [])):=by rw [← hH];walk_at "hh"
  have f3:∀ b o,H b=some o→b≠x→H1 b=some o:=fun b o e hb=>by
   have h1:b≠aa:=zd e haH
   have h2:b≠v:=fun z=>by rw [z] at e;rw [z6 hvx,e] at hv;cases hv
   rw [← hH];walk_at "hh"
  clear hH
  refine j0 (f3 _ _ hab nxb) trivial fun od=>?_
  have nba:ab≠aa:=Ne.symm hab2
  walk_at "hx"
  refine z3M z9 ?_
  refine z3x (fun i σ H'=>∃ v,σ = [some (.ref x),some (.ref ab),v]∧H' ab=some (.frz od (.dK (dI l)))∧H' x=some (.ins A.zN dx (zQ ab aa (l.map (·.2)).sum 0))∧H' aa=some (.dK (dI ((l.take i).map fun p=>(p.1,0))))∧∀ b o,H b=some o→b≠x→b≠ab→H' b=some o)
   ⟨none,rfl,z9,by walk_at "hh",by rw [z6 (Ne.symm nba)];exact f2,fun b o e h1 h2=>by rw [z6 h2];exact f3 b o e h1⟩ (fun i σ H' ⟨_,_,e,_⟩=>e) ?_ ?_
  ·rintro i p σ H' hi ⟨v',rfl,g1,g2,g3,g4⟩
   walk_at "hx"
   refine z1p g3 (by rw [List.length_map,List.length_take];exact Nat.lt_of_le_of_lt (Nat.min_le_right _ _) (Nat.lt_of_le_of_lt hl (by decide))) ?_
   refine ⟨_,rfl,by walk_at "hh",by rw [z6 (yX g2 g3 (by intro z;cases z))];exact g2,?_,fun b o e h1 h2=>?_⟩
   ·rw [z9,yL hi,List.map_append,z1N]
    ·rfl
    ·rw [Zp,List.map_map]
     intro z
     have z:p.1∈(l.take i).map (·.1):=z
     have hnd:=hn
     rw [← List.take_append_drop i l,List.map_append,List.nodup_append] at hnd
     have hd:p.1∈(l.drop i).map (·.1):=List.mem_map_of_mem (List.mem_of_getElem? (i:=0) (by rw [List.getElem?_drop];exact hi))
     exact hnd.2.2 _ z _ hd rfl
   ·rw [z6 (zd e haH)];exact g4 b o e h1 h2
  ·rintro σ H' ⟨v',rfl,g1,g2,g3,g4⟩
   refine ⟨g1,?_⟩
   rw [List.take_length] at g3
   refine q aa _ haH ?_ ?_ fun b o e h1=>?_
   ·rw [z6 (Ne.symm nxb)];exact g2
   ·rw [z6 hab2];exact g3
   ·by_cases z:b=ab
    ·subst z;rw [z9];rw [hab] at e;exact e
    ·rw [z6 z];exact g4 b o e h1 z
theorem zbv {H:Hp} {d:Addr} {u z:HO} (e:H d=some u):upd (upd H d z) d u=H:=by
 funext b
 by_cases h:b=d
 ·subst h;rw [z9,e]
 ·rw [z6 h,z6 h]
structure NewRun (A:Ad) (H H':Hp) (r b a dx:Addr) (R:RunM):Prop where
 nr:H r=none
 nb:H b=none
 na:H a=none
 rb:r≠b
 ra:r≠a
 ba:b≠a
 obj:H' r=some (.ins A.zN dx (zQ b a R.total R.count))
 base:H' b=some (.dK (dI R.base))
 asg:H' a=some (.dK (dI R.asg))
 same:Same H H'
theorem z4j {A:Ad} {H H1 H':Hp} {x dx p aa:Addr} {l:List (Int × Int)} (s:Same H H1) (hpn:H p=none) (hp:H1 p=some (.dK (dI l))) (nx:H1 x=none) (ndx:H1 dx=none) (ne:dx≠x)
  (na:upd (upd H1 dx (.own x)) x (.ins A.zN dx []) aa=none) (e1:H' x=some (.ins A.zN dx (zQ p aa (l.map (·.2)).sum 0))) (e2:H' aa=some (.dK (dI (l.map fun p=>(p.1,0)))))
  (fr:∀ b o,upd (upd H1 dx (.own x)) x (.ins A.zN dx []) b=some o→b≠x→H' b=some o):NewRun A H H' x p aa dx ⟨l,(l.map (·.2)).sum,l.map fun p=>(p.1,0),0⟩:=by
 have hax:aa≠x:=fun z=>by rw [z,z9] at na;cases na
 have had:aa≠dx:=fun z=>by rw [z,z6 ne,z9] at na;cases na
 have na1:H1 aa=none:=by rw [z6 hax,z6 had] at na;exact na
 have hpx:p≠x:=zd hp nx
 have hpd:p≠dx:=zd hp ndx
 refine ⟨s.free nx,hpn,s.free na1,Ne.symm hpx,Ne.symm hax,zd hp na1,e1,?_,e2,fun b o e=>?_⟩
 ·exact fr p _ (by rw [z6 hpx,z6 hpd];exact hp) hpx
 ·have e':=s b o e
  exact fr b o (by rw [z6 (zd e' nx),z6 (zd e' ndx)];exact e') (zd e' nx)
noncomputable def z5i (A:Ad):Sp:=fun vs H Q _=>vs=[]∧∀ r b a dx H',NewRun A H H' r b a dx ⟨[],0,[],0⟩→Q (.ref r) H'
theorem zh6 (T:Tx K mg A) (Yl:Good P w K mg base 1 A.J4 ["self", "base"] (z25 A)):Good P w K mg base 3 A.YN [] (z5i A):=by
 refine Good.of T.zlq zk1 (fun _ _ _ _ _ _=>us0 rfl) (fun vs H Q E h=>?_) (fun cdv A1 outer s0 H vs Q E hr h=>?_)
 ·obtain ⟨rfl,_⟩:=h;rfl
 ·obtain ⟨rfl,q⟩:=h
  refine ⟨_,(za (ze (z0X T.z4i Yl hr (by decide) rfl T.zN (z0 Yd z8)))),?_⟩
  walk_at "hx"
  intro p hp
  walk_at "hx"
  intro x dx nx ndx ne
  refine ⟨x,p,dx,[],rfl,z9,?_,List.nodup_nil,by decide,fun aa H' na e1 e2 fr=>⟨rfl,?_⟩⟩
  ·have hpx:p≠x:=fun z=>by rw [← z,z9] at nx;cases nx
   have hpd:p≠dx:=fun z=>by rw [← z,z9] at ndx;cases ndx
   walk_at "hh"
  ·exact q x p aa dx H' (z4j (l:=[]) (yC hp) hp z9 nx ndx ne na e1 e2 fr)
noncomputable def zaA (A:Ad):Sp:=fun vs H Q _=>∃ (d:Addr) (held:List (Int × Int)) (N:Nat),vs=[.ref d]∧H d=some (.dK (dI held))∧(held.map (·.1)).Nodup∧(∀ p∈held,1≤p.1∧p.1≤(N:Int))∧N≤12 ∧
 ∀ r b a dx H',NewRun A H H' r b a dx (Yo held N)→Q (.ref r) H'
theorem zhu (T:Tx K mg A) (Yl:Good P w K mg base 1 A.J4 ["self", "base"] (z25 A)):Good P w K mg base 3 A.Jw ["held"] (zaA A):=by
 refine Good.of T.zlO z54 (fun _ _ _ _ _ _=>us1 (fun _=>rfl)) (fun vs H Q E h=>?_) (fun cdv A1 outer s0 H vs Q E hr h=>?_)
 ·obtain ⟨d,held,N,rfl,_⟩:=h;rfl
 ·obtain ⟨d,held,N,rfl,hd,hn,hk,hN,q⟩:=h
  have hu:=yQ hr
  have hlen:=heldN hn hk
  refine ⟨_,(z7 (zp (i:=1) z54.nd rfl (Or.inl rfl) Yd) (z7 (yK PassesOwn.never rfl (Yk (K:=K) (yn (z6a rfl) rfl T.z60 z69 (z0 (pv 0) z8))) (y6 (i:=2) z54.nd rfl (Or.inl rfl)) (za (zi (zq jv (Z5 hu (pv 0) (pv 2) (fun _ _=>rfl)) zg (zo _)) (za (z00 hu (pv 1) (pv 2) (ZY Y2 (Z5 hu (pv 0) (pv 2) (fun _ _=>rfl))) rfl)) zj))) (za (ze (z0X T.z4i Yl hr (by decide) rfl T.zN (z0 (pv 1) z8)))))),?_⟩
  walk_at "hx"
  intro p hp
  have hdp:d≠p:=zd hd hp
  walk_at "hx"
  refine ⟨d,dI held,held.map (·.1),rfl,.inl (by walk_at "hh"),zcM held,by rw [List.length_map];omega,fun ns t hperm hs ht=>?_⟩
  have htp:p≠t:=fun z=>by rw [← z,z9] at ht;cases ht
  have htd:d≠t:=fun z=>by rw [← z,z6 hdp,hd] at ht;cases ht
  have htn:H t=none:=by rw [z6 (Ne.symm htp)] at ht;exact ht
  refine Y8 (SqL.of z9) ?_
  refine Yu (fun i σ H'=>∃ v,σ = [some (.ref d),some (.ref p),v]∧H' t=some (.lst (ns.map V.int))∧H' p=some (.dK (dI (((ns.take i).filter fun a=>decide (lkI held a < 0)).map fun a=>(a,-lkI held a))))∧Same H H')
   ⟨none,rfl,z9,by walk_at "hh",ZM (yC hp) htn⟩ (fun i σ H' _ ⟨_,_,e,_⟩=>SqL.of e) ?_ ?_
  ·rintro i x σ H' hi ⟨v',rfl,g1,g2,g3⟩
   rw [List.getElem?_map] at hi
   cases hz:ns[i]? with
   | none=>rw [hz] at hi;cases hi
   | some a=>
    rw [hz] at hi
    have hi:=(Option.some.inj hi).symm
    subst hi
    have ha:a∈held.map (·.1):=hperm.mem_iff.mp (List.mem_of_getElem? hz)
    obtain ⟨pr,hpr,rfl⟩:=List.mem_map.mp ha
    have gg:=z6B hn hpr
    have lk:lkI held pr.1=pr.2:=by unfold lkI;rw [gg];rfl
    walk_at "hx"
    refine Yw (.inl (g3 _ _ hd)) gg ?_
    walk_at "hx"
    refine zt (fun c=>?_) fun c=>?_
    ·walk_at "hx"
     refine Yw (.inl (g3 _ _ hd)) gg ?_
     walk_at "hx"
     refine z1p g2 (by rw [List.length_map];exact Nat.lt_of_le_of_lt (List.length_filter_le _ _) (Nat.lt_of_le_of_lt (by rw [List.length_take];exact Nat.min_le_right _ _) (Nat.lt_of_le_of_lt (by rw [hperm.length_eq,List.length_map];exact Nat.le_trans hlen hN) (by decide)))) ?_
     refine ⟨_,rfl,by rw [z6 (yX g1 g2 (by intro z;cases z))];exact g1,?_,fun b o e=>by rw [z6 (zd e hp)];exact g3 b o e⟩
     rw [z9,yL hz,List.filter_append,List.map_append,z1N]
     ·rw [List.filter_cons_of_pos (by rw [lk];exact decide_eq_true c),List.map_cons,lk];rfl
     ·rw [Zp,List.map_map]
      intro z
      obtain ⟨a',ha',e'⟩:=List.mem_map.mp z
      have e':a'=pr.1:=e'
      rw [e'] at ha'
      exact z7N (hperm.nodup_iff.mpr hn) hz (List.mem_filter.mp ha').1
    ·walk_at "hx"
     refine ⟨_,rfl,g1,?_,g3⟩
     rw [yL hz,List.filter_append,List.filter_cons_of_neg (by rw [lk];simpa using c),List.filter_nil,List.append_nil];exact g2
  ·rintro σ H' ⟨v',rfl,g1,g2,g3⟩
   rw [List.length_map,List.take_length,z7O hn hk hperm hs] at g2
   walk_at "hx"
   intro x dx nx ndx ne
   have l12:(cI (yq (fun a=>lkI held a) N)).length≤64:=by
    rw [← z7O hn hk hperm hs,List.length_map]
    exact Nat.le_trans (List.length_filter_le _ _) (by rw [hperm.length_eq,List.length_map];omega)
   have kk:(cI (yq (fun a=>lkI held a) N)).map (·.1)=((yq (fun a=>lkI held a) N).map (·.1)).map fun a:Nat=>(a:Int):=by unfold cI;rw [List.map_map,List.map_map];rfl
   have nd:((cI (yq (fun a=>lkI held a) N)).map (·.1)).Nodup:=by
    rw [kk]
    unfold List.Nodup
    rw [List.pairwise_map]
    exact (z1P _ N).imp fun h z=>by omega
   refine ⟨x,p,dx,_,rfl,z9,?_,nd,l12,fun aa H2 na e1 e2 fr=>⟨rfl,?_⟩⟩
   ·rw [z6 (zd g2 nx),z6 (zd g2 ndx)];exact g2
   ·have z:=z4j g3 hp g2 nx ndx ne na e1 e2 fr
    rw [zaZ] at z
    refine q x p aa dx H2 ?_
    have ee:(cI (yq (fun a=>lkI held a) N)).map (fun p=>(p.1,(0:Int)))=cI ((yq (fun a=>lkI held a) N).map fun p=>(p.1,0)):=by unfold cI;rw [List.map_map,List.map_map];rfl
    rw [ee] at z
    exact z
structure RunW (A:Ad) (H:Hp) (r ab aa dx:Addr) (R:RunM):Prop where
 obj:H r=some (.ins A.zN dx (zQ ab aa R.total R.count))
 base:H ab=some (.dK (dI R.base))
 asg:H aa=some (.dK (dI R.asg))
noncomputable def zay (A:Ad):Sp:=fun vs H Q _=>∃ (r ab aa dx:Addr) (ρ : Vbchaa.Run) (N:Nat),vs=[.ref r]∧RunW A H r ab aa dx (zn ρ)∧RunI ρ N∧N≤12∧ρ.count < Vbchaa.total ρ.base ∧
 ∀ p,Vbchaa.next ρ (Vbchaa.eligible ρ)=some p→Q (.int p.1) H
theorem zhq (T:Tx K mg A) (z2C:Good P w K mg base 1 A.Jh ["run", "account"] (zal A)) (z2K:Good P w K mg base 1 A.Jp ["run", "account"] (zat A)):Good P w K mg base 2 A.Ju ["run"] (zay A):=by
 refine Good.of T.zlK jI (fun _ _ _ _ _ _=>us1 (fun _=>rfl)) (fun vs H Q E h=>?_) (fun cdv A1 outer s0 H vs Q E hr h=>?_)
 ·obtain ⟨r,ab,aa,dx,ρ,N,rfl,_⟩:=h;rfl
 ·obtain ⟨r,ab,aa,dx,ρ,N,rfl,⟨h1,h2,h3⟩,ri,hN,hc,q⟩:=h
  refine ⟨_,(z7 (zp (i:=1) jI.nd rfl (Or.inl rfl) zg) (z7 (zp (i:=2) jI.nd rfl (Or.inl rfl) zg) (z7 (ja (yK PassesOwn.never rfl (z4K (zc (K:=K) (pv 0) rfl)) (y6 (i:=3) jI.nd rfl (Or.inl rfl)) (za (zi (zR (zm z2K hr (by decide) rfl T.Jp (z0 (pv 0) (z0 (pv 3) z8)))) (z7 (zp (i:=4) jI.nd rfl (Or.inl rfl) (zm z2C hr (by decide) rfl T.Jh (z0 (pv 0) (z0 (pv 3) z8)))) (za (zi (PW.pt (z03 (zq zL (pv 1) zg (zo _)) (z04 (zq jv (pv 4) (pv 2) (zo _))))) (z7 (zp (i:=1) jI.nd rfl (Or.inl rfl) (pv 3)) (za (zp (i:=2) jI.nd rfl (Or.inl rfl) (pv 4)))) zj))) zj)))) (za (ze (pv 1)))))),?_⟩
  have nrb:r≠ab:=yX h1 h2 (by intro z;cases z)
  walk_at "hx"
  refine j0 h2 trivial fun od=>?_
  have h1':upd H ab (.frz od (.dK (dI (zn ρ).base))) r=some (.ins A.zN dx (zQ ab aa (zn ρ).total (zn ρ).count)):=by rw [z6 nrb];exact h1
  have h3':Rd (upd H ab (.frz od (.dK (dI (zn ρ).base)))) aa (.dK (dI (zn ρ).asg)):=by
   by_cases z:aa=ab
   ·subst z
    rw [h2] at h3
    have:=Option.some.inj h3
    exact .inr ⟨od,by rw [z9,this]⟩
   ·exact .inl (by rw [z6 z];exact h3)
  have RA:RunAt A (upd H ab (.frz od (.dK (dI (zn ρ).base)))) r ab aa dx (zn ρ):=⟨h1',.inr ⟨od,z9⟩,h3'⟩
  walk_at "hx"
  refine z3M z9 ?_
  refine z3x (l:=cI ρ.base) (fun i σ H'=>∃ v w,σ = [some (.ref r),some (.int (chO ((ρ.base.take i).foldl (yA ρ) none))),some (.int (lsO ρ ((ρ.base.take i).foldl (yA ρ) none))),v,w]∧H'=upd H ab (.frz od (.dK (dI (zn ρ).base))))
   ⟨none,none,rfl,rfl⟩ (fun i σ H' ⟨_,_,_,e⟩=>by rw [e];exact z9) ?_ ?_
  ·rintro i p σ H' hi ⟨v',w',rfl,rfl⟩
   obtain ⟨z,hz,rfl⟩:=z0l hi
   have hm:=List.mem_of_getElem? hz
   have g1:gI (zn ρ).base (z.1:Int)=some z.2:=zdc ri.nd hm
   have g2:gI (zn ρ).asg (z.1:Int)=some (look ρ.assigned z.1):=z0p ri hm
   have b:=zfU ri hm
   have ho:∀ y,(ρ.base.take i).foldl (yA ρ) none=some y→1≤y.1:=fun y hy=>by
    rcases z85 ρ _ _ y hy with e | e
    ·cases e
    ·exact (ri.rng y (List.mem_of_mem_take e)).1
   have pe:=ziA ρ ((ρ.base.take i).foldl (yA ρ) none) z ho
   have es:(ρ.base.take (i + 1)).foldl (yA ρ) none=yA ρ ((ρ.base.take i).foldl (yA ρ) none) z:=by rw [yL hz,List.foldl_append];rfl
   walk_at "hx"
   refine ⟨r,ab,aa,dx,zn ρ,z.1,z.2,look ρ.assigned z.1,rfl,RA,g1,g2,⟨by omega,by omega⟩,⟨by omega,by omega⟩,?_⟩
   walk_at "hx"
   refine jr (fun c=>?_) fun c=>?_
   ·have c:Zg ρ z=true:=c
    walk_at "hx"
    refine ⟨r,ab,aa,dx,zn ρ,z.1,z.2,look ρ.assigned z.1,rfl,RA,g1,g2,⟨by omega,by omega⟩,⟨by omega,by omega⟩,?_⟩
    have ed:((look ρ.assigned z.1 + 1) * (zn ρ).total + z.2 - 1) / z.2=Vbchaa.deadline ρ z:=rfl
    rw [ed]
    walk_at "hx"
    refine zt (fun c1=>?_) fun c1=>?_
    ·refine yW rfl ?_
     walk_at "hx"
     refine ⟨some (.int z.1),some (.int (Vbchaa.deadline ρ z)),?_,rfl⟩
     rw [es,pe.2.1 c (.inl c1)]
     rfl
    ·walk_at "hx"
     refine zt (fun c2=>?_) fun c2=>?_
     ·walk_at "hx"
      refine ⟨some (.int z.1),some (.int (Vbchaa.deadline ρ z)),?_,rfl⟩
      rw [es,pe.2.1 c (.inr c2)]
      rfl
     ·walk_at "hx"
      refine ⟨some (.int z.1),some (.int (Vbchaa.deadline ρ z)),?_,rfl⟩
      rw [es,pe.2.2 c (fun y=>y.elim c1 c2)]
      rfl
   ·have c:Zg ρ z=false:=c
    walk_at "hx"
    refine ⟨some (.int z.1),w',?_,rfl⟩
    rw [es,pe.1 c]
    rfl
  ·rintro σ H' ⟨v',w',rfl,rfl⟩
   refine ⟨z9,?_⟩
   rw [zbv h2]
   walk_at "hx"
   rw [YH,List.take_length]
   have e0 : ρ.base.foldl (yA ρ) none=Vbchaa.next ρ (Vbchaa.eligible ρ):=ziB ρ
   obtain ⟨p,hb,hp,_⟩:=ri.step hc
   rw [e0,hp]
   exact q p hp
theorem RunI.at {ρ : Vbchaa.Run} {N n:Nat} (ri:RunI ρ N) (room : ρ.count + n≤Vbchaa.total ρ.base) {i:Nat} (hi:i≤n):RunI (Vbchaa.assign i ρ) N∧(Vbchaa.assign i ρ).base = ρ.base∧(Vbchaa.assign i ρ).count = ρ.count + i:=by
 obtain ⟨a,b,c,_⟩:=RunI.assign i ri (by omega)
 exact ⟨a,b,c⟩
noncomputable def z5h (A:Ad):Sp:=fun vs H Q _=>∃ (r ab aa dx:Addr) (ρ : Vbchaa.Run) (N n:Nat),vs=[.ref r,.int n]∧RunW A H r ab aa dx (zn ρ)∧ab≠aa∧RunI ρ N∧N≤12∧n≤1000∧ρ.count + n≤Vbchaa.total ρ.base ∧
 ∀ p H',H p=none→H' p=some (.dK (dI (cI (Vbchaa.newly ρ (Vbchaa.assign n ρ)))))→RunW A H' r ab aa dx (zn (Vbchaa.assign n ρ))→(∀ b o,H b=some o→b≠r→b≠aa→H' b=some o)→Q (.ref p) H'
set_option maxHeartbeats 1000000 in
theorem zgX {P:Program} {w:World} {K:PySem.W.Frag} {mg:Str→Option Value} {base:Heap} {A:Ad} (T:Tx K mg A) (z2P:Good P w K mg base 2 A.Ju ["run"] (zay A)):Good P w K mg base 3 A.YM ["run", "n"] (z5h A):=by
 refine Good.of T.zlh jG (fun _ _ _ _ _ _=>us2 (fun _ _=>rfl)) (fun vs H Q E h=>?_) (fun cdv A1 outer s0 H vs Q E hr h=>?_)
 ·obtain ⟨r,ab,aa,dx,ρ,N,n,rfl,_⟩:=h;rfl
 ·obtain ⟨r,ab,aa,dx,ρ,N,n,rfl,⟨h1,h2,h3⟩,nba,ri,hN,hn,room,q⟩:=h
  have hu:=yQ hr
  refine ⟨_,(z7 (zp (i:=2) jG.nd rfl (Or.inl rfl) (z1H z3p rfl T.z3m z3o (z0 (zc (K:=K) (pv 0) rfl) z8))) (z7 (yK PassesOwn.never rfl (ziv rfl T.z5Z (z0 (pv 1) z8)) (y6 (i:=3) jG.nd rfl (Or.inl rfl)) (z7 (zp (i:=4) jG.nd rfl (Or.inl rfl) (zm z2P hr (by decide) rfl T.Ju (z0 (pv 0) z8))) (z7 (ziE hu (zc (K:=K) (pv 0) rfl) (pv 4) zg z1r (fun _ _ _=>rfl)) (za (z5F (K:=K) (pv 0) zg z1r))))) (z7 (zp (i:=5) jG.nd rfl (Or.inl rfl) Yd) (z7 (ja (yK PassesOwn.never rfl (z4K (zc (K:=K) (pv 0) rfl)) (y6 (i:=4) jG.nd rfl (Or.inl rfl)) (z7 (zp (i:=6) jG.nd rfl (Or.inl rfl) (zz yE (Z5 hu (zc (K:=K) (pv 0) rfl) (pv 4) (fun _ _=>rfl)) (Z5 hu (pv 2) (pv 4) (fun _ _=>rfl)))) (za (zi (zq z1F (pv 6) zg (zo _)) (za (z00 hu (pv 5) (pv 4) (pv 6) rfl)) zj))))) (za (ze (pv 5))))))),?_⟩
  have nrb:r≠ab:=yX h1 h2 (by intro z;cases z)
  have nra:r≠aa:=yX h1 h3 (by intro z;cases z)
  walk_at "hx"
  refine ⟨aa,_,rfl,.inl h3,fun bf hbf=>?_⟩
  have bfr:r≠bf:=zd h1 hbf
  have bfb:ab≠bf:=zd h2 hbf
  have bfa:aa≠bf:=zd h3 hbf
  walk_at "hx"
  refine zeL (by omega) (by omega) ?_
  refine z6y (fun i σ H'=>∃ v w,σ = [some (.ref r),some (.int n),some (.ref bf),v,w,none,none]∧RunW A H' r ab aa dx (zn (Vbchaa.assign i ρ))∧H' bf=some (.dK (dI (cI ρ.assigned)))∧∀ b o,H b=some o→b≠r→b≠aa→H' b=some o)
   ⟨none,none,rfl,⟨by rw [z6 bfr];exact h1,by rw [z6 bfb];exact h2,by rw [z6 bfa];exact h3⟩,z9,fun b o e _ _=>by rw [z6 (zd e hbf)];exact e⟩ ?_ ?_
  ·rintro i σ H' hi ⟨v',w',rfl,⟨g1,g2,g3⟩,g4,g5⟩
   have hi:i < n:=by
    have:((n:Int).toNat)=n:=by omega
    omega
   obtain ⟨rii,rb,rc⟩:=RunI.at ri room (Nat.le_of_lt hi)
   have hc:(Vbchaa.assign i ρ).count < Vbchaa.total (Vbchaa.assign i ρ).base:=by rw [rb,rc];omega
   obtain ⟨p,hb,hp,eq,_⟩:=rii.step hc
   have mk:p.1∈(Vbchaa.assign i ρ).assigned.map (·.1):=by rw [rii.keys];exact List.mem_map_of_mem hb
   walk_at "hx"
   refine ⟨r,ab,aa,dx,Vbchaa.assign i ρ,N,rfl,⟨g1,g2,g3⟩,rii,hN,hc,fun p' hp'=>?_⟩
   rw [hp] at hp'
   cases hp'
   walk_at "hx"
   refine ⟨aa,.int (look (Vbchaa.assign i ρ).assigned p.1),rfl,?_,?_⟩
   ·have z:=DGet.k (k:=Sum.inl (p.1:Int)) g3
    rw [z5B] at z
    have e:gI (zn (Vbchaa.assign i ρ)).asg (p.1:Int)=some (look (Vbchaa.assign i ρ).assigned p.1):=z0p rii hb
    rw [e] at z;exact z
   ·walk_at "hx"
    refine ⟨_,DPut.k (k:=Sum.inl (p.1:Int)) g3 ?_,?_⟩
    ·rw [YJ]
     show (cI (Vbchaa.assign i ρ).assigned).length < sizeLine
     rw [YH]
     exact Nat.lt_of_le_of_lt (Nat.le_trans (z3j rii) hN) (by decide)
    ·have ep:yB (dI (zn (Vbchaa.assign i ρ)).asg) (Sum.inl (p.1:Int)) (V.int (look (Vbchaa.assign i ρ).assigned p.1 + 1))=dI (cI (Z9 p.1 (Vbchaa.assign i ρ).assigned)):=by
      rw [z8f]
      show dI (zP (cI (Vbchaa.assign i ρ).assigned) _ _)=_
      rw [ziK rii.ndA mk]
     rw [ep]
     have g1':upd H' aa (.dK (dI (cI (Z9 p.1 (Vbchaa.assign i ρ).assigned)))) r=some (.ins A.zN dx (zQ ab aa (zn (Vbchaa.assign i ρ)).total (zn (Vbchaa.assign i ρ)).count)):=by rw [z6 nra];exact g1
     walk_at "hx"
     refine z3H g1' T.ZQ T.z1C z7h ?_
     walk_at "hx"
     refine ⟨dx,_,g1',by walk_at "hl",?_⟩
     rw [z83]
     refine ⟨_,_,rfl,?_,?_,fun b o e hb1 hb2=>?_⟩
     ·rw [z5V,eq]
      refine ⟨z9,?_,?_⟩
      ·rw [z6 (Ne.symm nrb),z6 nba];exact g2
      ·rw [z6 (Ne.symm nra),z9];rfl
     ·rw [z6 (Ne.symm bfr),z6 (Ne.symm bfa)];exact g4
     ·rw [z6 hb1,z6 hb2];exact g5 b o e hb1 hb2
  ·rintro σ H' ⟨v',w',rfl,W,g4,g5⟩
   have en:((n:Int).toNat)=n:=by omega
   rw [en] at W
   obtain ⟨rt,tb,tc⟩:=RunI.at ri room (Nat.le_refl n)
   obtain ⟨_,_,_,_,mono⟩:=RunI.assign n ri room
   generalize Vbchaa.assign n ρ = τ at W rt tb tc mono q
   obtain ⟨g1,g2,g3⟩:=W
   walk_at "hx"
   intro gt hgt
   have gr:r≠gt:=zd g1 hgt
   have gb:ab≠gt:=zd g2 hgt
   have ga:aa≠gt:=zd g3 hgt
   have gf:bf≠gt:=zd g4 hgt
   have hgtH:H gt=none:=by
    cases e:H gt with
    | none=>rfl
    | some o=>rw [g5 gt o e (Ne.symm gr) (Ne.symm ga)] at hgt;cases hgt
   walk_at "hx"
   refine j0 (d:=ab) (u:=.dK (dI (zn τ).base)) (by rw [z6 gb];exact g2) trivial fun od=>?_
   have g1':upd (upd H' gt (.dK [])) ab (.frz od (.dK (dI (zn τ).base))) r=some (.ins A.zN dx (zQ ab aa (zn τ).total (zn τ).count)):=by rw [z6 nrb,z6 gr];exact g1
   walk_at "hx"
   refine z3M z9 ?_
   refine z3x (l:=cI τ.base) (fun i σ H2=>∃ v w x,σ = [some (.ref r),some (.int n),some (.ref bf),v,w,some (.ref gt),x]∧H2 gt=some (.dK (dI (cI (Yb ρ τ i))))∧∀ b o,(upd (upd H' gt (.dK [])) ab (.frz od (.dK (dI (zn τ).base)))) b=some o→b≠gt→H2 b=some o)
    ⟨_,_,none,rfl,by rw [z6 (Ne.symm gb),z9];rfl,fun b o e _=>e⟩ (fun i σ H2 ⟨_,_,_,_,_,e⟩=>e ab _ z9 gb) ?_ ?_
   ·rintro i p σ H2 hi ⟨v2,w2,x2,rfl,f1,f2⟩
    obtain ⟨z,hz,rfl⟩:=z0l hi
    have hm:=List.mem_of_getElem? hz
    have hm':z∈ρ.base:=by rw [← tb];exact hm
    have k1:=f2 r _ g1' gr
    have k3:H2 aa=some (.dK (dI (zn τ).asg)):=f2 aa _ (by rw [z6 (Ne.symm nba),z6 ga];exact g3) ga
    have k4:H2 bf=some (.dK (dI (cI ρ.assigned))):=f2 bf _ (by rw [z6 (Ne.symm bfb),z6 gf];exact g4) gf
    have ka:=zf9 rt hz
    walk_at "hx"
    refine Yw (l:=cI τ.assigned) (.inl k3) (z0p rt hm) ?_
    walk_at "hx"
    refine Yw (.inl k4) (z0p ri hm') ?_
    walk_at "hx"
    have hmono:=mono z.1
    have es:=zgo (r:=ρ) ka
    dsimp only at es
    refine zt (fun c=>?_) fun c=>?_
    ·walk_at "hx"
     rw [if_pos (by omega)] at es
     refine z1p f1 (by rw [YH];exact Nat.lt_of_le_of_lt (zgn _ _ _) (Nat.lt_of_le_of_lt (Nat.le_trans (z3j rt) hN) (by decide))) ?_
     refine ⟨_,_,_,rfl,?_,fun b o e hb=>by rw [z6 hb];exact f2 b o e hb⟩
     rw [z9,es,z1N]
     ·unfold cI;rw [List.map_append];rfl
     ·rw [z1k,if_neg]
      intro y
      have y:=zgm y
      have hk2:(τ.assigned.map (·.1))[i]?=some z.1:=by rw [List.getElem?_map,ka];rfl
      have:=z7N rt.ndA hk2
      rw [← List.map_take] at this
      exact this y
    ·walk_at "hx"
     rw [if_neg (by omega),List.append_nil] at es
     refine ⟨_,_,_,rfl,?_,f2⟩
     rw [es];exact f1
   ·rintro σ H2 ⟨v2,w2,x2,rfl,f1,f2⟩
    refine ⟨f2 ab _ z9 gb,?_⟩
    rw [YH,zgl (by
     have:=congrArg List.length rt.keys
     rw [List.length_map,List.length_map] at this
     omega)] at f1
    walk_at "hx"
    refine q gt _ hgtH (by rw [z6 (Ne.symm gb)];exact f1) ⟨?_,z9,?_⟩ fun b o e hb1 hb2=>?_
    ·rw [z6 nrb];exact f2 r _ g1' gr
    ·rw [z6 (Ne.symm nba)];exact f2 aa _ (by rw [z6 (Ne.symm nba),z6 ga];exact g3) ga
    ·have e2:=g5 b o e hb1 hb2
     have hbg:b≠gt:=zd e hgtH
     by_cases z:b=ab
     ·subst z;rw [z9];rw [g2] at e2;exact e2
     ·rw [z6 z]
      exact f2 b o (by rw [z6 z,z6 hbg];exact e2) hbg
noncomputable def zak (A:Ad):Sp:=fun vs H Q _=>∃ (r ab aa dx:Addr) (ρ : Vbchaa.Run) (N:Nat),vs=[.ref r]∧RunW A H r ab aa dx (zn ρ)∧RunI ρ N∧N≤12 ∧
 ∀ r' b a dx' H',NewRun A H H' r' b a dx' (zn ρ)→Q (.ref r') H'
theorem zh3 (T:Tx K mg A) (Yl:Good P w K mg base 1 A.J4 ["self", "base"] (z25 A)):Good P w K mg base 3 A.Jg ["run"] (zak A):=by
 refine Good.of T.zln z9Q (fun _ _ _ _ _ _=>us1 (fun _=>rfl)) (fun vs H Q E h=>?_) (fun cdv A1 outer s0 H vs Q E hr h=>?_)
 ·obtain ⟨r,ab,aa,dx,ρ,N,rfl,_⟩:=h;rfl
 ·obtain ⟨r,ab,aa,dx,ρ,N,rfl,⟨h1,h2,h3⟩,ri,hN,q⟩:=h
  refine ⟨_,(z7 (zp (i:=1) z9Q.nd rfl (Or.inl rfl) (z0X T.z4i Yl hr (by decide) rfl T.zN (z0 (z1H z3p rfl T.z3m z3o (z0 (zc (K:=K) (pv 0) rfl) z8)) z8))) (z7 (zB (K:=K) (pv 1) (z1H z3p rfl T.z3m z3o (z0 (zc (K:=K) (pv 0) rfl) z8)) rfl) (z7 (zB (K:=K) (pv 1) (zc (K:=K) (pv 0) rfl) rfl) (za (ze (pv 1)))))),?_⟩
  walk_at "hx"
  refine ⟨ab,_,rfl,.inl h2,fun p hp=>?_⟩
  walk_at "hx"
  intro x d nx nd ne
  have kk:(cI ρ.base).map (·.1)=(ρ.base.map (·.1)).map fun a:Nat=>(a:Int):=by unfold cI;rw [List.map_map,List.map_map];rfl
  have ndk:((cI ρ.base).map (·.1)).Nodup:=by
   rw [kk]
   unfold List.Nodup
   rw [List.pairwise_map]
   exact ri.rise.imp fun h z=>by omega
  refine ⟨x,p,d,cI ρ.base,rfl,z9,?_,ndk,by rw [YH];exact Nat.le_trans (z1Q ri) (by omega),fun a1 H1 na e1 e2 fr=>⟨rfl,?_⟩⟩
  ·have hpx:p≠x:=fun z=>by rw [← z,z9] at nx;cases nx
   have hpd:p≠d:=fun z=>by rw [← z,z9] at nd;cases nd
   rw [z6 hpx,z6 hpd,z9];rfl
  have NR:=z4j (A:=A) (l:=cI ρ.base) (yC hp) hp z9 nx nd ne na e1 e2 fr
  rw [zaZ] at NR e1
  have r1:=NR.same _ _ h1
  have r3:=NR.same _ _ h3
  have xr:r≠x:=zd h1 NR.nr
  walk_at "hx"
  refine ⟨aa,_,rfl,.inl r3,fun a2 ha2=>?_⟩
  have a2x:x≠a2:=zd NR.obj ha2
  have a2r:r≠a2:=zd r1 ha2
  have a2p:p≠a2:=zd NR.base ha2
  have e1':upd H1 a2 (.dK (dI (zn ρ).asg)) x=some (.ins A.zN d (zQ p a1 (Vbchaa.total ρ.base) 0)):=by rw [z6 a2x];exact e1
  walk_at "hx"
  refine zy e1' T.ZQ T.z4t (by walk_at "hl") ?_
  rw [zik]
  have r1':upd (upd H1 a2 (.dK (dI (zn ρ).asg))) x (.ins A.zN d (zQ p a2 (Vbchaa.total ρ.base) 0)) r=some (.ins A.zN dx (zQ ab aa (zn ρ).total (zn ρ).count)):=by rw [z6 xr,z6 a2r];exact r1
  walk_at "hx"
  refine zy z9 T.ZQ T.z1C (by walk_at "hl") ?_
  rw [z83]
  walk_at "hx"
  refine q x p a2 d _ ⟨NR.nr,NR.nb,NR.same.free ha2,NR.rb,a2x,a2p,z9,?_,?_,fun b o e=>?_⟩
  ·rw [z6 (Ne.symm NR.rb),z6 (Ne.symm NR.rb),z6 a2p];exact NR.base
  ·rw [z6 (Ne.symm a2x),z6 (Ne.symm a2x),z9]
  ·have z1:=zd e NR.nr
   have z2:=zd (NR.same _ _ e) ha2
   rw [z6 z1,z6 z1,z6 z2];exact NR.same _ _ e
noncomputable def zaT (A:Ad):Sp:=fun vs H Q _=>∃ (r ab aa dx:Addr) (ρ : Vbchaa.Run) (N n:Nat),vs=[.ref r,.int n]∧RunW A H r ab aa dx (zn ρ)∧RunI ρ N∧N≤12∧n≤1000∧ρ.count + n≤Vbchaa.total ρ.base ∧
 ∀ p H',H p=none→H' p=some (.dK (dI (cI (Vbchaa.newly ρ (Vbchaa.assign n ρ)))))→Same H H'→Q (.ref p) H'
theorem zhN (T:Tx K mg A) (jU:Good P w K mg base 3 A.YM ["run", "n"] (z5h A)) (z2B:Good P w K mg base 3 A.Jg ["run"] (zak A)):Good P w K mg base 4 A.JO ["run", "n"] (zaT A):=by
 refine Good.of T.zm6 zki (fun _ _ _ _ _ _=>us2 (fun _ _=>rfl)) (fun vs H Q E h=>?_) (fun cdv A1 outer s0 H vs Q E hr h=>?_)
 ·obtain ⟨r,ab,aa,dx,ρ,N,n,rfl,_⟩:=h;rfl
 ·obtain ⟨r,ab,aa,dx,ρ,N,n,rfl,W,ri,hN,hn,room,q⟩:=h
  refine ⟨_,(za (ze (zm jU hr (by decide) rfl T.YM (z0 (zm z2B hr (by decide) rfl T.Jg (z0 (pv 0) z8)) (z0 (pv 1) z8))))),?_⟩
  walk_at "hx"
  refine ⟨r,ab,aa,dx,ρ,N,rfl,W,ri,hN,fun r' b a dx' H' NR=>?_⟩
  walk_at "hx"
  refine ⟨r',b,a,dx',ρ,N,n,rfl,⟨NR.obj,NR.base,NR.asg⟩,NR.ba,ri,hN,hn,room,fun p H2 hp e1 W2 fr=>?_⟩
  exact q p H2 (NR.same.free hp) e1 fun b' o e=>fr b' o (NR.same _ _ e) (zd e NR.nr) (zd e NR.na)
noncomputable def z09 (A:Ad):Sp:=fun vs H Q _=>∃ (L:Lay) (m:HouM) (i:Nat) (k:ConM) (a:Int),vs=[.ref (L.ad (.con i)),.int a]∧Hs A.cs H L m∧m.cons[i]?=some k∧Q (.int (lkI k.held a)) H
theorem zgG (T:Tx K mg A):Good P w K mg base 1 A.YL ["self", "account"] (z09 A):=by
 refine Good.of T.zl0 zjL (fun _ _ _ _ _ _=>us2 (fun _ _=>rfl)) (fun vs H Q E h=>?_) (fun cdv A1 outer s0 H vs Q E hr h=>?_)
 ·obtain ⟨L,m,i,k,a,rfl,_⟩:=h;rfl
 ·obtain ⟨L,m,i,k,a,rfl,hs,hk,q⟩:=h
  have hu:=yQ hr
  refine ⟨_,(za (ze (zi1 hu (zc (K:=K) (pv 0) rfl) (pv 1) zg ⟨rfl,rfl,rfl,rfl⟩))),?_⟩
  walk_at "hx"
  refine zei ?_
  walk_at "hx"
  refine ⟨_,rfl,z8v (.inl (hs.held hk)),?_⟩
  walk_at "hx"
  refine ⟨_,DGet.k (k:=Sum.inl a) (hs.held hk),?_⟩
  rw [z5B]
  have e:((gI k.held a).map V.int).getD (V.int 0)=V.int (lkI k.held a):=by unfold lkI;cases gI k.held a <;> rfl
  rw [e]
  exact q
noncomputable def jd (A:Ad):Sp:=fun vs H Q _=>∃ (L:Lay) (m:HouM) (a:Int),vs=[.ref (L.ad .house),.int a]∧Hs A.cs H L m∧Q (.bl (decide (1≤a∧a≤(m.cash.length:Int)))) H
theorem zgH (T:Tx K mg A):Good P w K mg base 1 A.Yr ["self", "a"] (jd A):=by
 refine Good.of T.zl1 zjM (fun _ _ _ _ _ _=>us2 (fun _ _=>rfl)) (fun vs H Q E h=>?_) (fun cdv A1 outer s0 H vs Q E hr h=>?_)
 ·obtain ⟨L,m,a,rfl,_⟩:=h;rfl
 ·obtain ⟨L,m,a,rfl,hs,q⟩:=h
  refine ⟨_,(za (ze (j8 yz yz zg (pv 1) (yn (Z1 (K:=K)) rfl T.yO yP (z0 (zc (K:=K) (pv 0) rfl) z8))))),?_⟩
  walk_at "hx"
  refine zt (fun p=>?_) fun p=>z3g p q
  walk_at "hx"
  refine ZF hs.ca ?_
  walk_at "hx"
  exact z3h p q
noncomputable def za8 (A:Ad):Sp:=fun vs H Q _=>∃ (L:Lay) (m:HouM) (a:Int),vs=[.ref (L.ad .house),.int a]∧Hs A.cs H L m∧Q (.bl (decide (1≤a∧a≤(m.prices.length:Int)))) H
theorem zgJ (T:Tx K mg A):Good P w K mg base 1 A.z1f ["self", "u"] (za8 A):=by
 refine Good.of T.zl3 zjO (fun _ _ _ _ _ _=>us2 (fun _ _=>rfl)) (fun vs H Q E h=>?_) (fun cdv A1 outer s0 H vs Q E hr h=>?_)
 ·obtain ⟨L,m,a,rfl,_⟩:=h;rfl
 ·obtain ⟨L,m,a,rfl,hs,q⟩:=h
  refine ⟨_,(za (ze (j8 yz yz zg (pv 1) (yn (Z1 (K:=K)) rfl T.yO yP (z0 (zc (K:=K) (pv 0) rfl) z8))))),?_⟩
  walk_at "hx"
  refine zt (fun p=>?_) fun p=>z3g p q
  walk_at "hx"
  refine ZF hs.pr ?_
  walk_at "hx"
  exact z3h p q
noncomputable def jJ (A:Ad):Sp:=fun vs H Q _=>∃ (L:Lay) (m:HouM) (a:Int),vs=[.ref (L.ad .house),.int a]∧Hs A.cs H L m∧Q (.bl (decide (1≤a∧a≤(m.cons.length:Int)))) H
theorem zgI (T:Tx K mg A):Good P w K mg base 1 A.Ys ["self", "c"] (jJ A):=by
 refine Good.of T.zl2 zjN (fun _ _ _ _ _ _=>us2 (fun _ _=>rfl)) (fun vs H Q E h=>?_) (fun cdv A1 outer s0 H vs Q E hr h=>?_)
 ·obtain ⟨L,m,a,rfl,_⟩:=h;rfl
 ·obtain ⟨L,m,a,rfl,hs,q⟩:=h
  refine ⟨_,(za (ze (j8 yz yz zg (pv 1) (yn (Z1 (K:=K)) rfl T.yO yP (z0 (zc (K:=K) (pv 0) rfl) z8))))),?_⟩
  walk_at "hx"
  refine zt (fun p=>?_) fun p=>z3g p q
  walk_at "hx"
  refine z0v hs.cl ?_
  walk_at "hx"
  exact z3h p q
noncomputable def z0U (A:Ad):Sp:=fun vs H Q _=>∃ (p:Int),vs=[.int p]∧Q (.bl (decide (0≤p∧p≤1000000))) H
theorem zhj (T:Tx K mg A):Good P w K mg base 1 A.ZD ["p"] (z0U A):=by
 refine Good.of T.zlD zk8 (fun _ _ _ _ _ _=>us1 (fun _=>rfl)) (fun vs H Q E h=>?_) (fun cdv A1 outer s0 H vs Q E hr h=>?_)
 ·obtain ⟨p,rfl,_⟩:=h;rfl
 ·obtain ⟨p,rfl,q⟩:=h
  refine ⟨_,(za (ze (j8 yz yz zg (pv 0) (zf (i:=1000000) T.zdt rfl)))),?_⟩
  walk_at "hx"
  exact q
noncomputable def z0T (A:Ad):Sp:=fun vs H Q _=>∃ (L:Lay) (m:HouM) (i:Nat) (k:ConM),vs=[.ref (L.ad .house),.ref (L.ad (.con i))]∧Hs A.cs H L m∧m.cons[i]?=some k∧(1≤k.under∧k.under≤(m.prices.length:Int))∧Q (.int (atP m.prices k.under)) H
theorem zgM (T:Tx K mg A):Good P w K mg base 1 A.jk ["self", "contract"] (z0T A):=by
 refine Good.of T.zl6 zjR (fun _ _ _ _ _ _=>us2 (fun _ _=>rfl)) (fun vs H Q E h=>?_) (fun cdv A1 outer s0 H vs Q E hr h=>?_)
 ·obtain ⟨L,m,i,k,rfl,_⟩:=h;rfl
 ·obtain ⟨L,m,i,k,rfl,hs,hk,b,q⟩:=h
  refine ⟨_,(za (ze (zD (zE (K:=K)) (zc (K:=K) (pv 0) rfl) (zz yE (zc (K:=K) (pv 1) rfl) zg) (fun _ _=>rfl)))),?_⟩
  walk_at "hx"
  have hl:k.under.toNat - 1 < m.prices.length:=by omega
  refine zV (n:=k.under.toNat - 1) hs.pr (by omega) (List.getElem?_eq_getElem hl) ?_
  have e:atP m.prices k.under=m.prices[k.under.toNat - 1]:=by unfold atP;rw [List.getD_eq_getElem?_getD,List.getElem?_eq_getElem hl];rfl
  rw [← e];exact q
noncomputable def z29 (A:Ad):Sp:=fun vs H Q _=>∃ (L:Lay) (m:HouM) (i:Nat) (k:ConM) (p:Int),vs=[.ref (L.ad (.con i)),.int p]∧Hs A.cs H L m∧m.cons[i]?=some k∧Q (.int (Zs k p)) H
theorem zhl (T:Tx K mg A):Good P w K mg base 1 A.Y4 ["contract", "price"] (z29 A):=by
 refine Good.of T.zlF zk9 (fun _ _ _ _ _ _=>us2 (fun _ _=>rfl)) (fun vs H Q E h=>?_) (fun cdv A1 outer s0 H vs Q E hr h=>?_)
 ·obtain ⟨L,m,i,k,p,rfl,_⟩:=h;rfl
 ·obtain ⟨L,m,i,k,p,rfl,hs,hk,q⟩:=h
  refine ⟨_,(z7 (zi (zq zL (zc (K:=K) (pv 0) rfl) (zf (i:=1) T.z6D rfl) (zo _)) (za (ze (yn (zbC rfl) rfl T.z5Y z68 (z0 (zz yE (pv 1) (zc (K:=K) (pv 0) rfl)) (z0 zg z8))))) zj) (za (ze (yn (zbC rfl) rfl T.z5Y z68 (z0 (zz yE (zc (K:=K) (pv 0) rfl) (pv 1)) (z0 zg z8)))))),?_⟩
  walk_at "hx"
  unfold Zs at q
  refine zt (fun c=>?_) fun c=>?_
  ·walk_at "hx"
   refine z6Y ?_
   rw [if_pos c] at q;exact q
  ·walk_at "hx"
   refine z6Y ?_
   rw [if_neg c] at q;exact q
noncomputable def z28 (A:Ad):Sp:=fun vs H Q _=>∃ (L:Lay) (m:HouM) (i:Nat) (k:ConM) (a n:Int),vs=[.ref (L.ad (.con i)),.int a,.int n]∧Hs A.cs H L m∧m.cons[i]?=some k∧Q (.bl (decide (¬ (-100000≤lkI k.held a + n∧lkI k.held a + n≤100000)))) H
theorem zhe (T:Tx K mg A) (Z8:Good P w K mg base 1 A.YL ["self", "account"] (z09 A)):Good P w K mg base 2 A.Zo ["contract", "account", "lots"] (z28 A):=by
 refine Good.of T.zly zk4 (fun _ _ _ _ _ _=>us3 (fun _ _ _=>rfl)) (fun vs H Q E h=>?_) (fun cdv A1 outer s0 H vs Q E hr h=>?_)
 ·obtain ⟨L,m,i,k,a,n,rfl,_⟩:=h;rfl
 ·obtain ⟨L,m,i,k,a,n,rfl,hs,hk,q⟩:=h
  refine ⟨_,(za (ze (z1I z1F (yn zme rfl T.zcg z16 (z0 (zz Zh (yh (pv 0) T.zZ T.z0D Z8 hr (by decide) (z0 (pv 1) z8)) (pv 2)) z8)) (zf (i:=100000) T.zdp rfl) (zo _)))),?_⟩
  walk_at "hx"
  refine ⟨L,m,i,k,a,rfl,hs,hk,?_⟩
  walk_at "hx"
  refine ze3 ?_
  walk_at "hx"
  have e:decide (100000 < if lkI k.held a + n < 0 then -(lkI k.held a + n) else lkI k.held a + n)=decide (¬ (-100000≤lkI k.held a + n∧lkI k.held a + n≤100000)):=by
   apply decide_eq_decide.mpr
   split <;> omega
  rw [e];exact q
noncomputable def z5k (A:Ad):Sp:=fun vs H Q _=>∃ (L:Lay) (m:HouM) (i:Nat) (k:ConM),vs=[.ref (L.ad .house),.ref (L.ad (.con i))]∧Hs A.cs H L m∧m.cons[i]?=some k∧Q (.bl (decide (k.expiry=m.turn))) H
theorem zhb (T:Tx K mg A):Good P w K mg base 1 A.YQ ["house", "contract"] (z5k A):=by
 refine Good.of T.zlv zk3 (fun _ _ _ _ _ _=>us2 (fun _ _=>rfl)) (fun vs H Q E h=>?_) (fun cdv A1 outer s0 H vs Q E hr h=>?_)
 ·obtain ⟨L,m,i,k,rfl,_⟩:=h;rfl
 ·obtain ⟨L,m,i,k,rfl,hs,hk,q⟩:=h
  refine ⟨_,(za (ze (z1I zL (zc (K:=K) (pv 1) rfl) (zc (K:=K) (pv 0) rfl) (zo _)))),?_⟩
  walk_at "hx"
  exact q
noncomputable def z5j (A:Ad):Sp:=fun vs H Q _=>∃ (L:Lay) (m:HouM) (key:Int) (x:TrdM) (k:ConM),vs=[.ref (L.ad (.trd key))]∧Hs A.cs H L m∧gI m.trades key=some x∧m.cons[x.con]?=some k∧Q (.bl (decide (x.exb < k.exd))) H
theorem zha (T:Tx K mg A):Good P w K mg base 1 A.YO ["deal"] (z5j A):=by
 refine Good.of T.zlu zk2 (fun _ _ _ _ _ _=>us1 (fun _=>rfl)) (fun vs H Q E h=>?_) (fun cdv A1 outer s0 H vs Q E hr h=>?_)
 ·obtain ⟨L,m,key,x,k,rfl,_⟩:=h;rfl
 ·obtain ⟨L,m,key,x,k,rfl,hs,hx,hk,q⟩:=h
  refine ⟨_,(za (ze (z1I z1F (zc (K:=K) (zc (K:=K) (pv 0) rfl) rfl) (zc (K:=K) (pv 0) rfl) (zo _)))),?_⟩
  walk_at "hx"
  exact q
noncomputable def z5l (A:Ad):Sp:=fun vs H Q _=>∃ (L:Lay) (m:HouM) (key:Int) (x:TrdM) (a:Int),vs=[.ref (L.ad (.trd key)),.int a]∧Hs A.cs H L m∧gI m.trades key=some x∧Q (.bl (if a=x.buyer then x.ys else x.yb)) H
theorem zhi (T:Tx K mg A):Good P w K mg base 1 A.YR ["deal", "a"] (z5l A):=by
 refine Good.of T.zlC zk7 (fun _ _ _ _ _ _=>us2 (fun _ _=>rfl)) (fun vs H Q E h=>?_) (fun cdv A1 outer s0 H vs Q E hr h=>?_)
 ·obtain ⟨L,m,key,x,a,rfl,_⟩:=h;rfl
 ·obtain ⟨L,m,key,x,a,rfl,hs,hx,q⟩:=h
  refine ⟨_,(z7 (zi (zq zL (pv 1) (zc (K:=K) (pv 0) rfl) (zo _)) (za (ze (zc (K:=K) (pv 0) rfl))) zj) (za (ze (zc (K:=K) (pv 0) rfl)))),?_⟩
  walk_at "hx"
  refine zt (fun c=>?_) fun c=>?_
  ·walk_at "hx"
   rw [if_pos c] at q;exact q
  ·walk_at "hx"
   rw [if_neg c] at q;exact q
noncomputable def z5n (A:Ad):Sp:=fun vs H Q _=>∃ (L:Lay) (m:HouM) (key:Int) (x:TrdM),vs=[.ref (L.ad (.trd key))]∧Hs A.cs H L m∧gI m.trades key=some x∧Q (.int (if x.side=0 then x.buyer else x.seller)) H
theorem zhs (T:Tx K mg A):Good P w K mg base 1 A.YT ["deal"] (z5n A):=by
 refine Good.of T.zlM zkd (fun _ _ _ _ _ _=>us1 (fun _=>rfl)) (fun vs H Q E h=>?_) (fun cdv A1 outer s0 H vs Q E hr h=>?_)
 ·obtain ⟨L,m,key,x,rfl,_⟩:=h;rfl
 ·obtain ⟨L,m,key,x,rfl,hs,hx,q⟩:=h
  refine ⟨_,(z7 (zi (zq zL (zc (K:=K) (pv 0) rfl) (zf (i:=0) T.z0q rfl) (zo _)) (za (ze (zc (K:=K) (pv 0) rfl))) zj) (za (ze (zc (K:=K) (pv 0) rfl)))),?_⟩
  walk_at "hx"
  refine zt (fun c=>?_) fun c=>?_
  ·walk_at "hx"
   rw [if_pos c] at q;exact q
  ·walk_at "hx"
   rw [if_neg c] at q;exact q
noncomputable def z5o (A:Ad):Sp:=fun vs H Q _=>∃ (L:Lay) (m:HouM) (key:Int) (x:TrdM),vs=[.ref (L.ad (.trd key))]∧Hs A.cs H L m∧gI m.trades key=some x∧Q (.int (if x.side=0 then x.lots else -x.lots)) H
theorem zht (T:Tx K mg A):Good P w K mg base 1 A.YU ["deal"] (z5o A):=by
 refine Good.of T.zlN zke (fun _ _ _ _ _ _=>us1 (fun _=>rfl)) (fun vs H Q E h=>?_) (fun cdv A1 outer s0 H vs Q E hr h=>?_)
 ·obtain ⟨L,m,key,x,rfl,_⟩:=h;rfl
 ·obtain ⟨L,m,key,x,rfl,hs,hx,q⟩:=h
  refine ⟨_,(z7 (zi (zq zL (zc (K:=K) (pv 0) rfl) (zf (i:=0) T.z0q rfl) (zo _)) (za (ze (zc (K:=K) (pv 0) rfl))) zj) (za (ze (ZY Y2 (zc (K:=K) (pv 0) rfl))))),?_⟩
  walk_at "hx"
  refine zt (fun c=>?_) fun c=>?_
  ·walk_at "hx"
   rw [if_pos c] at q;exact q
  ·walk_at "hx"
   rw [if_neg c] at q;exact q
theorem ziq {h r:Addr} {num kind under strike mult expiry:Int}:zh "exercised" (.int 0) (zh "run" (.ref r) (zh "held" (.ref h) (zh "over" (.bl false) (zh "expiry" (.int expiry) (zh "multiple" (.int mult) (zh "strike" (.int strike) (zh "underlying" (.int under) (zh "kind" (.int kind) (zh "number" (.int num) [])))))))))
  = zG num kind under strike mult expiry false h r 0:=by kernel_rfl
theorem zit {c:Addr} {buyer seller lots price ex:Int}:zh "exercised_before" (.int ex) (zh "offered_side" (.int 0) (zh "taker" (.int 0) (zh "seller_agreed" (.bl false) (zh "buyer_agreed" (.bl false) (zh "price" (.int price) (zh "lots" (.int lots) (zh "seller" (.int seller) (zh "buyer" (.int buyer) (zh "contract" (.ref c) [])))))))))
  = zJ c buyer seller lots price false false 0 0 ex:=by kernel_rfl
theorem zir {p c a r s:Addr}:zh "spent" (.ref s) (zh "trades" (.ref r) (zh "cash" (.ref a) (zh "contracts" (.ref c) (zh "prices" (.ref p) (zh "turn" (.int 1) [])))))=zC 1 p c a r s:=by kernel_rfl
noncomputable def za7 (A:Ad):Sp:=fun vs H Q _=>∃ (x dx:Addr) (num kind under strike mult expiry:Int),vs=[.ref x,.int num,.int kind,.int under,.int strike,.int mult,.int expiry]∧H x=some (.ins A.zF dx []) ∧
 ∀ (ah r b a dr:Addr) (H':Hp),H ah=none→H r=none→H b=none→H a=none→[x,ah,r,b,a].Nodup→H' x=some (.ins A.zF dx (zG num kind under strike mult expiry false ah r 0))→H' ah=some (.dK (dI []))→H' r=some (.ins A.zN dr (zQ b a 0 0))→H' b=some (.dK (dI []))→H' a=some (.dK (dI [])) →
  (∀ b o,H b=some o→b≠x→H' b=some o)→Q .non H'
theorem zgF (T:Tx K mg A) (jV:Good P w K mg base 3 A.YN [] (z5i A)):Good P w K mg base 4 A.z1e ["self", "number", "kind", "underlying", "strike", "multiple", "expiry"] (za7 A):=by
 refine Good.of T.zkZ zjK (fun _ _ _ _ _ _=>us7 (fun _ _ _ _ _ _ _=>rfl)) (fun vs H Q E h=>?_) (fun cdv A1 outer s0 H vs Q E hr h=>?_)
 ·obtain ⟨x,dx,num,kind,under,strike,mult,expiry,rfl,_⟩:=h;rfl
 ·obtain ⟨x,dx,num,kind,under,strike,mult,expiry,rfl,hx,q⟩:=h
  refine ⟨_,(z7 (zB (K:=K) (pv 0) (pv 1) rfl) (z7 (zB (K:=K) (pv 0) (pv 2) rfl) (z7 (zB (K:=K) (pv 0) (pv 3) rfl) (z7 (zB (K:=K) (pv 0) (pv 4) rfl) (z7 (zB (K:=K) (pv 0) (pv 5) rfl) (z7 (zB (K:=K) (pv 0) (pv 6) rfl) (z7 (zB (K:=K) (pv 0) Yc rfl) (z7 (zB (K:=K) (pv 0) Yd rfl) (z7 (zB (K:=K) (pv 0) (zbA jV hr (by decide) rfl T.YN) rfl) (za (zB (K:=K) (pv 0) zg rfl))))))))))),?_⟩
  walk_at "hx"
  refine zy hx T.zZ T.z7D (by walk_at "hl") ?_
  walk_at "hx"
  refine zy z9 T.zZ T.z7B (by walk_at "hl") ?_
  rw [ye]
  walk_at "hx"
  refine zy z9 T.zZ T.z7F (by walk_at "hl") ?_
  rw [ye]
  walk_at "hx"
  refine zy z9 T.zZ T.z7E (by walk_at "hl") ?_
  rw [ye]
  walk_at "hx"
  refine zy z9 T.zZ T.z7C (by walk_at "hl") ?_
  rw [ye]
  walk_at "hx"
  refine zy z9 T.zZ T.z7A (by walk_at "hl") ?_
  rw [ye]
  walk_at "hx"
  refine zy z9 T.zZ T.z4n (by walk_at "hl") ?_
  rw [ye]
  walk_at "hx"
  intro p hp
  have hpx:x≠p:=fun z=>by rw [← z,z9] at hp;cases hp
  have hpn:H p=none:=by rw [z6 (Ne.symm hpx)] at hp;exact hp
  walk_at "hx"
  refine zy (by rw [z6 hpx];exact z9) T.zZ T.z4m (by walk_at "hl") ?_
  walk_at "hx"
  refine ⟨rfl,fun r b a dr H3 NR=>?_⟩
  have hx3:=NR.same x _ z9
  have hp3:=NR.same p (.dK []) (by rw [z6 (Ne.symm hpx)];exact z9)
  have fr3:∀ b o,H b=some o→b≠x→H3 b=some o:=fun b o e hb=>NR.same b o (by rw [z6 hb,z6 (zd e hpn),z6 hb];exact e)
  have xr:x≠r:=zd z9 NR.nr
  have xb:x≠b:=zd z9 NR.nb
  have xa:x≠a:=zd z9 NR.na
  have hp2:upd (upd (upd H x (.ins A.zF dx (zh "over" (.bl false) (zh "expiry" (.int expiry) (zh "multiple" (.int mult) (zh "strike" (.int strike) (zh "underlying" (.int under) (zh "kind" (.int kind) (zh "number" (.int num) []))))))))) p (.dK [])) x (.ins A.zF dx (zh "held" (.ref p) (zh "over" (.bl false) (zh "expiry" (.int expiry) (zh "multiple" (.int mult) (zh "strike" (.int strike) (zh "underlying" (.int under) (zh "kind" (.int kind) (zh "number" (.int num) []))))))))) p=some (.dK []):=by rw [z6 (Ne.symm hpx)];exact z9
  have pr:p≠r:=zd hp2 NR.nr
  have pb:p≠b:=zd hp2 NR.nb
  have pa:p≠a:=zd hp2 NR.na
  have nn:∀ z,upd (upd (upd H x (.ins A.zF dx (zh "over" (.bl false) (zh "expiry" (.int expiry) (zh "multiple" (.int mult) (zh "strike" (.int strike) (zh "underlying" (.int under) (zh "kind" (.int kind) (zh "number" (.int num) []))))))))) p (.dK [])) x (.ins A.zF dx (zh "held" (.ref p) (zh "over" (.bl false) (zh "expiry" (.int expiry) (zh "multiple" (.int mult) (zh "strike" (.int strike) (zh "underlying" (.int under) (zh "kind" (.int kind) (zh "number" (.int num) []))))))))) z=none→x≠z→p≠z→H z=none:=fun z hz h1 h2=>by
   rw [z6 (Ne.symm h1),z6 (Ne.symm h2),z6 (Ne.symm h1)] at hz;exact hz
  walk_at "hx"
  refine zy hx3 T.zZ T.z1B (by walk_at "hl") ?_
  walk_at "hx"
  refine zy z9 T.zZ T.z4l (by walk_at "hl") ?_
  rw [ye,ziq]
  refine q p r b a dr _ hpn (nn r NR.nr xr pr) (nn b NR.nb xb pb) (nn a NR.na xa pa) ?_ z9 ?_ ?_ ?_ ?_ fun b' o e hb=>?_
  ·simp [hpx,xr,xb,xa,pr,pb,pa,NR.rb,NR.ra,NR.ba]
  ·rw [z6 (Ne.symm hpx)];exact hp3
  ·rw [z6 (Ne.symm xr)];exact NR.obj
  ·rw [z6 (Ne.symm xb)];exact NR.base
  ·rw [z6 (Ne.symm xa)];exact NR.asg
  ·rw [z6 hb];exact fr3 b' o e hb
noncomputable def zaa (A:Ad):Sp:=fun vs H Q _=>∃ (x dx ac dc h r:Addr) (buyer seller lots price num kind under strike mult expiry ex:Int) (ov:Bool),vs=[.ref x,.ref ac,.int buyer,.int seller,.int lots,.int price]∧H x=some (.ins A.zT dx []) ∧
 H ac=some (.ins A.zF dc (zG num kind under strike mult expiry ov h r ex))∧ac≠x∧Q .non (upd H x (.ins A.zT dx (zJ ac buyer seller lots price false false 0 0 ex)))
theorem zgO (T:Tx K mg A):Good P w K mg base 1 A.z1h ["self", "contract", "buyer", "seller", "lots", "price"] (zaa A):=by
 refine Good.of T.zl8 zjS (fun _ _ _ _ _ _=>us6 (fun _ _ _ _ _ _=>rfl)) (fun vs H Q E h=>?_) (fun cdv A1 outer s0 H vs Q E hr h=>?_)
 ·obtain ⟨x,dx,ac,dc,h,r,buyer,seller,lots,price,num,kind,under,strike,mult,expiry,ex,ov,rfl,_⟩:=h;rfl
 ·obtain ⟨x,dx,ac,dc,h,r,buyer,seller,lots,price,num,kind,under,strike,mult,expiry,ex,ov,rfl,hx,hc,ne,q⟩:=h
  refine ⟨_,(z7 (zB (K:=K) (pv 0) (pv 1) rfl) (z7 (zB (K:=K) (pv 0) (pv 2) rfl) (z7 (zB (K:=K) (pv 0) (pv 3) rfl) (z7 (zB (K:=K) (pv 0) (pv 4) rfl) (z7 (zB (K:=K) (pv 0) (pv 5) rfl) (z7 (zB (K:=K) (pv 0) Yc rfl) (z7 (zB (K:=K) (pv 0) Yc rfl) (z7 (zB (K:=K) (pv 0) zg rfl) (z7 (zB (K:=K) (pv 0) zg rfl) (za (zB (K:=K) (pv 0) (zc (K:=K) (pv 1) rfl) rfl))))))))))),?_⟩
  walk_at "hx"
  refine zy hx T.zU T.z7J (by walk_at "hl") ?_
  walk_at "hx"
  refine zy z9 T.zU T.z4u (by walk_at "hl") ?_
  rw [ye]
  walk_at "hx"
  refine zy z9 T.zU T.z4w (by walk_at "hl") ?_
  rw [ye]
  walk_at "hx"
  refine zy z9 T.zU T.z7L (by walk_at "hl") ?_
  rw [ye]
  walk_at "hx"
  refine zy z9 T.zU T.z7M (by walk_at "hl") ?_
  rw [ye]
  walk_at "hx"
  refine zy z9 T.zU T.z0F (by walk_at "hl") ?_
  rw [ye]
  walk_at "hx"
  refine zy z9 T.zU T.z0G (by walk_at "hl") ?_
  rw [ye]
  walk_at "hx"
  refine zy z9 T.zU T.z0H (by walk_at "hl") ?_
  rw [ye]
  walk_at "hx"
  refine zy z9 T.zU T.z4v (by walk_at "hl") ?_
  rw [ye]
  walk_at "hx"
  refine z8r T (by rw [z6 ne];exact hc) ?_
  walk_at "hx"
  refine zy z9 T.zU T.z7K (by walk_at "hl") ?_
  rw [ye,zit]
  exact q
noncomputable def m0:HouM:=⟨1,[],[],[],[],[]⟩
noncomputable def za9 (A:Ad):Sp:=fun vs H Q _=>∃ (x dx:Addr),vs=[.ref x]∧H x=some (.ins A.zM dx []) ∧
 ∀ (L:Lay) (H':Hp),Hs A.cs H' L m0→L.ad .house=x→(∀ b o,H b=some o→b≠x→H' b=some o∧yk A.cs L m0 b)→Q .non H'
theorem zgK (T:Tx K mg A):Good P w K mg base 1 A.z1g ["self"] (za9 A):=by
 refine Good.of T.zl4 zjP (fun _ _ _ _ _ _=>us1 (fun _=>rfl)) (fun vs H Q E h=>?_) (fun cdv A1 outer s0 H vs Q E hr h=>?_)
 ·obtain ⟨x,dx,rfl,_⟩:=h;rfl
 ·obtain ⟨x,dx,rfl,hx,q⟩:=h
  refine ⟨_,(z7 (zB (K:=K) (pv 0) zg rfl) (z7 (zB (K:=K) (pv 0) (zA z8) rfl) (z7 (zB (K:=K) (pv 0) (zA z8) rfl) (z7 (zB (K:=K) (pv 0) (zA z8) rfl) (z7 (zB (K:=K) (pv 0) Yd rfl) (za (zB (K:=K) (pv 0) Yd rfl))))))),?_⟩
  walk_at "hx"
  refine zy hx T.zO T.z4s (by walk_at "hl") ?_
  walk_at "hx"
  refine ⟨Nat.zero_le _,fun p1 h1=>?_⟩
  have x1:x≠p1:=zd z9 h1
  walk_at "hx"
  refine zy (by rw [z6 x1];exact z9) T.zO T.z4p (by walk_at "hl") ?_
  walk_at "hx"
  refine ⟨Nat.zero_le _,fun p2 h2=>?_⟩
  have x2:x≠p2:=zd z9 h2
  have y12:p1≠p2:=fun z=>by rw [← z,z6 (Ne.symm x1),z9] at h2;cases h2
  walk_at "hx"
  refine zy (by rw [z6 x2];exact z9) T.zO T.z7G (by walk_at "hl") ?_
  walk_at "hx"
  refine ⟨Nat.zero_le _,fun p3 h3=>?_⟩
  have x3:x≠p3:=zd z9 h3
  have y23:p2≠p3:=fun z=>by rw [← z,z6 (Ne.symm x2),z9] at h3;cases h3
  have y13:p1≠p3:=fun z=>by rw [← z,z6 (Ne.symm x1),z6 y12,z6 (Ne.symm x1),z9] at h3;cases h3
  walk_at "hx"
  refine zy (by rw [z6 x3];exact z9) T.zO T.z4o (by walk_at "hl") ?_
  walk_at "hx"
  intro p4 h4
  have x4:x≠p4:=zd z9 h4
  have y34:p3≠p4:=fun z=>by rw [← z,z6 (Ne.symm x3),z9] at h4;cases h4
  have y24:p2≠p4:=fun z=>by rw [← z,z6 (Ne.symm x2),z6 y23,z6 (Ne.symm x2),z9] at h4;cases h4
  have y14:p1≠p4:=fun z=>by rw [← z,z6 (Ne.symm x1),z6 y13,z6 (Ne.symm x1),z6 y12,z6 (Ne.symm x1),z9] at h4;cases h4
  walk_at "hx"
  refine zy (by rw [z6 x4];exact z9) T.zO T.z4r (by walk_at "hl") ?_
  walk_at "hx"
  intro p5 h5
  have x5:x≠p5:=zd z9 h5
  have y45:p4≠p5:=fun z=>by rw [← z,z6 (Ne.symm x4),z9] at h5;cases h5
  have y35:p3≠p5:=fun z=>by rw [← z,z6 (Ne.symm x3),z6 y34,z6 (Ne.symm x3),z9] at h5;cases h5
  have y25:p2≠p5:=fun z=>by rw [← z,z6 (Ne.symm x2),z6 y24,z6 (Ne.symm x2),z6 y23,z6 (Ne.symm x2),z9] at h5;cases h5
  have y15:p1≠p5:=fun z=>by rw [← z,z6 (Ne.symm x1),z6 y14,z6 (Ne.symm x1),z6 y13,z6 (Ne.symm x1),z6 y12,z6 (Ne.symm x1),z9] at h5;cases h5
  walk_at "hx"
  refine zy (by rw [z6 x5];exact z9) T.zO T.z4q (by walk_at "hl") ?_
  rw [zir]
  have n1:H p1=none:=by rw [z6 (Ne.symm x1)] at h1;exact h1
  have n2:H p2=none:=by rw [z6 (Ne.symm x2),z6 (Ne.symm y12),z6 (Ne.symm x2)] at h2;exact h2
  have n3:H p3=none:=by rw [z6 (Ne.symm x3),z6 (Ne.symm y23),z6 (Ne.symm x3),z6 (Ne.symm y13),z6 (Ne.symm x3)] at h3;exact h3
  have n4:H p4=none:=by rw [z6 (Ne.symm x4),z6 (Ne.symm y34),z6 (Ne.symm x4),z6 (Ne.symm y24),z6 (Ne.symm x4),z6 (Ne.symm y14),z6 (Ne.symm x4)] at h4;exact h4
  have n5:H p5=none:=by rw [z6 (Ne.symm x5),z6 (Ne.symm y45),z6 (Ne.symm x5),z6 (Ne.symm y35),z6 (Ne.symm x5),z6 (Ne.symm y25),z6 (Ne.symm x5),z6 (Ne.symm y15),z6 (Ne.symm x5)] at h5;exact h5
  generalize hH:upd _ x (HO.ins A.zM dx (zC 1 p1 p2 p3 p4 p5))=H'
  have e0:H' x=some (HO.ins A.zM dx (zC 1 p1 p2 p3 p4 p5)):=by rw [← hH];exact z9
  have e1:H' p1=some (.lst []):=by rw [← hH];walk_at "hh"
  have e2:H' p2=some (.lst []):=by rw [← hH];walk_at "hh"
  have e3:H' p3=some (.lst []):=by rw [← hH];walk_at "hh"
  have e4:H' p4=some (.dK []):=by rw [← hH];walk_at "hh"
  have e5:H' p5=some (.dK []):=by rw [← hH];walk_at "hh"
  have fr:∀ b o,H b=some o→b≠x→H' b=some o:=fun b o e hb=>by
   have z1:=zd e n1
   have z2:=zd e n2
   have z3:=zd e n3
   have z4:=zd e n4
   have z5:=zd e n5
   rw [← hH];walk_at "hh"
  clear hH
  let L:Lay:=⟨fun n=>match n with | .house=>x | .pr=>p1 | .cl=>p2 | .ca=>p3 | .tr=>p4 | .sp=>p5 | _=>0,fun _=>dx⟩
  have live:∀ n,(cont A.cs L m0 n).isSome=true→n = .house∨n = .pr∨n = .cl∨n = .ca∨n = .tr∨n = .sp:=fun n hn=>by
   cases n with
   | house=>simp
   | pr=>simp
   | cl=>simp
   | ca=>simp
   | tr=>simp
   | sp=>simp
   | con i=>cases hn
   | held i=>cases hn
   | run i=>cases hn
   | base i=>cases hn
   | asg i=>cases hn
   | trd i=>cases hn
  refine q L H' ⟨fun n o e=>?_,fun n n' hn hn' e=>?_⟩ rfl fun b o e hb=>⟨fr b o e hb,fun n hn=>?_⟩
  ·rcases live n (by rw [e];rfl) with rfl | rfl | rfl | rfl | rfl | rfl
   ·have e:=Option.some.inj e;subst e;exact e0
   ·have e:=Option.some.inj e;subst e;exact e1
   ·have e:=Option.some.inj e;subst e;exact e2
   ·have e:=Option.some.inj e;subst e;exact e3
   ·have e:=Option.some.inj e;subst e;exact e4
   ·have e:=Option.some.inj e;subst e;exact e5
  ·rcases live n hn with rfl | rfl | rfl | rfl | rfl | rfl <;> rcases live n' hn' with rfl | rfl | rfl | rfl | rfl | rfl <;> first | rfl | exact absurd e (by assumption) | exact absurd e.symm (by assumption)
  ·rcases live n hn with rfl | rfl | rfl | rfl | rfl | rfl
   ·exact Ne.symm hb
   ·exact Ne.symm (zd e n1)
   ·exact Ne.symm (zd e n2)
   ·exact Ne.symm (zd e n3)
   ·exact Ne.symm (zd e n4)
   ·exact Ne.symm (zd e n5)
noncomputable def z5d (A:Ad):Sp:=fun vs H Q _=>∃ (L:Lay) (m:HouM) (i:Nat) (k:ConM) (a:Nat) (n x:Int),vs=[.ref (L.ad .house),.ref (L.ad (.con i)),.int a,.int n,.int x]∧Hs A.cs H L m∧m.cons[i]?=some k∧(1≤a∧a≤m.cash.length)∧k.held.length < 100 ∧
 ∀ H',Hs A.cs H' L (zY m i k a n x)→Step A.cs H L m H' L (zY m i k a n x)→Q .non H'
theorem zgL (T:Tx K mg A) (Z8:Good P w K mg base 1 A.YL ["self", "account"] (z09 A)):Good P w K mg base 2 A.z0n ["self", "contract", "account", "lots", "money"] (z5d A):=by
 refine Good.of T.zl5 zjQ (fun _ _ _ _ _ _=>us5 (fun _ _ _ _ _=>rfl)) (fun vs H Q E h=>?_) (fun cdv A1 outer s0 H vs Q E hr h=>?_)
 ·obtain ⟨L,m,i,k,a,n,x,rfl,_⟩:=h;rfl
 ·obtain ⟨L,m,i,k,a,n,x,rfl,hs,hk,ha,hl,q⟩:=h
  have hu:=yQ hr
  refine ⟨_,(z7 (z00 hu (zc (K:=K) (pv 1) rfl) (pv 2) (zz Zh (yh (pv 1) T.zZ T.z0D Z8 hr (by decide) (z0 (pv 2) z8)) (pv 3)) rfl) (za (z8a (zc (K:=K) (pv 0) rfl) (zz yE (pv 2) zg) (zbB (K:=K)) (pv 4) z74 za2))),?_⟩
  walk_at "hx"
  refine ⟨L,m,i,k,a,rfl,hs,hk,?_⟩
  walk_at "hx"
  refine z1p (hs.held hk) (Nat.lt_trans hl (by decide)) ?_
  obtain ⟨hs1,st1⟩:=hs.setHeld hk (zP k.held a (lkI k.held a + n))
  walk_at "hx"
  have hj:a - 1 < m.cash.length:=by omega
  refine z8o (j:=a - 1) hs1.ca (by omega) hj ?_
  walk_at "hx"
  refine z8p (j:=a - 1) hs1.ca (by omega) hj ?_
  obtain ⟨hs2,st2⟩:=hs1.setCash (m.cash.modify (a - 1) fun v=>v + x)
  exact q _ hs2 (st1.trans st2)
noncomputable def z27 (A:Ad):Sp:=fun vs H Q _=>∃ (L:Lay) (m:HouM) (i:Nat) (k:ConM) (a:Nat) (lots price:Int),vs=[.ref (L.ad .house),.ref (L.ad (.con i)),.int a,.int lots,.int price]∧Hs A.cs H L m∧m.cons[i]?=some k∧(1≤a∧a≤m.cash.length)∧k.held.length < 100 ∧
 (1≤k.under∧k.under≤(m.prices.length:Int))∧(1≤k.mult∧k.mult≤1000)∧(-1000≤lots∧lots≤1000)∧∀ H',Hs A.cs H' L (zY m i k a lots (zr m k lots price))→Step A.cs H L m H' L (zY m i k a lots (zr m k lots price))→Q .non H'
theorem zh5 (T:Tx K mg A) (jf:Good P w K mg base 2 A.z0n ["self", "contract", "account", "lots", "money"] (z5d A)) (Zx:Good P w K mg base 1 A.jk ["self", "contract"] (z0T A)):Good P w K mg base 3 A.Zn ["house", "contract", "account", "lots", "price"] (z27 A):=by
 refine Good.of T.zlp z51 (fun _ _ _ _ _ _=>us5 (fun _ _ _ _ _=>rfl)) (fun vs H Q E h=>?_) (fun cdv A1 outer s0 H vs Q E hr h=>?_)
 ·obtain ⟨L,m,i,k,a,lots,price,rfl,_⟩:=h;rfl
 ·obtain ⟨L,m,i,k,a,lots,price,rfl,hs,hk,ha,hl,hun,hm,hlo,q⟩:=h
  refine ⟨_,(z7 (zp (i:=5) z51.nd rfl (Or.inl rfl) (ZY Y2 (pv 4))) (z7 (zi (zq zL (zc (K:=K) (pv 1) rfl) (zf (i:=0) T.z0r rfl) (zo _)) (za (zp (i:=5) z51.nd rfl (Or.inl rfl) (zz yE (yh (pv 0) T.zO T.z1v Zx hr (by decide) (z0 (pv 1) z8)) (pv 4)))) zj) (za (zX (yh (pv 0) T.zO T.z4d jf hr (by decide) (z0 (pv 1) (z0 (pv 2) (z0 (pv 3) (z0 (zz ZK (zz ZK (pv 3) (zc (K:=K) (pv 1) rfl)) (pv 5)) z8))))))))),?_⟩
  have b:=zge (a:=lots) (b:=k.mult) (A:=1000) (B:=1000) (by omega) (by omega) (by omega) (by omega) (by omega)
  walk_at "hx"
  refine zt (fun c1=>?_) fun c1=>?_
  ·walk_at "hx"
   refine ⟨L,m,i,k,rfl,hs,hk,hun,?_⟩
   walk_at "hx"
   refine Zb (.inl ⟨by omega,by omega⟩) ?_
   walk_at "hx"
   refine Zb (.inl ⟨by omega,by omega⟩) ?_
   walk_at "hx"
   refine ⟨L,m,i,k,a,lots,lots * k.mult * (atP m.prices k.under - price),rfl,hs,hk,ha,hl,fun H' h1 h2=>?_⟩
   walk_at "hx"
   have e:zr m k lots price=lots * k.mult * (atP m.prices k.under - price):=by unfold zr;rw [if_pos c1]
   rw [e] at q
   exact q H' h1 h2
  ·walk_at "hx"
   refine Zb (.inl ⟨by omega,by omega⟩) ?_
   walk_at "hx"
   refine Zb (.inl ⟨by omega,by omega⟩) ?_
   walk_at "hx"
   refine ⟨L,m,i,k,a,lots,lots * k.mult * -price,rfl,hs,hk,ha,hl,fun H' h1 h2=>?_⟩
   walk_at "hx"
   have e:zr m k lots price=lots * k.mult * -price:=by unfold zr;rw [if_neg c1]
   rw [e] at q
   exact q H' h1 h2
noncomputable def z26 (A:Ad):Sp:=fun vs H Q _=>∃ (L:Lay) (m:HouM) (i:Nat) (k:ConM),vs=[.ref (L.ad (.con i))]∧Hs A.cs H L m∧m.cons[i]?=some k∧HeldOk k.held m.cash.length 100∧m.cash.length≤12 ∧
 ∀ r b a dx H',Hs A.cs H' (L.setRun i r b a dx) (z22 m i k (Yo k.held m.cash.length))→Step A.cs H L m H' (L.setRun i r b a dx) (z22 m i k (Yo k.held m.cash.length))→Q .non H'
theorem zgY (T:Tx K mg A) (z2R:Good P w K mg base 3 A.Jw ["held"] (zaA A)):Good P w K mg base 4 A.Y3 ["contract"] (z26 A):=by
 refine Good.of T.zli zjY (fun _ _ _ _ _ _=>us1 (fun _=>rfl)) (fun vs H Q E h=>?_) (fun cdv A1 outer s0 H vs Q E hr h=>?_)
 ·obtain ⟨L,m,i,k,rfl,_⟩:=h;rfl
 ·obtain ⟨L,m,i,k,rfl,hs,hk,ho,hN,q⟩:=h
  refine ⟨_,(za (zB (K:=K) (pv 0) (zm z2R hr (by decide) rfl T.Jw (z0 (zc (K:=K) (pv 0) rfl) z8)) rfl)),?_⟩
  walk_at "hx"
  refine ⟨_,k.held,m.cash.length,rfl,hs.held hk,ho.nd,ho.keys,hN,fun r b a dx H1 NR=>?_⟩
  walk_at "hx"
  have hc:=YY hs hk
  have cr:r≠L.ad (.con i):=Ne.symm (zd hc NR.nr)
  have cb:b≠L.ad (.con i):=Ne.symm (zd hc NR.nb)
  have ca:a≠L.ad (.con i):=Ne.symm (zd hc NR.na)
  refine zy (NR.same _ _ hc) T.zZ T.z1B (by walk_at "hl") ?_
  rw [z82]
  obtain ⟨h1,h2⟩:=hs.newRun (H':=upd H1 (L.ad (.con i)) (.ins A.zF (L.own (.con i)) (zG ((i:Int) + 1) k.kind k.under k.strike k.mult k.expiry k.over (L.ad (.held i)) r k.exd))) hk (k':={ k with run:=Yo k.held m.cash.length }) rfl (r:=r) (b:=b) (a:=a) (dx:=dx) NR.nr NR.nb NR.na NR.rb NR.ra NR.ba z9 (by rw [z6 cr];exact NR.obj) (by rw [z6 cb];exact NR.base) (by rw [z6 ca];exact NR.asg)
   (fun x o e hx=>by rw [z6 hx];exact NR.same _ _ e)
  exact q r b a dx _ h1 h2
noncomputable def zas (A:Ad):Sp:=fun vs H Q _=>∃ (L:Lay) (m:HouM) (key:Int) (x:TrdM),vs=[.ref (L.ad (.trd key))]∧Hs A.cs H L m∧gI m.trades key=some x∧Q .non (upd H (L.ad (.trd key)) (.ins A.zT (L.own (.trd key)) (Zl L (Y1 x))))
theorem zhg (T:Tx K mg A):Good P w K mg base 1 A.Jo ["deal"] (zas A):=by
 refine Good.of T.zlA zk5 (fun _ _ _ _ _ _=>us1 (fun _=>rfl)) (fun vs H Q E h=>?_) (fun cdv A1 outer s0 H vs Q E hr h=>?_)
 ·obtain ⟨L,m,key,x,rfl,_⟩:=h;rfl
 ·obtain ⟨L,m,key,x,rfl,hs,hx,q⟩:=h
  refine ⟨_,(z7 (zi (zq zL (zc (K:=K) (pv 0) rfl) (zf (i:=0) T.z0q rfl) (zo _)) (za (zB (K:=K) (pv 0) (zc (K:=K) (pv 0) rfl) rfl)) (za (zB (K:=K) (pv 0) (zc (K:=K) (pv 0) rfl) rfl))) (z7 (zB (K:=K) (pv 0) zg rfl) (z7 (zB (K:=K) (pv 0) Yc rfl) (za (zB (K:=K) (pv 0) Yc rfl))))),?_⟩
  have ht:=JR hs hx
  walk_at "hx"
  refine zt (fun c1=>?_) fun c1=>?_
  ·walk_at "hx"
   refine zy ht T.zU T.z4u (by walk_at "hl") ?_
   rw [zil]
   walk_at "hx"
   refine zy z9 T.zU T.z0H (by walk_at "hl") ?_
   rw [ye,z4J]
   walk_at "hx"
   refine zy z9 T.zU T.z0F (by walk_at "hl") ?_
   rw [ye,z4H]
   walk_at "hx"
   refine zy z9 T.zU T.z0G (by walk_at "hl") ?_
   rw [ye,z4I]
   have e:Zl L (Y1 x)=zJ (L.ad (.con x.con)) x.taker x.seller x.lots x.price false false 0 x.side x.exb:=by unfold Zl Y1;dsimp only;rw [if_pos c1,if_pos c1]
   rw [e] at q
   exact q
  ·walk_at "hx"
   refine zy ht T.zU T.z4w (by walk_at "hl") ?_
   rw [zin]
   walk_at "hx"
   refine zy z9 T.zU T.z0H (by walk_at "hl") ?_
   rw [ye,z4J]
   walk_at "hx"
   refine zy z9 T.zU T.z0F (by walk_at "hl") ?_
   rw [ye,z4H]
   walk_at "hx"
   refine zy z9 T.zU T.z0G (by walk_at "hl") ?_
   rw [ye,z4I]
   have e:Zl L (Y1 x)=zJ (L.ad (.con x.con)) x.buyer x.taker x.lots x.price false false 0 x.side x.exb:=by unfold Zl Y1;dsimp only;rw [if_neg c1,if_neg c1]
   rw [e] at q
   exact q
noncomputable def Ans (A:Ad) (c:Vbchaa.Call) (H:Hp) (L:Lay) (m:HouM) (s:Vbchaa.State) (Q:VK):Prop:=∀ H' L' m' p,Hs A.cs H' L' m'→Step A.cs H L m H' L' m'→L'.ad .house=L.ad .house→Rel m' (Vbchaa.step s c).1 →
 H' p=some (.lst ((Vbchaa.step s c).2.map V.int))→(∀ b o,H b=some o→yk A.cs L m b→b≠p)→yk A.cs L' m' p→Q (.ref p) H'
section
variable {A:Ad} {c:Vbchaa.Call} {H H1 H2:Hp} {L L2:Lay} {m m2:HouM} {s S:Vbchaa.State} {Q:VK} {p:Addr} {ans:List Int} {r:Int}
theorem Ans.acc (q:Ans A c H L m s Q) (hs:Hs A.cs H2 L2 m2) (st:Step A.cs H L m H2 L2 m2) (eh:L2.ad .house=L.ad .house) (e:Vbchaa.step s c=(S,ans)) (rel:Rel m2 S) (hp:H2 p=none):Q (.ref p) (upd H2 p (.lst (ans.map V.int))):=by
 have np:∀ b o,H b=some o→yk A.cs L m b→b≠p:=fun b o e f=>zd (st b o e f).1 hp
 refine q _ L2 m2 p (hs.beside hp) (fun b o e f=>⟨?_,(st b o e f).2⟩) eh (by rw [e];exact rel) (by rw [e];exact z9) np (hs.free hp)
 rw [z6 (np b o e f)];exact (st b o e f).1
theorem Ans.ref (q:Ans A c H L m s Q) (hs:Hs A.cs H L m) (hr:Rel m s) (e:Vbchaa.step s c=(s,[r])) (s1:Same H H1) (hp:H1 p=none):Q (.ref p) (upd H1 p (.lst [.int r])) :=
 q.acc (hs.ofSame s1) (Step.ofSame s1) rfl e hr hp
end
noncomputable def zao (A:Ad):Sp:=fun vs H Q _=>∃ (L:Lay) (m:HouM) (a c n:Int),vs=[.ref (L.ad .house),.int a,.int c,.int n]∧Hs A.cs H L m∧Wf m∧Q (.int (jA m a c n)) H
theorem zh9 (T:Tx K mg A) (Z8:Good P w K mg base 1 A.YL ["self", "account"] (z09 A)) (yG:Good P w K mg base 1 A.Yr ["self", "a"] (jd A)) (yN:Good P w K mg base 1 A.Ys ["self", "c"] (jJ A)) (Zx:Good P w K mg base 1 A.jk ["self", "contract"] (z0T A)) (Yn:Good P w K mg base 1 A.Y4 ["contract", "price"] (z29 A)):Good P w K mg base 2 A.Jk ["house", "a", "c", "n"] (zao A):=by
 refine Good.of T.zlt z9S (fun _ _ _ _ _ _=>us4 (fun _ _ _ _=>rfl)) (fun vs H Q E h=>?_) (fun cdv A1 outer s0 H vs Q E hr h=>?_)
 ·obtain ⟨L,m,a,c,n,rfl,_⟩:=h;rfl
 ·obtain ⟨L,m,a,c,n,rfl,hs,wf,q⟩:=h
  refine ⟨_,(z7 (zi (yY (z8b yz yz zg (pv 3) (zf (i:=1000) T.z6G rfl))) (za (ze (zf (i:=(-1)) T.jn rfl))) zj) (z7 (zi (yY (PW.pt (jx (zR (yh (pv 0) T.zO T.jt yG hr (by decide) (z0 (pv 1) z8))) (z02 (zR (yh (pv 0) T.zO T.JW yN hr (by decide) (z0 (pv 2) z8))))))) (za (ze (zf (i:=(-2)) T.Y6 rfl))) zj) (z7 (zp (i:=4) z9S.nd rfl (Or.inl rfl) (zD (zE (K:=K)) (zc (K:=K) (pv 0) rfl) (zz yE (pv 2) zg) (fun _ _=>rfl))) (z7 (zi (zR (zc (K:=K) (pv 4) rfl)) (za (ze (zf (i:=(-3)) T.z6E rfl))) zj) (z7 (zi (zq zL (zc (K:=K) (pv 4) rfl) (zf (i:=0) T.z0r rfl) (zo _)) (za (ze (zf (i:=(-4)) T.z6K rfl))) zj) (z7 (zi (zq jv (yh (pv 4) T.zZ T.z0D Z8 hr (by decide) (z0 (pv 1) z8)) (pv 3) (zo _)) (za (ze (zf (i:=(-9)) T.z6I rfl))) zj) (z7 (zi (zq zL (zm Yn hr (by decide) rfl T.Y4 (z0 (pv 4) (z0 (yh (pv 0) T.zO T.z1v Zx hr (by decide) (z0 (pv 4) z8)) z8))) zg (zo _)) (za (ze (zf (i:=(-14)) T.zdA rfl))) zj) (za (ze (zf (i:=0) T.yV rfl)))))))))),?_⟩
  unfold jA at q
  walk_at "hx"
  refine zW (fun c1=>?_) fun c1=>?_
  ·rw [if_pos c1] at q
   walk_at "hx";exact q
  rw [if_neg (fun z=>z c1)] at q
  walk_at "hx"
  refine ⟨L,m,a,rfl,hs,?_⟩
  walk_at "hx"
  refine zt (fun c2=>?_) fun c2=>?_
  ·walk_at "hx"
   refine ⟨L,m,c,rfl,hs,?_⟩
   walk_at "hx"
   refine zW (fun c3=>?_) fun c3=>?_
   ·rw [if_pos (fun z=>c3 z.2)] at q
    walk_at "hx";exact q
   rw [if_neg (fun z=>z ⟨c2,c3⟩)] at q
   walk_at "hx"
   refine YZ hs c3 ?_
   obtain ⟨k,hk⟩:=z0w c3
   rw [hk] at q
   dsimp only at q
   walk_at "hx"
   refine jr (fun c4=>?_) fun c4=>?_
   ·rw [if_pos c4] at q
    walk_at "hx";exact q
   rw [if_neg (by rw [c4];decide)] at q
   walk_at "hx"
   refine zt (fun c5=>?_) fun c5=>?_
   ·rw [if_pos c5] at q
    walk_at "hx";exact q
   rw [if_neg c5] at q
   walk_at "hx"
   refine ⟨L,m,_,k,a,rfl,hs,hk,?_⟩
   walk_at "hx"
   refine zt (fun c6=>?_) fun c6=>?_
   ·rw [if_pos c6] at q
    walk_at "hx";exact q
   rw [if_neg c6] at q
   walk_at "hx"
   refine ⟨L,m,_,k,rfl,hs,hk,wf.und _ _ hk,?_⟩
   walk_at "hx"
   refine ⟨L,m,_,k,_,rfl,hs,hk,?_⟩
   walk_at "hx"
   refine zt (fun c7=>?_) fun c7=>?_
   ·rw [if_pos c7] at q
    walk_at "hx";exact q
   rw [if_neg c7] at q
   walk_at "hx";exact q
  ·refine yW rfl ?_
   rw [if_pos (fun z=>c2 z.1)] at q
   walk_at "hx";exact q
theorem in3 (kind:Int):inV (.int kind) [.int 0,.int 1,.int 2]=decide (kind=0∨kind=1∨kind=2):=by
 unfold inV
 have e:∀ i j:Int,eqV (.int i) (.int j)=decide (i=j):=fun i j=>by
  by_cases h:i=j
  ·subst h;simp [eqV]
  ·simp [eqV,h]
 simp only [List.any_cons,List.any_nil,e,Bool.or_false]
 rw [Bool.eq_iff_iff]
 simp only [Bool.or_eq_true,decide_eq_true_iff]
 omega
noncomputable def zah (A:Ad):Sp:=fun vs H Q _=>∃ (kind strike mult expiry:Int),vs=[.int kind,.int strike,.int mult,.int expiry]∧∀ H',Same H H'→Q (.bl (decide (rgC kind strike mult expiry))) H'
theorem zh0 (T:Tx K mg A) (ZA:Good P w K mg base 1 A.ZD ["p"] (z0U A)):Good P w K mg base 2 A.Jd ["kind", "strike", "multiple", "expiry"] (zah A):=by
 refine Good.of T.zlk zjZ (fun _ _ _ _ _ _=>us4 (fun _ _ _ _=>rfl)) (fun vs H Q E h=>?_) (fun cdv A1 outer s0 H vs Q E hr h=>?_)
 ·obtain ⟨kind,strike,mult,expiry,rfl,_⟩:=h;rfl
 ·obtain ⟨kind,strike,mult,expiry,rfl,q⟩:=h
  refine ⟨_,(z7 (zi (zq (zmj (K:=K)) (pv 0) (z81 (z0 (zf (i:=0) T.z0r rfl) (z0 (zf (i:=1) T.z6D rfl) (z0 (zf (i:=2) T.zdD rfl) z8)))) (by with_unfolding_all rfl)) (za (ze Yc)) zj) (za (ze (z1G (zm ZA hr (by decide) rfl T.ZD (z0 (pv 1) z8)) (z1G (j8 yz yz zg (pv 2) (zf (i:=1000) T.zds rfl)) (z80 (j8 yz yz zg (pv 3) (zf (i:=1000000) T.zdo rfl)))))))),?_⟩
  walk_at "hx"
  refine z6Z ?_
  walk_at "hx"
  refine ⟨by show 3≤sizeLine;decide,fun p hp=>?_⟩
  have q:=q _ (yC (o:=.tup [.int 0,.int 1,.int 2]) hp)
  refine ⟨p,_,rfl,.inr (SqT.of z9),rfl,rfl,?_⟩
  rw [if_pos rfl,in3]
  walk_at "hx"
  refine zW (fun c1=>?_) fun c1=>?_
  ·walk_at "hx"
   rw [decide_eq_false (fun z=>c1 z.1)] at q;exact q
  walk_at "hx"
  refine ⟨strike,rfl,?_⟩
  walk_at "hx"
  refine zt (fun c2=>?_) fun c2=>?_
  ·walk_at "hx"
   refine zt (fun c3=>?_) fun c3=>?_
   ·walk_at "hx"
    have e:decide (rgC kind strike mult expiry)=decide (1≤expiry∧expiry≤1000000):=decide_eq_decide.mpr ⟨fun z=>z.2.2.2,fun z=>⟨c1,c2,c3,z⟩⟩
    rw [e] at q;exact q
   ·walk_at "hx"
    rw [decide_eq_false (fun z=>c3 z.2.2.1)] at q;exact q
  ·walk_at "hx"
   rw [decide_eq_false (fun z=>c2 z.2.1)] at q;exact q
noncomputable def zai (A:Ad):Sp:=fun vs H Q _=>∃ (L:Lay) (m:HouM) (kind u strike mult expiry:Int),vs=[.ref (L.ad .house),.int kind,.int u,.int strike,.int mult,.int expiry]∧Hs A.cs H L m∧∀ H',Same H H'→Q (.int (jz m kind u strike mult expiry)) H'
theorem zh1 (T:Tx K mg A) (z2o:Good P w K mg base 1 A.z1f ["self", "u"] (za8 A)) (z2y:Good P w K mg base 2 A.Jd ["kind", "strike", "multiple", "expiry"] (zah A)):Good P w K mg base 3 A.Je ["house", "kind", "u", "strike", "multiple", "expiry"] (zai A):=by
 refine Good.of T.zll zk0 (fun _ _ _ _ _ _=>us6 (fun _ _ _ _ _ _=>rfl)) (fun vs H Q E h=>?_) (fun cdv A1 outer s0 H vs Q E hr h=>?_)
 ·obtain ⟨L,m,kind,u,strike,mult,expiry,rfl,_⟩:=h;rfl
 ·obtain ⟨L,m,kind,u,strike,mult,expiry,rfl,hs0,q⟩:=h
  refine ⟨_,(z7 (zi (yY (zR (zm z2y hr (by decide) rfl T.Jd (z0 (pv 1) (z0 (pv 3) (z0 (pv 4) (z0 (pv 5) z8))))))) (za (ze (zf (i:=(-1)) T.jn rfl))) zj) (z7 (zi (yY (zR (yh (pv 0) T.zO T.zfZ z2o hr (by decide) (z0 (pv 2) z8)))) (za (ze (zf (i:=(-2)) T.Y6 rfl))) zj) (z7 (zi (PW.pt (z03 (PW.pt (jx (zq zL (pv 1) (zf (i:=0) T.z0r rfl) (zo _)) (z02 (zq Zd (pv 3) zg (zo _))))) (z04 (zq jv (pv 5) (zc (K:=K) (pv 0) rfl) (zo _))))) (za (ze (zf (i:=(-4)) T.z6K rfl))) zj) (z7 (zi (zq zL (yn (Z1 (K:=K)) rfl T.yO yP (z0 (zc (K:=K) (pv 0) rfl) z8)) (zf (i:=12) T.zdn rfl) (zo _)) (za (ze (zf (i:=(-8)) T.z1m rfl))) zj) (za (ze (zf (i:=0) T.yV rfl))))))),?_⟩
  walk_at "hx"
  refine ⟨kind,strike,mult,expiry,rfl,fun H1 s1=>?_⟩
  have hs:=hs0.ofSame s1
  have q:=q H1 s1
  clear hs0
  unfold jz at q
  walk_at "hx"
  refine zW (fun c1=>?_) fun c1=>?_
  ·rw [if_pos c1] at q
   walk_at "hx";exact q
  rw [if_neg (fun z=>z c1)] at q
  walk_at "hx"
  refine ⟨L,m,u,rfl,hs,?_⟩
  walk_at "hx"
  refine zW (fun c2=>?_) fun c2=>?_
  ·rw [if_pos (show ¬ inN m.prices.length u from c2)] at q
   walk_at "hx";exact q
  rw [if_neg (fun z=>z c2)] at q
  walk_at "hx"
  refine zt (fun c3=>?_) fun c3=>?_
  ·walk_at "hx"
   refine zW (fun c4=>?_) fun c4=>?_
   ·refine yW rfl ?_
    rw [if_pos (.inl ⟨c3,c4⟩)] at q
    walk_at "hx";exact q
   ·walk_at "hx"
    refine zt (fun c5=>?_) fun c5=>?_
    ·rw [if_pos (.inr c5)] at q
     walk_at "hx";exact q
    ·rw [if_neg (by rintro (z | z);exact z.2 c4;exact c5 z)] at q
     walk_at "hx"
     refine z0v hs.cl ?_
     walk_at "hx"
     refine zt (fun c6=>?_) fun c6=>?_
     ·rw [if_pos (by omega)] at q
      walk_at "hx";exact q
     ·rw [if_neg (by omega)] at q
      walk_at "hx";exact q
  ·refine js rfl ?_
   walk_at "hx"
   refine zt (fun c5=>?_) fun c5=>?_
   ·rw [if_pos (.inr c5)] at q
    walk_at "hx";exact q
   ·rw [if_neg (by rintro (z | z);exact c3 z.1;exact c5 z)] at q
    walk_at "hx"
    refine z0v hs.cl ?_
    walk_at "hx"
    refine zt (fun c6=>?_) fun c6=>?_
    ·rw [if_pos (by omega)] at q
     walk_at "hx";exact q
    ·rw [if_neg (by omega)] at q
     walk_at "hx";exact q
noncomputable def zaM (A:Ad):Sp:=fun vs H Q _=>∃ (key lots price:Int),vs=[.int key,.int lots,.int price]∧Q (.bl (decide (rgT key lots price))) H
theorem zhH (T:Tx K mg A) (ZA:Good P w K mg base 1 A.ZD ["p"] (z0U A)):Good P w K mg base 2 A.JI ["key", "lots", "price"] (zaM A):=by
 refine Good.of T.zm0 zkh (fun _ _ _ _ _ _=>us3 (fun _ _ _=>rfl)) (fun vs H Q E h=>?_) (fun cdv A1 outer s0 H vs Q E hr h=>?_)
 ·obtain ⟨key,lots,price,rfl,_⟩:=h;rfl
 ·obtain ⟨key,lots,price,rfl,q⟩:=h
  refine ⟨_,(za (ze (z1G (j8 yz yz zg (pv 0) (zf (i:=1000000000) T.zdq rfl)) (z1G (j8 yz yz zg (pv 1) (zf (i:=1000) T.zdr rfl)) (z80 (zm ZA hr (by decide) rfl T.ZD (z0 (pv 2) z8))))))),?_⟩
  walk_at "hx"
  refine zt (fun c1=>?_) fun c1=>?_
  ·walk_at "hx"
   refine zt (fun c2=>?_) fun c2=>?_
   ·walk_at "hx"
    refine ⟨price,rfl,?_⟩
    have e:decide (rgT key lots price)=decide (0≤price∧price≤1000000):=decide_eq_decide.mpr ⟨fun z=>z.2.2,fun z=>⟨c1,c2,z⟩⟩
    rw [e] at q
    walk_at "hx";exact q
   ·walk_at "hx"
    rw [decide_eq_false (fun z=>c2 z.2.1)] at q;exact q
  ·walk_at "hx"
   rw [decide_eq_false (fun z=>c1 z.1)] at q;exact q
noncomputable def zaq (A:Ad):Sp:=fun vs H Q _=>∃ (L:Lay) (m:HouM) (key side taker:Int),vs=[.ref (L.ad .house),.int key,.int side,.int taker]∧Hs A.cs H L m∧Q (.int (jB m key side taker)) H
theorem zhd (T:Tx K mg A) (yG:Good P w K mg base 1 A.Yr ["self", "a"] (jd A)):Good P w K mg base 2 A.Jm ["house", "key", "side", "taker"] (zaq A):=by
 refine Good.of T.zlx z9T (fun _ _ _ _ _ _=>us4 (fun _ _ _ _=>rfl)) (fun vs H Q E h=>?_) (fun cdv A1 outer s0 H vs Q E hr h=>?_)
 ·obtain ⟨L,m,key,side,taker,rfl,_⟩:=h;rfl
 ·obtain ⟨L,m,key,side,taker,rfl,hs,q⟩:=h
  have hu:=yQ hr
  refine ⟨_,(z7 (zi (PW.pt (jx (zq Zd (pv 2) (zf (i:=0) T.z0q rfl) (zo _)) (z02 (zq Zd (pv 2) (zf (i:=1) T.zdG rfl) (zo _))))) (za (ze (zf (i:=(-1)) T.jn rfl))) zj) (z7 (zi (z1M (z4G hu (pv 1) (zc (K:=K) (pv 0) rfl))) (za (ze (zf (i:=(-6)) T.z3B rfl))) zj) (z7 (zi (yY (zR (yh (pv 0) T.zO T.jt yG hr (by decide) (z0 (pv 3) z8)))) (za (ze (zf (i:=(-2)) T.Y6 rfl))) zj) (z7 (zp (i:=4) z9T.nd rfl (Or.inl rfl) (Z5 hu (zc (K:=K) (pv 0) rfl) (pv 1) (fun _ _=>rfl))) (z7 (zi (PW.pt (z03 (zq zL (pv 3) (zc (K:=K) (pv 4) rfl) (zo _)) (z04 (zq zL (pv 3) (zc (K:=K) (pv 4) rfl) (zo _))))) (za (ze (zf (i:=(-10)) T.z6H rfl))) zj) (za (ze (zf (i:=0) T.yV rfl)))))))),?_⟩
  unfold jB at q
  have next:¬ (side≠0∧side≠1)→Y0 (jP (YD (z5t (yg 1) (jO K (yg 0) "trades"))) (z0e (tC (.int (-6)))) jQ) (Y0 (jP (z5u (YD (z2c A.zM "has_account" (jd A) [] E0 (yg 0) (Yj (yg 3) ZO)))) (z0e (tC (.int (-2)))) jQ) (Y0 (z0c (z5s (jO K (yg 0) "trades") (yg 1)) (Y5 4)) (Y0 (jP (tOr (YD (tOp rEq (yg 3) (jO K (yg 4) "buyer"))) (YD (tOp rEq (yg 3) (jO K (yg 4) "seller")))) (z0e (tC (.int (-10)))) jQ) (z0e (tC (.int 0)))))) { nx:=fun _ H'=>Q .non H',rt:=Q } (L2.start ["house", "key", "side", "taker", "deal"] [.ref (L.ad .house),.int key,.int side,.int taker]) H:=by
   intro c0
   rw [if_neg c0] at q
   walk_at "hx"
   refine z3O hs ?_
   walk_at "hx"
   cases hx:gI m.trades key with
   | none=>
    rw [hx] at q
    refine yW rfl ?_
    walk_at "hx";exact q
   | some x=>
    rw [hx] at q
    dsimp only at q
    refine js rfl ?_
    walk_at "hx"
    refine ⟨L,m,taker,rfl,hs,?_⟩
    walk_at "hx"
    refine zW (fun c1=>?_) fun c1=>?_
    ·rw [if_pos (show ¬ inN m.cash.length taker from c1)] at q
     walk_at "hx";exact q
    rw [if_neg (fun z=>z c1)] at q
    walk_at "hx"
    refine jp hs hx ?_
    walk_at "hx"
    refine zt (fun c2=>?_) fun c2=>?_
    ·refine yW rfl ?_
     rw [if_pos (.inl c2)] at q
     walk_at "hx";exact q
    walk_at "hx"
    refine zt (fun c3=>?_) fun c3=>?_
    ·rw [if_pos (.inr c3)] at q
     walk_at "hx";exact q
    rw [if_neg (fun z=>z.elim c2 c3)] at q
    walk_at "hx";exact q
  walk_at "hx"
  refine zW (fun c1=>?_) fun c1=>?_
  ·walk_at "hx"
   refine zW (fun c2=>?_) fun c2=>?_
   ·rw [if_pos ⟨c1,c2⟩] at q
    walk_at "hx";exact q
   ·refine z3N ?_
    exact next (fun z=>z.2 c2)
  ·refine js rfl ?_
   refine z3N ?_
   exact next (fun z=>z.1 c1)
noncomputable def zaC (A:Ad):Sp:=fun vs H Q _=>∃ (L:Lay) (m:HouM) (key:Int),vs=[.ref (L.ad .house),.int key]∧Hs A.cs H L m∧Wf m∧Q (.int (jC m key)) H
theorem zhx (T:Tx K mg A) (jW:Good P w K mg base 1 A.YO ["deal"] (z5j A)) (Zz:Good P w K mg base 2 A.Zo ["contract", "account", "lots"] (z28 A)) (J0:Good P w K mg base 1 A.YT ["deal"] (z5n A)) (J1:Good P w K mg base 1 A.YU ["deal"] (z5o A)):Good P w K mg base 3 A.Jy ["house", "key"] (zaC A):=by
 refine Good.of T.zlQ z55 (fun _ _ _ _ _ _=>us2 (fun _ _=>rfl)) (fun vs H Q E h=>?_) (fun cdv A1 outer s0 H vs Q E hr h=>?_)
 ·obtain ⟨L,m,key,rfl,_⟩:=h;rfl
 ·obtain ⟨L,m,key,rfl,hs,wf,q⟩:=h
  have hu:=yQ hr
  refine ⟨_,(z7 (zi (z1M (z4G hu (pv 1) (zc (K:=K) (pv 0) rfl))) (za (ze (zf (i:=(-6)) T.z3B rfl))) zj) (z7 (zp (i:=2) z55.nd rfl (Or.inl rfl) (Z5 hu (zc (K:=K) (pv 0) rfl) (pv 1) (fun _ _=>rfl))) (z7 (zi (zq zL (zc (K:=K) (pv 2) rfl) zg (zo _)) (za (ze (zf (i:=(-13)) T.zdx rfl))) zj) (z7 (zi (zR (zm jW hr (by decide) rfl T.YO (z0 (pv 2) z8))) (za (ze (zf (i:=(-11)) T.z6F rfl))) zj) (z7 (zp (i:=3) z55.nd rfl (Or.inl rfl) (zm J1 hr (by decide) rfl T.YU (z0 (pv 2) z8))) (z7 (zi (PW.pt (z03 (zR (zm Zz hr (by decide) rfl T.Zo (z0 (zc (K:=K) (pv 2) rfl) (z0 (zm J0 hr (by decide) rfl T.YT (z0 (pv 2) z8)) (z0 (ZY Y2 (pv 3)) z8))))) (z04 (zR (zm Zz hr (by decide) rfl T.Zo (z0 (zc (K:=K) (pv 2) rfl) (z0 (zc (K:=K) (pv 2) rfl) (z0 (pv 3) z8)))))))) (za (ze (zf (i:=(-7)) T.z3C rfl))) zj) (za (ze (zf (i:=0) T.yV rfl))))))))),?_⟩
  unfold jC at q
  walk_at "hx"
  refine z3O hs ?_
  walk_at "hx"
  cases hx:gI m.trades key with
  | none=>
   rw [hx] at q
   refine yW rfl ?_
   walk_at "hx";exact q
  | some x=>
   rw [hx] at q
   dsimp only at q
   refine js rfl ?_
   walk_at "hx"
   refine jp hs hx ?_
   walk_at "hx"
   obtain ⟨k,hk⟩:=wf.trd key x hx
   rw [hk] at q
   dsimp only at q
   refine zt (fun c1=>?_) fun c1=>?_
   ·rw [if_pos c1] at q
    walk_at "hx";exact q
   rw [if_neg c1] at q
   walk_at "hx"
   refine ⟨L,m,key,x,k,rfl,hs,hx,hk,?_⟩
   walk_at "hx"
   refine zt (fun c3=>?_) fun c3=>?_
   ·rw [if_pos c3] at q
    walk_at "hx";exact q
   rw [if_neg c3] at q
   walk_at "hx"
   refine ⟨L,m,key,x,rfl,hs,hx,?_⟩
   walk_at "hx"
   refine ⟨L,m,key,x,rfl,hs,hx,?_⟩
   walk_at "hx"
   refine ⟨L,m,_,k,_,_,rfl,hs,hk,?_⟩
   walk_at "hx"
   refine zt (fun c8=>?_) fun c8=>?_
   ·refine yW rfl ?_
    rw [if_pos (.inl c8)] at q
    walk_at "hx";exact q
   walk_at "hx"
   refine ⟨L,m,_,k,_,_,rfl,hs,hk,?_⟩
   walk_at "hx"
   refine zt (fun c9=>?_) fun c9=>?_
   ·rw [if_pos (.inr c9)] at q
    walk_at "hx";exact q
   rw [if_neg (fun z=>z.elim c8 c9)] at q
   walk_at "hx";exact q
noncomputable def zaP (A:Ad):Sp:=fun vs H Q _=>∃ (L:Lay) (m:HouM) (p:Addr) (new:List Int),vs=[.ref (L.ad .house),.ref p]∧Hs A.cs H L m∧H p=some (.lst (new.map V.int))∧Q (.int (jE m new)) H
theorem zhK (T:Tx K mg A) (ZA:Good P w K mg base 1 A.ZD ["p"] (z0U A)):Good P w K mg base 2 A.JL ["house", "prices"] (zaP A):=by
 refine Good.of T.zm3 z9Y (fun _ _ _ _ _ _=>us2 (fun _ _=>rfl)) (fun vs H Q E h=>?_) (fun cdv A1 outer s0 H vs Q E hr h=>?_)
 ·obtain ⟨L,m,p,new,rfl,_⟩:=h;rfl
 ·obtain ⟨L,m,p,new,rfl,hs,hp,q⟩:=h
  refine ⟨_,(z7 (yK PassesOwn.never rfl (Yk (K:=K) (pv 1)) (y6 (i:=2) z9Y.nd rfl (Or.inl rfl)) (za (zi (yY (zR (zm ZA hr (by decide) rfl T.ZD (z0 (pv 2) z8)))) (za (ze (zf (i:=(-1)) T.jn rfl))) zj))) (z7 (zi (zq Zd (yn (Z1 (K:=K)) rfl T.yO yP (z0 (pv 1) z8)) (yn (Z1 (K:=K)) rfl T.yO yP (z0 (zc (K:=K) (pv 0) rfl) z8)) (zo _)) (za (ze (zf (i:=(-15)) T.zdN rfl))) zj) (za (ze (zf (i:=0) T.yV rfl))))),?_⟩
  unfold jE at q
  walk_at "hx"
  refine Y8 (SqL.of hp) ?_
  refine Yu (fun i σ H'=>∃ v,σ = [some (.ref (L.ad .house)),some (.ref p),v]∧H'=H∧∀ z∈new.take i,rgP z) ⟨none,rfl,rfl,by simp⟩ (fun i σ H' _ ⟨_,_,e,_⟩=>by rw [e];exact SqL.of hp) ?_ ?_
  ·rintro i x σ H' hi ⟨v',rfl,rfl,f⟩
   rw [List.getElem?_map] at hi
   cases hz:new[i]? with
   | none=>rw [hz] at hi;cases hi
   | some a=>
    rw [hz] at hi
    have hi:=(Option.some.inj hi).symm
    subst hi
    walk_at "hx"
    refine ⟨a,rfl,?_⟩
    walk_at "hx"
    refine zW (fun c1=>?_) fun c1=>?_
    ·rw [if_pos (fun z=>c1 (z a (List.mem_of_getElem? hz)))] at q
     walk_at "hx";exact q
    ·walk_at "hx"
     refine ⟨_,rfl,rfl,fun z hz'=>?_⟩
     rw [yL hz,List.mem_append,List.mem_singleton] at hz'
     rcases hz' with hz' | rfl
     ·exact f z hz'
     ·exact c1
  ·rintro σ H' ⟨v',rfl,rfl,f⟩
   rw [List.length_map,List.take_length] at f
   rw [if_neg (fun z=>z f)] at q
   walk_at "hx"
   refine ZF hp ?_
   walk_at "hx"
   refine ZF hs.pr ?_
   walk_at "hx"
   refine zW (fun c1=>?_) fun c1=>?_
   ·rw [if_pos (by omega)] at q
    walk_at "hx";exact q
   ·rw [if_neg (by omega)] at q
    walk_at "hx";exact q
noncomputable def zaS (A:Ad):Sp:=fun vs H Q _=>∃ (L:Lay) (m:HouM) (c n:Int),vs=[.ref (L.ad .house),.int c,.int n]∧Hs A.cs H L m∧Q (.int (jF m c n)) H
theorem zhM (T:Tx K mg A) (yN:Good P w K mg base 1 A.Ys ["self", "c"] (jJ A)):Good P w K mg base 2 A.JN ["house", "c", "n"] (zaS A):=by
 refine Good.of T.zm5 za0 (fun _ _ _ _ _ _=>us3 (fun _ _ _=>rfl)) (fun vs H Q E h=>?_) (fun cdv A1 outer s0 H vs Q E hr h=>?_)
 ·obtain ⟨L,m,c,n,rfl,_⟩:=h;rfl
 ·obtain ⟨L,m,c,n,rfl,hs,q⟩:=h
  refine ⟨_,(z7 (zi (yY (z8b yz yz zg (pv 2) (zf (i:=1000) T.z6G rfl))) (za (ze (zf (i:=(-1)) T.jn rfl))) zj) (z7 (zi (yY (zR (yh (pv 0) T.zO T.JW yN hr (by decide) (z0 (pv 1) z8)))) (za (ze (zf (i:=(-2)) T.Y6 rfl))) zj) (z7 (zp (i:=3) za0.nd rfl (Or.inl rfl) (zc (K:=K) (zD (zE (K:=K)) (zc (K:=K) (pv 0) rfl) (zz yE (pv 1) zg) (fun _ _=>rfl)) rfl)) (z7 (zi (zq z1F (zz Zh (zc (K:=K) (pv 3) rfl) (pv 2)) (zc (K:=K) (pv 3) rfl) (zo _)) (za (ze (zf (i:=(-9)) T.z6I rfl))) zj) (za (ze (zf (i:=0) T.yV rfl))))))),?_⟩
  unfold jF at q
  walk_at "hx"
  refine zW (fun c1=>?_) fun c1=>?_
  ·rw [if_pos c1] at q
   walk_at "hx";exact q
  rw [if_neg (fun z=>z c1)] at q
  walk_at "hx"
  refine ⟨L,m,c,rfl,hs,?_⟩
  walk_at "hx"
  refine zW (fun c2=>?_) fun c2=>?_
  ·rw [if_pos (show ¬ inN m.cons.length c from c2)] at q
   walk_at "hx";exact q
  rw [if_neg (fun z=>z c2)] at q
  walk_at "hx"
  refine YZ hs c2 ?_
  obtain ⟨k,hk⟩:=z0w c2
  rw [hk] at q
  dsimp only at q
  walk_at "hx"
  refine zt (fun c3=>?_) fun c3=>?_
  ·rw [if_pos c3] at q
   walk_at "hx";exact q
  rw [if_neg c3] at q
  walk_at "hx";exact q
theorem yy:([V.int 0]:List V).length≤sizeLine:=by show 1≤sizeLine;decide
noncomputable def zav (A:Ad):Sp:=fun vs H Q _=>∃ (L:Lay) (m:HouM) (s:Vbchaa.State),vs=[.ref (L.ad .house)]∧Hs A.cs H L m∧Rel m s∧Ok s∧Ans A .account H L m s Q
theorem zhn (T:Tx K mg A):Good P w K mg base 1 A.Jr ["house"] (zav A):=by
 refine Good.of T.zlH zka (fun _ _ _ _ _ _=>us1 (fun _=>rfl)) (fun vs H Q E h=>?_) (fun cdv A1 outer s0 H vs Q E hr h=>?_)
 ·obtain ⟨L,m,s,rfl,_⟩:=h;rfl
 ·obtain ⟨L,m,s,rfl,hs,rel,o,q⟩:=h
  refine ⟨_,(z7 (zi (zq zL (yn (Z1 (K:=K)) rfl T.yO yP (z0 (zc (K:=K) (pv 0) rfl) z8)) (zf (i:=12) T.zdm rfl) (zo _)) (za (ze (zA (z0 (zf (i:=(-8)) T.z1m rfl) z8)))) zj) (z7 (zX (xbm (K:=K) PySem.F.plainAttrs_list PySem.F.slot_list_append PySem.F.type_list_append Yz (zc (K:=K) (pv 0) rfl) (z0 zg z8))) (za (ze (zA (z0 (yn (Z1 (K:=K)) rfl T.yO yP (z0 (zc (K:=K) (pv 0) rfl) z8)) z8)))))),?_⟩
  have wf:=rel.wf o
  walk_at "hx"
  refine ZF hs.ca ?_
  walk_at "hx"
  refine zt (fun c1=>?_) fun c1=>?_
  ·walk_at "hx"
   exact ⟨yy,fun p hp=>q.ref hs rel (zjs rel (by omega)) (Same.refl H) hp⟩
  ·walk_at "hx"
   refine ⟨Z0 hs.ca,?_⟩
   walk_at "hx"
   refine YB hs.ca (by rw [List.length_map];have:=wf.cashN;exact Nat.lt_of_le_of_lt this (by decide)) ?_
   have el:m.cash.map V.int ++ [V.int 0]=(m.cash ++ [0]).map V.int:=by rw [List.map_append];rfl
   rw [el]
   obtain ⟨hs1,st1⟩:=hs.setCash (m.cash ++ [0])
   obtain ⟨e1,r1⟩:=zbM rel o (by omega)
   walk_at "hx"
   refine ZF hs1.ca ?_
   walk_at "hx"
   rw [List.length_append]
   exact ⟨yy,fun p hp=>q.acc hs1 st1 rfl e1 r1 hp⟩
noncomputable def zax (A:Ad):Sp:=fun vs H Q _=>∃ (L:Lay) (m:HouM) (s:Vbchaa.State) (p:Int),vs=[.ref (L.ad .house),.int p]∧Hs A.cs H L m∧Rel m s∧Ok s∧Ans A (.under p) H L m s Q
theorem zhp (T:Tx K mg A) (ZA:Good P w K mg base 1 A.ZD ["p"] (z0U A)):Good P w K mg base 2 A.Jt ["house", "p"] (zax A):=by
 refine Good.of T.zlJ zkb (fun _ _ _ _ _ _=>us2 (fun _ _=>rfl)) (fun vs H Q E h=>?_) (fun cdv A1 outer s0 H vs Q E hr h=>?_)
 ·obtain ⟨L,m,s,p,rfl,_⟩:=h;rfl
 ·obtain ⟨L,m,s,p,rfl,hs,rel,o,q⟩:=h
  refine ⟨_,(z7 (zi (yY (zR (zm ZA hr (by decide) rfl T.ZD (z0 (pv 1) z8)))) (za (ze (zA (z0 (zf (i:=(-1)) T.jn rfl) z8)))) zj) (z7 (zi (zq zL (yn (Z1 (K:=K)) rfl T.yO yP (z0 (zc (K:=K) (pv 0) rfl) z8)) (zf (i:=4) T.zdv rfl) (zo _)) (za (ze (zA (z0 (zf (i:=(-8)) T.z1m rfl) z8)))) zj) (z7 (zX (xbm (K:=K) PySem.F.plainAttrs_list PySem.F.slot_list_append PySem.F.type_list_append Yz (zc (K:=K) (pv 0) rfl) (z0 (pv 1) z8))) (za (ze (zA (z0 (yn (Z1 (K:=K)) rfl T.yO yP (z0 (zc (K:=K) (pv 0) rfl) z8)) z8))))))),?_⟩
  have wf:=rel.wf o
  walk_at "hx"
  refine ⟨p,rfl,?_⟩
  walk_at "hx"
  refine zW (fun c0=>?_) fun c0=>?_
  ·walk_at "hx"
   exact ⟨yy,fun p hp=>q.ref hs rel (zjA c0) (Same.refl H) hp⟩
  walk_at "hx"
  refine ZF hs.pr ?_
  walk_at "hx"
  refine zt (fun c1=>?_) fun c1=>?_
  ·walk_at "hx"
   exact ⟨yy,fun p hp=>q.ref hs rel (zjB rel c0 (by omega)) (Same.refl H) hp⟩
  ·walk_at "hx"
   refine ⟨Z0 hs.pr,?_⟩
   walk_at "hx"
   refine YB hs.pr (by rw [List.length_map];have:=wf.priceN;exact Nat.lt_of_le_of_lt this (by decide)) ?_
   have el:m.prices.map V.int ++ [V.int p]=(m.prices ++ [p]).map V.int:=by rw [List.map_append];rfl
   rw [el]
   obtain ⟨hs1,st1⟩:=hs.setPrices (m.prices ++ [p])
   obtain ⟨e1,r1⟩:=zbU rel o c0 (by omega)
   walk_at "hx"
   refine ZF hs1.pr ?_
   walk_at "hx"
   rw [List.length_append]
   exact ⟨yy,fun p hp=>q.acc hs1 st1 rfl e1 r1 hp⟩
noncomputable def zaw (A:Ad):Sp:=fun vs H Q _=>∃ (L:Lay) (m:HouM) (s:Vbchaa.State) (kind u strike mult expiry:Int),vs=[.ref (L.ad .house),.int kind,.int u,.int strike,.int mult,.int expiry]∧Hs A.cs H L m∧Rel m s∧Ok s∧Ans A (.contract kind u strike mult expiry) H L m s Q
theorem zho (T:Tx K mg A) (z2n:Good P w K mg base 4 A.z1e ["self", "number", "kind", "underlying", "strike", "multiple", "expiry"] (za7 A)) (z2z:Good P w K mg base 3 A.Je ["house", "kind", "u", "strike", "multiple", "expiry"] (zai A)):Good P w K mg base 6 A.Js ["house", "kind", "u", "strike", "multiple", "expiry"] (zaw A):=by
 refine Good.of T.zlI z53 (fun _ _ _ _ _ _=>us6 (fun _ _ _ _ _ _=>rfl)) (fun vs H Q E h=>?_) (fun cdv A1 outer s0 H vs Q E hr h=>?_)
 ·obtain ⟨L,m,s,kind,u,strike,mult,expiry,rfl,_⟩:=h;rfl
 ·obtain ⟨L,m,s,kind,u,strike,mult,expiry,rfl,hs0,rel,o,q⟩:=h
  refine ⟨_,(z7 (zp (i:=6) z53.nd rfl (Or.inl rfl) (zm z2z hr (by decide) rfl T.Je (z0 (pv 0) (z0 (pv 1) (z0 (pv 2) (z0 (pv 3) (z0 (pv 4) (z0 (pv 5) z8)))))))) (z7 (zi (zq Zd (pv 6) (zf (i:=0) T.yV rfl) (zo _)) (za (ze (zA (z0 (pv 6) z8)))) zj) (z7 (zp (i:=7) z53.nd rfl (Or.inl rfl) (zz Zh (yn (Z1 (K:=K)) rfl T.yO yP (z0 (zc (K:=K) (pv 0) rfl) z8)) zg)) (z7 (zX (xbm (K:=K) PySem.F.plainAttrs_list PySem.F.slot_list_append PySem.F.type_list_append Yz (zc (K:=K) (pv 0) rfl) (z0 (z0X T.zga z2n hr (by decide) rfl T.zF (z0 (pv 7) (z0 (pv 1) (z0 (pv 2) (z0 (pv 3) (z0 (pv 4) (z0 (pv 5) z8))))))) z8))) (za (ze (zA (z0 (pv 7) z8)))))))),?_⟩
  have wf:=rel.wf o
  walk_at "hx"
  refine ⟨L,m,kind,u,strike,mult,expiry,rfl,hs0,fun H1 s1=>?_⟩
  have hs:=hs0.ofSame s1
  walk_at "hx"
  refine zW (fun c0=>?_) fun c0=>?_
  ·walk_at "hx"
   exact ⟨yy,fun p hp=>q.ref hs0 rel (zju rel o.c c0) s1 hp⟩
  walk_at "hx"
  refine z0v hs.cl ?_
  walk_at "hx"
  refine ⟨Z0 hs.cl,?_⟩
  walk_at "hx"
  intro x dx nx nd ne
  obtain ⟨hn,hu,S,e1,r1⟩:=zbO rel o c0
  have same2:∀ b o',H1 b=some o'→upd (upd H1 dx (.own x)) x (.ins A.zF dx []) b=some o':=fun b o' e=>by rw [z6 (zd e nx),z6 (zd e nd)];exact e
  have free2:∀ b,upd (upd H1 dx (.own x)) x (.ins A.zF dx []) b=none→H1 b=none:=fun b e=>by
   cases z:H1 b with
   | none=>rfl
   | some o'=>rw [same2 b o' z] at e;cases e
  refine ⟨x,dx,(m.cons.length:Int) + 1,kind,u,strike,mult,expiry,rfl,z9,fun ah r b a dr H2 nh nr nb na ndp f1 f2 f3 f4 f5 fr=>⟨rfl,?_⟩⟩
  have fr':∀ b o',H1 b=some o'→H2 b=some o':=fun b o' e=>fr b o' (same2 b o' e) (zd e nx)
  have hcl:H2 (L.ad .cl)=some (.lst ((List.range m.cons.length).map fun i=>V.ref (L.ad (.con i)))):=fr' _ _ hs.cl
  walk_at "hx"
  refine YB hcl (by rw [List.length_map,List.length_range];exact Nat.lt_of_lt_of_le hn (by decide)) ?_
  have cx:x≠L.ad .cl:=Ne.symm (zd hs.cl nx)
  have chh:ah≠L.ad .cl:=Ne.symm (zd hs.cl (free2 _ nh))
  have chr:r≠L.ad .cl:=Ne.symm (zd hs.cl (free2 _ nr))
  have chb:b≠L.ad .cl:=Ne.symm (zd hs.cl (free2 _ nb))
  have cha:a≠L.ad .cl:=Ne.symm (zd hs.cl (free2 _ na))
  obtain ⟨h2,st2⟩:=hs.newCon (H':=upd H2 (L.ad .cl) (.lst (((List.range m.cons.length).map fun i=>V.ref (L.ad (.con i))) ++ [V.ref x]))) (i:=m.cons.length) rfl ⟨kind,u,strike,mult,expiry,false,[],⟨[],0,[],0⟩,0⟩
   (fun key y hy=>by obtain ⟨k,hk⟩:=wf.trd key y hy;exact (List.getElem?_eq_some_iff.mp hk).1) (x:=x) (ah:=ah) (ar:=r) (ab:=b) (aa:=a) (dx:=dx) (dr:=dr) nx (free2 _ nh) (free2 _ nr) (free2 _ nb) (free2 _ na) ndp
   (by rw [z6 cx];exact f1) (by rw [z6 chh];exact f2) (by rw [z6 chr];exact f3) (by rw [z6 chb];exact f4) (by rw [z6 cha];exact f5) z9 (fun b' o' e hb=>by rw [z6 hb];exact fr' _ _ e)
  walk_at "hx"
  refine ⟨yy,fun p hp=>?_⟩
  have st:=(Step.ofSame (C:=A.cs) (L:=L) (m:=m) s1).trans st2
  exact q.acc h2 st (ZN (by unfold yT;rintro (z | z | z | z | z) <;> cases z)) e1 r1 hp
noncomputable def zap (A:Ad):Sp:=fun vs H Q _=>∃ (L:Lay) (m:HouM) (s:Vbchaa.State) (key side taker:Int),vs=[.ref (L.ad .house),.int key,.int side,.int taker]∧Hs A.cs H L m∧Rel m s∧Ok s∧Ans A (.give key side taker) H L m s Q
theorem zhc (T:Tx K mg A) (z2H:Good P w K mg base 2 A.Jm ["house", "key", "side", "taker"] (zaq A)):Good P w K mg base 3 A.Jl ["house", "key", "side", "taker"] (zap A):=by
 refine Good.of T.zlw z52 (fun _ _ _ _ _ _=>us4 (fun _ _ _ _=>rfl)) (fun vs H Q E h=>?_) (fun cdv A1 outer s0 H vs Q E hr h=>?_)
 ·obtain ⟨L,m,s,key,side,taker,rfl,_⟩:=h;rfl
 ·obtain ⟨L,m,s,key,side,taker,rfl,hs,rel,o,q⟩:=h
  have hu:=yQ hr
  refine ⟨_,(z7 (zp (i:=4) z52.nd rfl (Or.inl rfl) (zm z2H hr (by decide) rfl T.Jm (z0 (pv 0) (z0 (pv 1) (z0 (pv 2) (z0 (pv 3) z8)))))) (z7 (zi (zq Zd (pv 4) (zf (i:=0) T.yV rfl) (zo _)) (za (ze (zA (z0 (pv 4) z8)))) zj) (z7 (zp (i:=5) z52.nd rfl (Or.inl rfl) (Z5 hu (zc (K:=K) (pv 0) rfl) (pv 1) (fun _ _=>rfl))) (z7 (zB (K:=K) (pv 5) (pv 2) rfl) (z7 (zB (K:=K) (pv 5) (pv 3) rfl) (za (ze (zA (z0 zg z8))))))))),?_⟩
  walk_at "hx"
  refine ⟨L,m,key,side,taker,rfl,hs,?_⟩
  walk_at "hx"
  refine zW (fun c0=>?_) fun c0=>?_
  ·walk_at "hx"
   exact ⟨yy,fun p hp=>q.ref hs rel (zjw rel o.t c0) (Same.refl H) hp⟩
  obtain ⟨x,hx,S,e1,r1⟩:=zbQ rel o c0
  have ht:=JR hs hx
  walk_at "hx"
  refine jp hs hx ?_
  walk_at "hx"
  refine zy ht T.zU T.z4v (by walk_at "hl") ?_
  rw [zim]
  walk_at "hx"
  refine zy z9 T.zU T.z0H (by walk_at "hl") ?_
  rw [ye,z4J]
  obtain ⟨hs1,st1⟩:=hs.setTrd hx { x with side:=side,taker:=taker }
  walk_at "hx"
  exact ⟨yy,fun p hp=>q.acc hs1 st1 rfl e1 r1 hp⟩
noncomputable def zaN (A:Ad):Sp:=fun vs H Q _=>∃ (L:Lay) (m:HouM) (key c b s lots price:Int),vs=[.ref (L.ad .house),.int key,.int c,.int b,.int s,.int lots,.int price]∧Hs A.cs H L m∧Q (.int (jD m key c b s lots price)) H
theorem zhI (T:Tx K mg A) (yG:Good P w K mg base 1 A.Yr ["self", "a"] (jd A)) (yN:Good P w K mg base 1 A.Ys ["self", "c"] (jJ A)) (Zz:Good P w K mg base 2 A.Zo ["contract", "account", "lots"] (z28 A)) (z33:Good P w K mg base 2 A.JI ["key", "lots", "price"] (zaM A)):Good P w K mg base 3 A.JJ ["house", "key", "c", "buyer", "seller", "lots", "price"] (zaN A):=by
 refine Good.of T.zm1 z9W (fun _ _ _ _ _ _=>us7 (fun _ _ _ _ _ _ _=>rfl)) (fun vs H Q E h=>?_) (fun cdv A1 outer s0 H vs Q E hr h=>?_)
 ·obtain ⟨L,m,key,c,b,s,lots,price,rfl,_⟩:=h;rfl
 ·obtain ⟨L,m,key,c,b,s,lots,price,rfl,hs,q⟩:=h
  have hu:=yQ hr
  refine ⟨_,(z7 (zi (yY (zR (zm z33 hr (by decide) rfl T.JI (z0 (pv 1) (z0 (pv 5) (z0 (pv 6) z8)))))) (za (ze (zf (i:=(-1)) T.jn rfl))) zj) (z7 (zi (yY (PW.pt (jx (zR (yh (pv 0) T.zO T.JW yN hr (by decide) (z0 (pv 2) z8))) (jx (zR (yh (pv 0) T.zO T.jt yG hr (by decide) (z0 (pv 3) z8))) (z02 (zR (yh (pv 0) T.zO T.jt yG hr (by decide) (z0 (pv 4) z8)))))))) (za (ze (zf (i:=(-2)) T.Y6 rfl))) zj) (z7 (zp (i:=7) z9W.nd rfl (Or.inl rfl) (zD (zE (K:=K)) (zc (K:=K) (pv 0) rfl) (zz yE (pv 2) zg) (fun _ _=>rfl))) (z7 (zi (zR (zc (K:=K) (pv 7) rfl)) (za (ze (zf (i:=(-3)) T.z6E rfl))) zj) (z7 (zi (zq zL (pv 3) (pv 4) (zo _)) (za (ze (zf (i:=(-10)) T.z6H rfl))) zj) (z7 (zi (z1M (zhX hu (pv 1) (zc (K:=K) (pv 0) rfl))) (za (ze (zf (i:=(-5)) T.zdl rfl))) zj) (z7 (zi (PW.pt (z03 (zR (zm Zz hr (by decide) rfl T.Zo (z0 (pv 7) (z0 (pv 3) (z0 (pv 5) z8))))) (z04 (zR (zm Zz hr (by decide) rfl T.Zo (z0 (pv 7) (z0 (pv 4) (z0 (ZY Y2 (pv 5)) z8)))))))) (za (ze (zf (i:=(-7)) T.z3C rfl))) zj) (z7 (zi (zq zL (yn zmg rfl T.yO yP (z0 (zc (K:=K) (pv 0) rfl) z8)) (zf (i:=60) T.zdu rfl) (zo _)) (za (ze (zf (i:=(-8)) T.z1m rfl))) zj) (za (ze (zf (i:=0) T.yV rfl))))))))))),?_⟩
  unfold jD at q
  walk_at "hx"
  refine ⟨key,lots,price,rfl,?_⟩
  walk_at "hx"
  refine zW (fun c1=>?_) fun c1=>?_
  ·rw [if_pos c1] at q
   walk_at "hx";exact q
  rw [if_neg (fun z=>z c1)] at q
  walk_at "hx"
  refine ⟨L,m,c,rfl,hs,?_⟩
  walk_at "hx"
  refine zt (fun c2=>?_) fun c2=>?_
  ·walk_at "hx"
   refine ⟨L,m,b,rfl,hs,?_⟩
   walk_at "hx"
   refine zt (fun c3=>?_) fun c3=>?_
   ·walk_at "hx"
    refine ⟨L,m,s,rfl,hs,?_⟩
    walk_at "hx"
    refine zW (fun c4=>?_) fun c4=>?_
    ·rw [if_pos (fun z=>c4 z.2.2)] at q
     walk_at "hx";exact q
    rw [if_neg (fun z=>z ⟨c2,c3,c4⟩)] at q
    walk_at "hx"
    refine YZ hs c2 ?_
    obtain ⟨k,hk⟩:=z0w c2
    rw [hk] at q
    dsimp only at q
    walk_at "hx"
    refine jr (fun c5=>?_) fun c5=>?_
    ·rw [if_pos c5] at q
     walk_at "hx";exact q
    rw [if_neg (by rw [c5];decide)] at q
    walk_at "hx"
    refine zt (fun c6=>?_) fun c6=>?_
    ·rw [if_pos c6] at q
     walk_at "hx";exact q
    rw [if_neg c6] at q
    walk_at "hx"
    refine zer hs ?_
    walk_at "hx"
    refine zt (fun c7=>?_) fun c7=>?_
    ·rw [if_pos c7] at q
     walk_at "hx";exact q
    rw [if_neg c7] at q
    walk_at "hx"
    refine ⟨L,m,_,k,b,lots,rfl,hs,hk,?_⟩
    walk_at "hx"
    refine zt (fun c8=>?_) fun c8=>?_
    ·refine yW rfl ?_
     rw [if_pos (.inl c8)] at q
     walk_at "hx";exact q
    walk_at "hx"
    refine ⟨L,m,_,k,s,-lots,rfl,hs,hk,?_⟩
    walk_at "hx"
    refine zt (fun c9=>?_) fun c9=>?_
    ·rw [if_pos (.inr c9)] at q
     walk_at "hx";exact q
    rw [if_neg (fun z=>z.elim c8 c9)] at q
    walk_at "hx"
    refine ⟨_,_,rfl,hs.sp,?_⟩
    walk_at "hx"
    rw [List.length_map]
    refine zt (fun c10=>?_) fun c10=>?_
    ·rw [if_pos (by omega)] at q
     walk_at "hx";exact q
    ·rw [if_neg (by omega)] at q
     walk_at "hx";exact q
   ·refine yW rfl ?_
    rw [if_pos (fun z=>c3 z.2.1)] at q
    walk_at "hx";exact q
  ·refine yW rfl ?_
   rw [if_pos (fun z=>c2 z.1)] at q
   walk_at "hx";exact q
noncomputable def zac (A:Ad):Sp:=fun vs H Q _=>∃ (L:Lay) (m:HouM) (key a:Int),vs=[.ref (L.ad .house),.int key,.int a]∧Hs A.cs H L m∧Wf m∧Q (.int (jy m key a)) H
theorem zgQ (T:Tx K mg A) (jW:Good P w K mg base 1 A.YO ["deal"] (z5j A)) (Zz:Good P w K mg base 2 A.Zo ["contract", "account", "lots"] (z28 A)) (jY:Good P w K mg base 1 A.YR ["deal", "a"] (z5l A)):Good P w K mg base 3 A.J6 ["house", "key", "a"] (zac A):=by
 refine Good.of T.zla z9N (fun _ _ _ _ _ _=>us3 (fun _ _ _=>rfl)) (fun vs H Q E h=>?_) (fun cdv A1 outer s0 H vs Q E hr h=>?_)
 ·obtain ⟨L,m,key,a,rfl,_⟩:=h;rfl
 ·obtain ⟨L,m,key,a,rfl,hs,wf,q⟩:=h
  have hu:=yQ hr
  refine ⟨_,(z7 (zi (z1M (z4G hu (pv 1) (zc (K:=K) (pv 0) rfl))) (za (ze (zf (i:=(-6)) T.z3B rfl))) zj) (z7 (zp (i:=3) z9N.nd rfl (Or.inl rfl) (Z5 hu (zc (K:=K) (pv 0) rfl) (pv 1) (fun _ _=>rfl))) (z7 (zi (PW.pt (jx (zq Zd (pv 2) (zc (K:=K) (pv 3) rfl) (zo _)) (z02 (zq Zd (pv 2) (zc (K:=K) (pv 3) rfl) (zo _))))) (za (ze (zf (i:=(-12)) T.zdy rfl))) zj) (z7 (zi (zR (zm jW hr (by decide) rfl T.YO (z0 (pv 3) z8))) (za (ze (zf (i:=(-11)) T.z6F rfl))) zj) (z7 (zi (yY (zR (zm jY hr (by decide) rfl T.YR (z0 (pv 3) (z0 (pv 2) z8))))) (za (ze (zf (i:=0) T.yV rfl))) zj) (z7 (zi (PW.pt (z03 (zR (zm Zz hr (by decide) rfl T.Zo (z0 (zc (K:=K) (pv 3) rfl) (z0 (zc (K:=K) (pv 3) rfl) (z0 (ZY Y2 (zc (K:=K) (pv 3) rfl)) z8))))) (z04 (zR (zm Zz hr (by decide) rfl T.Zo (z0 (zc (K:=K) (pv 3) rfl) (z0 (zc (K:=K) (pv 3) rfl) (z0 (zc (K:=K) (pv 3) rfl) z8)))))))) (za (ze (zf (i:=(-7)) T.z3C rfl))) zj) (za (ze (zf (i:=0) T.yV rfl))))))))),?_⟩
  unfold jy at q
  walk_at "hx"
  refine z3O hs ?_
  walk_at "hx"
  cases hx:gI m.trades key with
  | none=>
   rw [hx] at q
   refine yW rfl ?_
   walk_at "hx";exact q
  | some x=>
   rw [hx] at q
   dsimp only at q
   refine js rfl ?_
   walk_at "hx"
   refine jp hs hx ?_
   walk_at "hx"
   obtain ⟨k,hk⟩:=wf.trd key x hx
   rw [hk] at q
   dsimp only at q
   refine zW (fun c1=>?_) fun c1=>?_
   ·walk_at "hx"
    refine zW (fun c2=>?_) fun c2=>?_
    ·rw [if_pos ⟨c1,c2⟩] at q
     walk_at "hx";exact q
    rw [if_neg (fun z=>z.2 c2)] at q
    walk_at "hx"
    refine ⟨L,m,key,x,k,rfl,hs,hx,hk,?_⟩
    walk_at "hx"
    refine zt (fun c3=>?_) fun c3=>?_
    ·rw [if_pos c3] at q
     walk_at "hx";exact q
    rw [if_neg c3] at q
    walk_at "hx"
    refine ⟨L,m,key,x,a,rfl,hs,hx,?_⟩
    walk_at "hx"
    have el:(if a=x.buyer then x.ys else x.yb)=Yx x a:=rfl
    rw [el]
    refine jr (fun c4=>?_) fun c4=>?_
    ·rw [if_pos (by simpa using c4)] at q
     walk_at "hx";exact q
    rw [if_neg (by simpa using c4)] at q
    walk_at "hx"
    refine ⟨L,m,_,k,_,_,rfl,hs,hk,?_⟩
    walk_at "hx"
    refine zt (fun c8=>?_) fun c8=>?_
    ·refine yW rfl ?_
     rw [if_pos (.inl c8)] at q
     walk_at "hx";exact q
    walk_at "hx"
    refine ⟨L,m,_,k,_,_,rfl,hs,hk,?_⟩
    walk_at "hx"
    refine zt (fun c9=>?_) fun c9=>?_
    ·rw [if_pos (.inr c9)] at q
     walk_at "hx";exact q
    rw [if_neg (fun z=>z.elim c8 c9)] at q
    walk_at "hx";exact q
   ·refine js rfl ?_
    rw [if_neg (fun z=>z.1 c1)] at q
    walk_at "hx"
    refine ⟨L,m,key,x,k,rfl,hs,hx,hk,?_⟩
    walk_at "hx"
    refine zt (fun c3=>?_) fun c3=>?_
    ·rw [if_pos c3] at q
     walk_at "hx";exact q
    rw [if_neg c3] at q
    walk_at "hx"
    refine ⟨L,m,key,x,a,rfl,hs,hx,?_⟩
    walk_at "hx"
    have el:(if a=x.buyer then x.ys else x.yb)=Yx x a:=rfl
    rw [el]
    refine jr (fun c4=>?_) fun c4=>?_
    ·rw [if_pos (by simpa using c4)] at q
     walk_at "hx";exact q
    rw [if_neg (by simpa using c4)] at q
    walk_at "hx"
    refine ⟨L,m,_,k,_,_,rfl,hs,hk,?_⟩
    walk_at "hx"
    refine zt (fun c8=>?_) fun c8=>?_
    ·refine yW rfl ?_
     rw [if_pos (.inl c8)] at q
     walk_at "hx";exact q
    walk_at "hx"
    refine ⟨L,m,_,k,_,_,rfl,hs,hk,?_⟩
    walk_at "hx"
    refine zt (fun c9=>?_) fun c9=>?_
    ·rw [if_pos (.inr c9)] at q
     walk_at "hx";exact q
    rw [if_neg (fun z=>z.elim c8 c9)] at q
    walk_at "hx";exact q
theorem zkL {A:Ad} {H:Hp} {L:Lay} {m:HouM} (hs:Hs A.cs H L m) {key:Int} {x:TrdM} (hx:gI m.trades key=some x):yk A.cs L { m with trades:=yI m.trades key } (L.ad (.trd key)):=fun n hn e=>by
 have live:(cont A.cs L m (.trd key)).isSome=true:=by show ((gI m.trades key).map _).isSome=true;rw [hx];rfl
 have hn2:(cont A.cs L m n).isSome=true:=by
  cases n with
  | trd key'=>
   have hn:((gI (yI m.trades key) key').map _).isSome=true:=hn
   show ((gI m.trades key').map _).isSome=true
   rw [z1l] at hn
   split at hn
   ·cases hn
   ·rw [Option.isSome_map] at hn ⊢;exact hn
  | _=>exact hn
 have e2:=hs.inj n (.trd key) hn2 live e
 subst e2
 have hn:((gI (yI m.trades key) key).map _).isSome=true:=hn
 rw [z1l,if_pos rfl] at hn
 cases hn
noncomputable def zbF (ty:TE) (σ : L2.St) (x:V) (H:Hp) (Q:VK):Prop:=∃ a,x = .ref a∧IsD H a∧ty σ H fun y H2=>∃ kvs k v,H2 a=some (.dK kvs)∧y=kV k∧yu kvs k=some v∧Q v (upd H2 a (.dK (Yq kvs k)))
theorem zem {td ty:TE} {σ : L2.St} {H:Hp} {Q:VK} (h:td σ H fun x H1=>zbF ty σ x H1 Q):zb8 td ty σ H Q:=h
noncomputable def zaQ (A:Ad):Sp:=fun vs H Q _=>∃ (L:Lay) (m:HouM) (key:Int) (x:TrdM) (k:ConM) (b l:Nat),vs=[.ref (L.ad .house),.int key]∧Hs A.cs H L m∧Wf m∧gI m.trades key=some x∧m.cons[x.con]?=some k∧x.buyer=(b:Int)∧x.seller=(l:Int) ∧
 (1≤b∧b≤m.cash.length)∧(1≤l∧l≤m.cash.length)∧(1≤x.lots∧x.lots≤1000) ∧
 ∀ H' L' m',m' = { pairM m x.con k b l (-x.lots) (zr m k (-x.lots) x.price) x.lots (zr m k x.lots x.price) with trades:=yI m.trades key }→Hs A.cs H' L' m'→Step A.cs H L m H' L' m'→L'.ad .house=L.ad .house→Q .non H'
theorem zhL (T:Tx K mg A) (Ym:Good P w K mg base 4 A.Y3 ["contract"] (z26 A)) (Zy:Good P w K mg base 3 A.Zn ["house", "contract", "account", "lots", "price"] (z27 A)):Good P w K mg base 5 A.JM ["house", "key"] (zaQ A):=by
 refine Good.of T.zm4 z9Z (fun _ _ _ _ _ _=>us2 (fun _ _=>rfl)) (fun vs H Q E h=>?_) (fun cdv A1 outer s0 H vs Q E hr h=>?_)
 ·obtain ⟨L,m,key,x,k,b,l,rfl,_⟩:=h;rfl
 ·obtain ⟨L,m,key,x,k,b,l,rfl,hs,wf,hx,hk,eb,el,hb,hl,hlo,q⟩:=h
  refine ⟨_,(z7 (zp (i:=2) z9Z.nd rfl (Or.inl rfl) (zi2 (zc (K:=K) (pv 0) rfl) (pv 1) ⟨rfl,rfl,rfl,rfl⟩)) (z7 (zX (zm Zy hr (by decide) rfl T.Zn (z0 (pv 0) (z0 (zc (K:=K) (pv 2) rfl) (z0 (zc (K:=K) (pv 2) rfl) (z0 (ZY Y2 (zc (K:=K) (pv 2) rfl)) (z0 (zc (K:=K) (pv 2) rfl) z8))))))) (z7 (zX (zm Zy hr (by decide) rfl T.Zn (z0 (pv 0) (z0 (zc (K:=K) (pv 2) rfl) (z0 (zc (K:=K) (pv 2) rfl) (z0 (zc (K:=K) (pv 2) rfl) (z0 (zc (K:=K) (pv 2) rfl) z8))))))) (za (zX (zm Ym hr (by decide) rfl T.Y3 (z0 (zc (K:=K) (pv 2) rfl) z8))))))),?_⟩
  have ht:=JR hs hx
  have hfr:=zkL hs hx
  have ho:=wf.heldOk hk
  walk_at "hx"
  refine zem ?_
  walk_at "hx"
  refine ⟨_,rfl,z8v (.inl hs.tr),?_⟩
  walk_at "hx"
  refine ⟨_,Sum.inl key,_,hs.tr,rfl,by rw [z2h,hx];rfl,?_⟩
  rw [zkK]
  obtain ⟨hs1,st1⟩:=hs.dropTrd key
  have ntr:L.ad (.trd key)≠L.ad .tr:=fun e=>by
   have:=hs.inj (.trd key) .tr (by show ((gI m.trades key).map _).isSome=true;rw [hx];rfl) rfl e
   cases this
  have ht1:upd H (L.ad .tr) (.dK ((yI m.trades key).map fun p=>(Sum.inl p.1,V.ref (L.ad (.trd p.1))))) (L.ad (.trd key))=some (.ins A.zT (L.own (.trd key)) (zJ (L.ad (.con x.con)) x.buyer x.seller x.lots x.price x.yb x.ys x.taker x.side x.exb)):=by rw [z6 ntr];exact ht
  walk_at "hx"
  rw [eb]
  refine ⟨L,_,x.con,k,b,-x.lots,x.price,rfl,hs1,hk,hb,Nat.lt_trans ho.len (by decide),(show 1≤k.under∧k.under≤(m.prices.length:Int) from wf.und _ _ hk),(show 1≤k.mult∧k.mult≤1000 from wf.mult _ _ hk),⟨by omega,by omega⟩,fun H2 hs2 st2=>?_⟩
  obtain ⟨ht2,hf2⟩:=st2.keeps ht1 hfr
  have hk2:=yS (m:={ m with trades:=yI m.trades key }) hk b (-x.lots) (zr m k (-x.lots) x.price)
  have ho2:=ho.move hb (-x.lots)
  walk_at "hx"
  rw [el]
  refine ⟨L,_,x.con,zI k b (-x.lots),l,x.lots,x.price,rfl,hs2,hk2,by rw [yj];exact hl,Nat.lt_trans ho2.len (by decide),(show 1≤k.under∧k.under≤(m.prices.length:Int) from wf.und _ _ hk),(show 1≤k.mult∧k.mult≤1000 from wf.mult _ _ hk),⟨by omega,by omega⟩,fun H3 hs3 st3=>?_⟩
  obtain ⟨ht3,hf3⟩:=st3.keeps ht2 hf2
  have hk3:=yS hk2 l x.lots (zr m k x.lots x.price)
  have ho3:=ho2.move hl x.lots
  walk_at "hx"
  refine ⟨L,_,x.con,_,rfl,hs3,hk3,by rw [yj,yj];exact ⟨ho3.nd,ho3.keys,Nat.lt_trans ho3.len (by decide)⟩,by rw [yj,yj];exact wf.cashN,fun r b' a' dx H4 hs4 st4=>?_⟩
  rw [yj,yj] at hs4 st4
  refine q H4 _ _ rfl hs4 (((st1.trans st2).trans st3).trans st4) (Zu (by intro z;cases z) (by intro z;cases z) (by intro z;cases z))
noncomputable def zab (A:Ad):Sp:=fun vs H Q _=>∃ (L:Lay) (m:HouM) (s:Vbchaa.State) (key a:Int),vs=[.ref (L.ad .house),.int key,.int a]∧Hs A.cs H L m∧Rel m s∧Ok s∧Ans A (.agree key a) H L m s Q
theorem zgP (T:Tx K mg A) (z2s:Good P w K mg base 3 A.J6 ["house", "key", "a"] (zac A)) (jY:Good P w K mg base 1 A.YR ["deal", "a"] (z5l A)) (z37:Good P w K mg base 5 A.JM ["house", "key"] (zaQ A)):Good P w K mg base 6 A.J5 ["house", "key", "a"] (zab A):=by
 refine Good.of T.zl9 z50 (fun _ _ _ _ _ _=>us3 (fun _ _ _=>rfl)) (fun vs H Q E h=>?_) (fun cdv A1 outer s0 H vs Q E hr h=>?_)
 ·obtain ⟨L,m,s,key,a,rfl,_⟩:=h;rfl
 ·obtain ⟨L,m,s,key,a,rfl,hs,rel,o,q⟩:=h
  have hu:=yQ hr
  refine ⟨_,(z7 (zp (i:=3) z50.nd rfl (Or.inl rfl) (zm z2s hr (by decide) rfl T.J6 (z0 (pv 0) (z0 (pv 1) (z0 (pv 2) z8))))) (z7 (zi (zq Zd (pv 3) (zf (i:=0) T.yV rfl) (zo _)) (za (ze (zA (z0 (pv 3) z8)))) zj) (z7 (zp (i:=4) z50.nd rfl (Or.inl rfl) (Z5 hu (zc (K:=K) (pv 0) rfl) (pv 1) (fun _ _=>rfl))) (z7 (zi (zR (zm jY hr (by decide) rfl T.YR (z0 (pv 4) (z0 (pv 2) z8)))) (z7 (zX (zm z37 hr (by decide) rfl T.JM (z0 (pv 0) (z0 (pv 1) z8)))) (za (ze (zA (z0 zg z8))))) zj) (z7 (zi (zq zL (pv 2) (zc (K:=K) (pv 4) rfl) (zo _)) (za (zB (K:=K) (pv 4) Yc rfl)) (za (zB (K:=K) (pv 4) Yc rfl))) (za (ze (zA (z0 zg z8))))))))),?_⟩
  have wf:=rel.wf o
  walk_at "hx"
  refine ⟨L,m,key,a,rfl,hs,wf,?_⟩
  walk_at "hx"
  refine zW (fun c0=>?_) fun c0=>?_
  ·walk_at "hx"
   exact ⟨yy,fun p hp=>q.ref hs rel (zjt rel o.t c0) (Same.refl H) hp⟩
  obtain ⟨x,k,b,l,G⟩:=zbN rel o c0
  have hx:=G.tr
  have ht:=JR hs hx
  walk_at "hx"
  refine jp hs hx ?_
  walk_at "hx"
  refine ⟨L,m,key,x,a,rfl,hs,hx,?_⟩
  walk_at "hx"
  have el:(if a=x.buyer then x.ys else x.yb)=Yx x a:=rfl
  rw [el]
  refine jr (fun c1=>?_) fun c1=>?_
  ·obtain ⟨S,e1,r1⟩:=G.last c1
   walk_at "hx"
   refine ⟨L,m,key,x,k,b,l,rfl,hs,wf,hx,G.at_,G.eb,G.el,G.hb,G.hl,G.lots,fun H1 L1 m1 em hs1 st1 eh=>?_⟩
   rw [← em] at r1
   walk_at "hx"
   exact ⟨yy,fun p hp=>q.acc hs1 st1 eh e1 r1 hp⟩
  ·obtain ⟨S,e1,r1⟩:=G.one c1
   walk_at "hx"
   refine zt (fun c2=>?_) fun c2=>?_
   ·rw [if_pos c2] at r1
    walk_at "hx"
    refine zy ht T.zU T.z0F (by walk_at "hl") ?_
    rw [z4H]
    obtain ⟨hs1,st1⟩:=hs.setTrd hx { x with yb:=true }
    walk_at "hx"
    exact ⟨yy,fun p hp=>q.acc hs1 st1 rfl e1 r1 hp⟩
   ·rw [if_neg c2] at r1
    walk_at "hx"
    refine zy ht T.zU T.z0G (by walk_at "hl") ?_
    rw [z4I]
    obtain ⟨hs1,st1⟩:=hs.setTrd hx { x with ys:=true }
    walk_at "hx"
    exact ⟨yy,fun p hp=>q.acc hs1 st1 rfl e1 r1 hp⟩
noncomputable def zaB (A:Ad):Sp:=fun vs H Q _=>∃ (L:Lay) (m:HouM) (s:Vbchaa.State) (key:Int),vs=[.ref (L.ad .house),.int key]∧Hs A.cs H L m∧Rel m s∧Ok s∧Ans A (.take key) H L m s Q
theorem zhw (T:Tx K mg A) (Ym:Good P w K mg base 4 A.Y3 ["contract"] (z26 A)) (Zy:Good P w K mg base 3 A.Zn ["house", "contract", "account", "lots", "price"] (z27 A)) (z2J:Good P w K mg base 1 A.Jo ["deal"] (zas A)) (J0:Good P w K mg base 1 A.YT ["deal"] (z5n A)) (J1:Good P w K mg base 1 A.YU ["deal"] (z5o A)) (z2T:Good P w K mg base 3 A.Jy ["house", "key"] (zaC A)):Good P w K mg base 5 A.Jx ["house", "key"] (zaB A):=by
 refine Good.of T.zlP z1Y (fun _ _ _ _ _ _=>us2 (fun _ _=>rfl)) (fun vs H Q E h=>?_) (fun cdv A1 outer s0 H vs Q E hr h=>?_)
 ·obtain ⟨L,m,s,key,rfl,_⟩:=h;rfl
 ·obtain ⟨L,m,s,key,rfl,hs,rel,o,q⟩:=h
  have hu:=yQ hr
  refine ⟨_,(z7 (zp (i:=2) z1Y.nd rfl (Or.inl rfl) (zm z2T hr (by decide) rfl T.Jy (z0 (pv 0) (z0 (pv 1) z8)))) (z7 (zi (zq Zd (pv 2) (zf (i:=0) T.yV rfl) (zo _)) (za (ze (zA (z0 (pv 2) z8)))) zj) (z7 (zp (i:=3) z1Y.nd rfl (Or.inl rfl) (Z5 hu (zc (K:=K) (pv 0) rfl) (pv 1) (fun _ _=>rfl))) (z7 (zp (i:=4) z1Y.nd rfl (Or.inl rfl) (zm J1 hr (by decide) rfl T.YU (z0 (pv 3) z8))) (z7 (zX (zm Zy hr (by decide) rfl T.Zn (z0 (pv 0) (z0 (zc (K:=K) (pv 3) rfl) (z0 (zm J0 hr (by decide) rfl T.YT (z0 (pv 3) z8)) (z0 (ZY Y2 (pv 4)) (z0 (zc (K:=K) (pv 3) rfl) z8))))))) (z7 (zX (zm Zy hr (by decide) rfl T.Zn (z0 (pv 0) (z0 (zc (K:=K) (pv 3) rfl) (z0 (zc (K:=K) (pv 3) rfl) (z0 (pv 4) (z0 (zc (K:=K) (pv 3) rfl) z8))))))) (z7 (zX (zm z2J hr (by decide) rfl T.Jo (z0 (pv 3) z8))) (z7 (zX (zm Ym hr (by decide) rfl T.Y3 (z0 (zc (K:=K) (pv 3) rfl) z8))) (za (ze (zA (z0 zg z8)))))))))))),?_⟩
  have wf:=rel.wf o
  walk_at "hx"
  refine ⟨L,m,key,rfl,hs,wf,?_⟩
  walk_at "hx"
  refine zW (fun c0=>?_) fun c0=>?_
  ·walk_at "hx"
   exact ⟨yy,fun p hp=>q.ref hs rel (zjx rel o.t c0) (Same.refl H) hp⟩
  obtain ⟨x,k,g,tk,G⟩:=zbR rel o c0
  have hx:=G.tr
  have hk:=G.at_
  have ho:=wf.heldOk hk
  obtain ⟨S,e1,r1⟩:=G.st
  have lo:=G.lots
  walk_at "hx"
  refine jp hs hx ?_
  walk_at "hx"
  refine ⟨L,m,key,x,rfl,hs,hx,?_⟩
  have eg:(if x.side=0 then x.lots else -x.lots)=zu x:=rfl
  rw [eg]
  walk_at "hx"
  refine ⟨L,m,key,x,rfl,hs,hx,?_⟩
  have eg2:(if x.side=0 then x.buyer else x.seller)=(g:Int):=G.eg
  rw [eg2]
  walk_at "hx"
  refine ⟨L,m,x.con,k,g,-zu x,x.price,rfl,hs,hk,G.hg,Nat.lt_trans ho.len (by decide),(show 1≤k.under∧k.under≤(m.prices.length:Int) from wf.und _ _ hk),(show 1≤k.mult∧k.mult≤1000 from wf.mult _ _ hk),⟨by omega,by omega⟩,fun H2 hs2 st2=>?_⟩
  have hx2:gI (zY m x.con k g (-zu x) (zr m k (-zu x) x.price)).trades key=some x:=hx
  have hk2:=yS hk g (-zu x) (zr m k (-zu x) x.price)
  have ho2:=ho.move G.hg (-zu x)
  walk_at "hx"
  rw [G.et]
  refine ⟨L,_,x.con,_,tk,zu x,x.price,rfl,hs2,hk2,by rw [yj];exact G.ht,Nat.lt_trans ho2.len (by decide),(show 1≤k.under∧k.under≤(m.prices.length:Int) from wf.und _ _ hk),(show 1≤k.mult∧k.mult≤1000 from wf.mult _ _ hk),lo,fun H3 hs3 st3=>?_⟩
  have hk3:=yS hk2 tk (zu x) (zr m k (zu x) x.price)
  have ho3:=ho2.move G.ht (zu x)
  walk_at "hx"
  refine ⟨L,_,key,x,rfl,hs3,hx,?_⟩
  obtain ⟨hs4,st4⟩:=hs3.setTrd (key:=key) (x:=x) hx (Y1 x)
  have ht4:=JR (A:=A) hs4 (key:=key) (x:=Y1 x) (by dsimp only;rw [JQ,if_pos rfl])
  walk_at "hx"
  refine ⟨L,_,x.con,_,rfl,hs4,hk3,by dsimp only;rw [yj,yj];exact ⟨ho3.nd,ho3.keys,Nat.lt_trans ho3.len (by decide)⟩,by dsimp only;rw [yj,yj];exact wf.cashN,fun r b' a' dx H5 hs5 st5=>?_⟩
  dsimp only at hs5 st5
  rw [yj,yj] at hs5 st5
  walk_at "hx"
  exact ⟨yy,fun p hp=>q.acc hs5 (((st2.trans st3).trans st4).trans st5) (Zu (by intro z;cases z) (by intro z;cases z) (by intro z;cases z)) e1 r1 hp⟩
noncomputable def zaL (A:Ad):Sp:=fun vs H Q _=>∃ (L:Lay) (m:HouM) (s:Vbchaa.State) (key c b l lots price:Int),vs=[.ref (L.ad .house),.int key,.int c,.int b,.int l,.int lots,.int price]∧Hs A.cs H L m∧Rel m s∧Ok s∧Ans A (.trade key c b l lots price) H L m s Q
theorem zhG (T:Tx K mg A) (z2q:Good P w K mg base 1 A.z1h ["self", "contract", "buyer", "seller", "lots", "price"] (zaa A)) (Ym:Good P w K mg base 4 A.Y3 ["contract"] (z26 A)) (Zy:Good P w K mg base 3 A.Zn ["house", "contract", "account", "lots", "price"] (z27 A)) (z34:Good P w K mg base 3 A.JJ ["house", "key", "c", "buyer", "seller", "lots", "price"] (zaN A)):Good P w K mg base 5 A.JH ["house", "key", "c", "buyer", "seller", "lots", "price"] (zaL A):=by
 refine Good.of T.zlZ z57 (fun _ _ _ _ _ _=>us7 (fun _ _ _ _ _ _ _=>rfl)) (fun vs H Q E h=>?_) (fun cdv A1 outer s0 H vs Q E hr h=>?_)
 ·obtain ⟨L,m,s,key,c,b,l,lots,price,rfl,_⟩:=h;rfl
 ·obtain ⟨L,m,s,key,c,b0,l0,lots,price,rfl,hs,rel,o,q⟩:=h
  have hu:=yQ hr
  refine ⟨_,(z7 (zp (i:=7) z57.nd rfl (Or.inl rfl) (zm z34 hr (by decide) rfl T.JJ (z0 (pv 0) (z0 (pv 1) (z0 (pv 2) (z0 (pv 3) (z0 (pv 4) (z0 (pv 5) (z0 (pv 6) z8))))))))) (z7 (zi (zq Zd (pv 7) (zf (i:=0) T.yV rfl) (zo _)) (za (ze (zA (z0 (pv 7) z8)))) zj) (z7 (zp (i:=8) z57.nd rfl (Or.inl rfl) (zD (zE (K:=K)) (zc (K:=K) (pv 0) rfl) (zz yE (pv 2) zg) (fun _ _=>rfl))) (z7 (zX (zm Zy hr (by decide) rfl T.Zn (z0 (pv 0) (z0 (pv 8) (z0 (pv 3) (z0 (pv 5) (z0 (pv 6) z8))))))) (z7 (zX (zm Zy hr (by decide) rfl T.Zn (z0 (pv 0) (z0 (pv 8) (z0 (pv 4) (z0 (ZY Y2 (pv 5)) (z0 (pv 6) z8))))))) (z7 (z00 hu (zc (K:=K) (pv 0) rfl) (pv 1) (z0X T.zgc z2q hr (by decide) rfl T.zT (z0 (pv 8) (z0 (pv 3) (z0 (pv 4) (z0 (pv 5) (z0 (pv 6) z8)))))) rfl) (z7 (z00 hu (zc (K:=K) (pv 0) rfl) (pv 1) Yc rfl) (z7 (zX (zm Ym hr (by decide) rfl T.Y3 (z0 (pv 8) z8))) (za (ze (zA (z0 zg z8)))))))))))),?_⟩
  have wf:=rel.wf o
  walk_at "hx"
  refine ⟨L,m,key,c,b0,l0,lots,price,rfl,hs,?_⟩
  walk_at "hx"
  refine zW (fun c0=>?_) fun c0=>?_
  ·walk_at "hx"
   exact ⟨yy,fun p hp=>q.ref hs rel (zjy rel o.c c0 o.t.spN) (Same.refl H) hp⟩
  obtain ⟨i,b,l,k,G⟩:=zbS rel o c0
  have hk:=G.at_
  have ho:=wf.heldOk hk
  obtain ⟨S,e1,r1⟩:=G.st
  have lo:=G.rg.2.1
  have hi:=(List.getElem?_eq_some_iff.mp hk).1
  have ec:=G.ec
  walk_at "hx"
  refine YZ hs (show inN m.cons.length c from ⟨by omega,by omega⟩) ?_
  have eci:c.toNat - 1=i:=by omega
  rw [eci]
  walk_at "hx"
  rw [G.eb]
  refine ⟨L,m,i,k,b,lots,price,rfl,hs,hk,G.hb,Nat.lt_trans ho.len (by decide),(show 1≤k.under∧k.under≤(m.prices.length:Int) from wf.und _ _ hk),(show 1≤k.mult∧k.mult≤1000 from wf.mult _ _ hk),⟨by omega,by omega⟩,fun H2 hs2 st2=>?_⟩
  have hk2:=yS hk b lots (zr m k lots price)
  have ho2:=ho.move G.hb lots
  walk_at "hx"
  rw [G.el]
  refine ⟨L,_,i,_,l,-lots,price,rfl,hs2,hk2,by rw [yj];exact G.hl,Nat.lt_trans ho2.len (by decide),(show 1≤k.under∧k.under≤(m.prices.length:Int) from wf.und _ _ hk),(show 1≤k.mult∧k.mult≤1000 from wf.mult _ _ hk),⟨by omega,by omega⟩,fun H3 hs3 st3=>?_⟩
  have hk3:=yS hk2 l (-lots) (zr m k (-lots) price)
  have ho3:=ho2.move G.hl (-lots)
  have hc3:=YY hs3 hk3
  walk_at "hx"
  intro x dx nx nd ne
  have cx:L.ad (.con i)≠x:=zd hc3 nx
  have cd:L.ad (.con i)≠dx:=zd hc3 nd
  have trx:L.ad .tr≠x:=zd hs3.tr nx
  have trd:L.ad .tr≠dx:=zd hs3.tr nd
  have hox:L.ad .house≠x:=zd hs3.house nx
  have hod:L.ad .house≠dx:=zd hs3.house nd
  refine ⟨x,dx,L.ad (.con i),_,_,_,(b:Int),(l:Int),lots,price,_,_,_,_,_,_,_,_,rfl,z9,by rw [z6 cx,z6 cd];exact hc3,cx,rfl,?_⟩
  rw [ye]
  walk_at "hx"
  refine z8u T (by rw [z6 hox,z6 hod];exact Zq hs3) ?_
  walk_at "hx"
  refine z3J (k:=Sum.inl key) (by rw [z6 trx,z6 trd];exact hs3.tr) (by rw [List.length_map];exact Nat.lt_of_le_of_lt wf.trN (by decide)) ?_
  have ep:yB (m.trades.map fun p=>((Sum.inl p.1:Key),V.ref (L.ad (.trd p.1)))) (Sum.inl key) (V.ref x)=(m.trades.map fun p=>(Sum.inl p.1,V.ref (L.ad (.trd p.1)))) ++ [(Sum.inl key,V.ref x)]:=z8e _ (by rw [z2h,G.nt];rfl)
  have ep':yB ((zY (zY m i k b lots (zr m k lots price)) i (zI k b lots) l (-lots) (zr m k (-lots) price)).trades.map fun p=>((Sum.inl p.1:Key),V.ref (L.ad (.trd p.1)))) (Sum.inl key) (V.ref x)=(m.trades.map fun p=>(Sum.inl p.1,V.ref (L.ad (.trd p.1)))) ++ [(Sum.inl key,V.ref x)]:=ep
  rw [show zr (zY m i k b lots (zr m k lots price)) (zI k b lots) (-lots) price=zr m k (-lots) price from rfl]
  rw [ep']
  obtain ⟨hs4,st4⟩:=hs3.newTrd (H':=upd (upd (upd H3 dx (.own x)) x (.ins A.zT dx (zJ (L.ad (.con i)) b l lots price false false 0 0 k.exd))) (L.ad .tr) (.dK ((m.trades.map fun p=>(Sum.inl p.1,V.ref (L.ad (.trd p.1)))) ++ [(Sum.inl key,V.ref x)]))) (key:=key) G.nt
   (t:=⟨i,b,l,lots,price,false,false,0,0,k.exd⟩) (x:=x) (dx:=dx) nx (by rw [z6 (Ne.symm trx),z9];rfl) z9 (fun b' o' e hb'=>by rw [z6 hb',z6 (zd e nx),z6 (zd e nd)];exact e)
  have eh4:(L.put (.trd key) x dx).ad .house=L.ad .house:=yf (by intro z;cases z)
  have ec4:(L.put (.trd key) x dx).ad (.con i)=L.ad (.con i):=yf (by intro z;cases z)
  have es4:(L.put (.trd key) x dx).ad .sp=L.ad .sp:=yf (by intro z;cases z)
  walk_at "hx"
  have hh4:=Zq hs4
  rw [eh4] at hh4
  refine z8t T hh4 ?_
  walk_at "hx"
  refine z3J (kvs:=m.spent.map fun k=>((Sum.inl k:Key),V.bl true)) (k:=Sum.inl key) hs4.sp (by rw [List.length_map];exact Nat.lt_trans G.sn (by decide)) ?_
  have ep2:yB (m.spent.map fun k=>((Sum.inl k:Key),V.bl true)) (Sum.inl key) (V.bl true)=(m.spent ++ [key]).map fun k=>((Sum.inl k:Key),V.bl true):=by
   rw [z8e _ (by rw [zaR,if_neg G.sp]),List.map_append];rfl
  rw [ep2]
  obtain ⟨hs5,st5⟩:=hs4.spend key
  walk_at "hx"
  refine ⟨L.put (.trd key) x dx,_,i,_,by rw [ec4];rfl,hs5,hk3,by dsimp only;rw [yj,yj];exact ⟨ho3.nd,ho3.keys,Nat.lt_trans ho3.len (by decide)⟩,by dsimp only;rw [yj,yj];exact wf.cashN,fun r b' a' dx' H6 hs6 st6=>?_⟩
  dsimp only at hs6 st6
  rw [yj,yj] at hs6 st6
  walk_at "hx"
  refine ⟨yy,fun p hp=>?_⟩
  refine q.acc hs6 ((((st2.trans st3).trans st4).trans st5).trans st6) ?_ e1 r1 hp
  rw [Zu (by intro z;cases z) (by intro z;cases z) (by intro z;cases z)];exact eh4
theorem Hs.setRunA {C:Cs} {H H':Hp} {L:Lay} {m:HouM} {i:Nat} {k:ConM} (h:Hs C H L m) (hk:m.cons[i]?=some k) {R:RunM} (hb:R.base=k.run.base) (e1:H' (L.ad (.run i))=some (.ins C.run (L.own (.run i)) (yZ L i R))) (e2:H' (L.ad (.asg i))=some (.dK (dI R.asg)))
  (fr:∀ b o,H b=some o→b≠L.ad (.run i)→b≠L.ad (.asg i)→H' b=some o):Hs C H' L { m with cons:=m.cons.set i { k with run:=R } }∧Step C H L m H' L { m with cons:=m.cons.set i { k with run:=R } }∧∀ b,yk C L m b→yk C L { m with cons:=m.cons.set i { k with run:=R } } b:=by
 have es:=YC hk { k with run:=R }
 refine ⟨⟨fun n o e=>?_,fun a b ea eb q=>h.inj a b (JU hk ea) (JU hk eb) q⟩,fun b o e hf=>⟨fr b o e (fun z=>hf (.run i) (z7e hk) z.symm) (fun z=>hf (.asg i) (z43 hk) z.symm),fun n hn=>hf n (JU hk hn)⟩,fun b hf n hn=>hf n (JU hk hn)⟩
 by_cases q1:n = .run i
 ·subst q1
  have e:((m.cons.set i { k with run:=R })[i]?).map _=some o:=e
  rw [es] at e
  have e:=Option.some.inj e
  subst e
  exact e1
 by_cases q2:n = .asg i
 ·subst q2
  have e:((m.cons.set i { k with run:=R })[i]?).map _=some o:=e
  rw [es] at e
  have e:=Option.some.inj e
  subst e
  exact e2
 rw [J2 (k':={ k with run:=R }) hk (fun _=>rfl) (fun _=>rfl) (fun z=>absurd z q1) (fun _=>hb) (fun z=>absurd z q2)] at e
 exact fr _ _ (h.at_ n o e) (fun z=>q1 (h.inj n (.run i) (by rw [e];rfl) (z7e hk) z)) (fun z=>q2 (h.inj n (.asg i) (by rw [e];rfl) (z43 hk) z))
noncomputable def zan (A:Ad):Sp:=fun vs H Q _=>∃ (L:Lay) (m:HouM) (s:Vbchaa.State) (a c n:Int),vs=[.ref (L.ad .house),.int a,.int c,.int n]∧Hs A.cs H L m∧Rel m s∧Ok s∧Ans A (.exercise a c n) H L m s Q
theorem zh8 (T:Tx K mg A) (jf:Good P w K mg base 2 A.z0n ["self", "contract", "account", "lots", "money"] (z5d A)) (Zx:Good P w K mg base 1 A.jk ["self", "contract"] (z0T A)) (jU:Good P w K mg base 3 A.YM ["run", "n"] (z5h A)) (z2F:Good P w K mg base 2 A.Jk ["house", "a", "c", "n"] (zao A)) (Yn:Good P w K mg base 1 A.Y4 ["contract", "price"] (z29 A)):Good P w K mg base 4 A.Jj ["house", "a", "c", "n"] (zan A):=by
 refine Good.of T.zls jc (fun _ _ _ _ _ _=>us4 (fun _ _ _ _=>rfl)) (fun vs H Q E h=>?_) (fun cdv A1 outer s0 H vs Q E hr h=>?_)
 ·obtain ⟨L,m,s,a,c,n,rfl,_⟩:=h;rfl
 ·obtain ⟨L,m,s,a,c,n,rfl,hs,rel,o,q⟩:=h
  have hu:=yQ hr
  refine ⟨_,(z7 (zp (i:=4) jc.nd rfl (Or.inl rfl) (zm z2F hr (by decide) rfl T.Jk (z0 (pv 0) (z0 (pv 1) (z0 (pv 2) (z0 (pv 3) z8)))))) (z7 (zi (zq Zd (pv 4) (zf (i:=0) T.yV rfl) (zo _)) (za (ze (zA (z0 (pv 4) z8)))) zj) (z7 (zp (i:=5) jc.nd rfl (Or.inl rfl) (zD (zE (K:=K)) (zc (K:=K) (pv 0) rfl) (zz yE (pv 2) zg) (fun _ _=>rfl))) (z7 (zp (i:=6) jc.nd rfl (Or.inl rfl) (zz ZK (zc (K:=K) (pv 5) rfl) (zm Yn hr (by decide) rfl T.Y4 (z0 (pv 5) (z0 (yh (pv 0) T.zO T.z1v Zx hr (by decide) (z0 (pv 5) z8)) z8))))) (z7 (zX (yh (pv 0) T.zO T.z4d jf hr (by decide) (z0 (pv 5) (z0 (pv 1) (z0 (ZY Y2 (pv 3)) (z0 (zz ZK (pv 3) (pv 6)) z8)))))) (z7 (z5F (K:=K) (pv 5) (pv 3) z1r) (z7 (zp (i:=7) jc.nd rfl (Or.inl rfl) (zA (z0 (zz ZK (pv 3) (pv 6)) z8))) (z7 (zp (i:=8) jc.nd rfl (Or.inl rfl) (zm jU hr (by decide) rfl T.YM (z0 (zc (K:=K) (pv 5) rfl) (z0 (pv 3) z8)))) (z7 (ja (yK PassesOwn.never rfl (z1J (pv 8)) (jS (K:=K) (n:=2) rfl (Zi (y6 (i:=9) jc.nd rfl (Or.inl rfl)) (Zi (y6 (i:=10) jc.nd rfl (Or.inl rfl)) jw))) (z7 (zX (yh (pv 0) T.zO T.z4d jf hr (by decide) (z0 (pv 5) (z0 (pv 9) (z0 (pv 10) (z0 (zz ZK (ZY Y2 (pv 10)) (pv 6)) z8)))))) (z7 (zX (xbm (K:=K) PySem.F.plainAttrs_list PySem.F.slot_list_append PySem.F.type_list_append Yz (pv 7) (z0 (pv 9) z8))) (za (zX (xbm (K:=K) PySem.F.plainAttrs_list PySem.F.slot_list_append PySem.F.type_list_append Yz (pv 7) (z0 (pv 10) z8)))))))) (za (ze (pv 7)))))))))))),?_⟩
  have wf:=rel.wf o
  walk_at "hx"
  refine ⟨L,m,a,c,n,rfl,hs,wf,?_⟩
  walk_at "hx"
  refine zW (fun c0=>?_) fun c0=>?_
  ·walk_at "hx"
   exact ⟨yy,fun p hp=>q.ref hs rel (zjv rel o.c c0) (Same.refl H) hp⟩
  obtain ⟨i,b,nn,k,r,G⟩:=zbP rel o c0
  obtain ⟨ec,ea,en,hk,hb,hn,run,ri,room,und,mu,pay,nw,nl,S,e1,r1⟩:=G
  subst ea en
  have hi:=(List.getElem?_eq_some_iff.mp hk).1
  have ho:HeldK k.held m.cash.length:=⟨wf.hnd _ _ hk,wf.hk _ _ hk⟩
  have hN:=wf.cashN
  walk_at "hx"
  refine YZ hs (show inN m.cons.length c from ⟨by omega,by omega⟩) ?_
  have eci:c.toNat - 1=i:=by omega
  rw [eci]
  walk_at "hx"
  refine ⟨L,m,i,k,rfl,hs,hk,und,?_⟩
  walk_at "hx"
  refine ⟨L,m,i,k,_,rfl,hs,hk,?_⟩
  walk_at "hx"
  refine Zb (.inl ⟨by omega,by omega⟩) ?_
  have epay:k.mult * Zs k (atP m.prices k.under)=zH m k:=rfl
  rw [epay]
  walk_at "hx"
  refine Zb (.inl ⟨by omega,by omega⟩) ?_
  walk_at "hx"
  refine ⟨L,m,i,k,b,-(nn:Int),(nn:Int) * zH m k,rfl,hs,hk,hb,Nat.lt_of_le_of_lt ho.len (by omega),fun H1 hs1 st1=>?_⟩
  have hk1:=yS hk b (-(nn:Int)) ((nn:Int) * zH m k)
  have hc1:=YY hs1 hk1
  walk_at "hx"
  refine z3H hc1 T.zZ T.z4l z7f ?_
  walk_at "hx"
  refine ⟨_,_,hc1,by walk_at "hl",?_⟩
  rw [zic]
  obtain ⟨hs2',st2'⟩:=hs1.setExd hk1 ((zI k b (-(nn:Int))).exd + nn)
  have hk2:=YC hk1 { zI k b (-(nn:Int)) with exd:=(zI k b (-(nn:Int))).exd + nn }
  generalize hg2:upd H1 (L.ad (.con i)) _=H2
  have hs2:Hs A.cs H2 L { zY m i k b (-(nn:Int)) ((nn:Int) * zH m k) with cons:=(zY m i k b (-(nn:Int)) ((nn:Int) * zH m k)).cons.set i { zI k b (-(nn:Int)) with exd:=(zI k b (-(nn:Int))).exd + nn } }:=by rw [← hg2];exact hs2'
  have st2:Step A.cs H1 L (zY m i k b (-(nn:Int)) ((nn:Int) * zH m k)) H2 L { zY m i k b (-(nn:Int)) ((nn:Int) * zH m k) with cons:=(zY m i k b (-(nn:Int)) ((nn:Int) * zH m k)).cons.set i { zI k b (-(nn:Int)) with exd:=(zI k b (-(nn:Int))).exd + nn } }:=by rw [← hg2];exact st2'
  clear hg2 hs2' st2'
  walk_at "hx"
  refine Zb (.inl ⟨by omega,by omega⟩) ?_
  walk_at "hx"
  refine ⟨yy,fun p hp=>?_⟩
  have hs3:=hs2.beside (o:=.lst [V.int ((nn:Int) * zH m k)]) hp
  have hf3:=hs2.free hp
  have st3:=(st1.trans st2).trans (Step.beside (o:=.lst [V.int ((nn:Int) * zH m k)]) hp)
  have np:∀ b' o',H b'=some o'→yk A.cs L m b'→b'≠p:=fun b' o' e f=>zd ((st1.trans st2) b' o' e f).1 hp
  have hr3:=z1n hs3 hk2
  have hb3:=hs3.base hk2
  have ha3:=hs3.asg hk2
  have erun:({ zI k b (-(nn:Int)) with exd:=(zI k b (-(nn:Int))).exd + nn }:ConM).run=zn r:=run
  rw [erun] at hr3 hb3 ha3
  have nba:L.ad (.base i)≠L.ad (.asg i):=fun z=>by
   have z2:=hs.inj (.base i) (.asg i) (by show ((m.cons[i]?).map _).isSome=true;rw [hk];rfl) (z43 hk) z
   cases z2
  walk_at "hx"
  refine ⟨L.ad (.run i),L.ad (.base i),L.ad (.asg i),_,r,m.cash.length,nn,rfl,⟨hr3,hb3,ha3⟩,nba,ri,hN,hn.2,room,fun g H4 ng e4 W4 fr4=>?_⟩
  obtain ⟨_,tb,_⟩:=RunI.at ri room (Nat.le_refl nn)
  obtain ⟨hs4,st4,ff⟩:=hs3.setRunA (H':=H4) hk2 (R:=zn (Vbchaa.assign nn r)) (by rw [erun];show cI _=cI _;rw [tb]) W4.obj W4.asg fr4
  have hg4:=ff g (hs3.free ng)
  have em:({ ({ zY m i k b (-(nn:Int)) ((nn:Int) * zH m k) with cons:=(zY m i k b (-(nn:Int)) ((nn:Int) * zH m k)).cons.set i { zI k b (-(nn:Int)) with exd:=(zI k b (-(nn:Int))).exd + nn } }:HouM) with cons:=((zY m i k b (-(nn:Int)) ((nn:Int) * zH m k)).cons.set i { zI k b (-(nn:Int)) with exd:=(zI k b (-(nn:Int))).exd + nn }).set i { ({ zI k b (-(nn:Int)) with exd:=(zI k b (-(nn:Int))).exd + nn }:ConM) with run:=zn (Vbchaa.assign nn r) } }:HouM)
    = exM (zY m i k b (-(nn:Int)) ((nn:Int) * zH m k)) i (zI k b (-(nn:Int))) (zn (Vbchaa.assign nn r)) nn:=by
   unfold exM;rw [List.set_set]
  rw [em] at hs4 st4 hg4
  have hk4:=z0R (yS hk b (-(nn:Int)) ((nn:Int) * zH m k)) { zI k b (-(nn:Int)) with run:=zn (Vbchaa.assign nn r),exd:=(zI k b (-(nn:Int))).exd + nn }
  obtain ⟨hp4,hf4⟩:=st4.keeps (p:=p) z9 hf3
  have npg:p≠g:=zd z9 ng
  have st5:=st3.trans st4
  have ngH:∀ b' o',H b'=some o'→yk A.cs L m b'→b'≠g:=fun b' o' e f=>zd (st3 b' o' e f).1 ng
  generalize hm4:exM (zY m i k b (-(nn:Int)) ((nn:Int) * zH m k)) i (zI k b (-(nn:Int))) (zn (Vbchaa.assign nn r)) nn=m4 at hs4 st5 r1 hg4 hf4
  have hN4:m4.cash.length=m.cash.length:=by rw [← hm4];exact yj (i:=i) (k:=k) b (-(nn:Int)) ((nn:Int) * zH m k)
  have h4:∃ k,m4.cons[i]?=some k∧HeldK k.held m.cash.length:=by rw [← hm4];exact ⟨_,hk4,ho.move hb _⟩
  clear hm4 hk4 em st4 ff hs3 hs2 st2 st1 st3 hs1 hc1 hk1 hk2 hr3 hb3 ha3 fr4 W4 hf3 ng hp
  generalize hnw:Vbchaa.newly r (Vbchaa.assign nn r)=W at e1 r1 e4 nw nl
  clear hnw
  walk_at "hx"
  refine j0 e4 trivial fun od=>?_
  walk_at "hx"
  refine z1q z9 ?_
  have hN':=hN
  refine z1i (l:=cI W) (fun j σ H'=>∃ rf v w,σ = [some (.ref (L.ad .house)),some (.int b),some (.int c),some (.int nn),rf,some (.ref (L.ad (.con i))),some (.int (zH m k)),some (.ref p),some (.ref g),v,w] ∧
    Hs A.cs H' L (Zc m4 i (W.take j) (zH m k))∧Step A.cs H L m H' L (Zc m4 i (W.take j) (zH m k))∧H' g=some (.frz od (.dK (dI (cI W))))∧yk A.cs L (Zc m4 i (W.take j) (zH m k)) g∧yk A.cs L (Zc m4 i (W.take j) (zH m k)) p ∧
    H' p=some (.lst (((nn:Int) * zH m k :: (W.take j).flatMap fun p=>[(p.1:Int),p.2]).map V.int)))
   ⟨_,none,none,rfl,hs4.updFree hg4,fun b' o' e f=>⟨by rw [z6 (ngH b' o' e f)];exact (st5 b' o' e f).1,(st5 b' o' e f).2⟩,z9,hg4,hf4,by rw [z6 npg];exact hp4⟩ (fun j σ H' ⟨_,_,_,_,_,_,e,_⟩=>e) ?_ ?_
  ·rintro j pr T1 σ H' hj ⟨rf,v',w',rfl,hsj,stj,hgj,fgj,fpj,hpj⟩ hT
   obtain ⟨z,hz,rfl⟩:=z0l hj
   obtain ⟨z1,z2,z3⟩:=nw z (List.mem_of_getElem? hz)
   obtain ⟨kj,hkj,hoj⟩:=z7t (i:=i) (N:=m.cash.length) (zH m k) (W.take j) m4 h4 (fun y hy=>(nw y (List.mem_of_mem_take hy)).1)
   have hNj:(Zc m4 i (W.take j) (zH m k)).cash.length=m.cash.length:=(z7s _ _ _).trans hN4
   have es:Zc m4 i (W.take (j + 1)) (zH m k)=zY (Zc m4 i (W.take j) (zH m k)) i kj z.1 z.2 (-z.2 * zH m k):=by rw [yL hz,zgd,z1y hkj]
   have nTg:g≠T1:=zd hgj hT
   have nTp:p≠T1:=zd hpj hT
   have hsT:=hsj.beside (o:=.tup [V.int z.1,V.int z.2]) hT
   refine jq z9 ?_
   walk_at "hx"
   refine Zb (.inl ⟨by omega,by omega⟩) ?_
   walk_at "hx"
   refine ⟨L,_,i,kj,z.1,z.2,-z.2 * zH m k,rfl,hsT,hkj,by rw [hNj];exact z1,Nat.lt_of_le_of_lt hoj.len (by omega),fun H5 hs5 st5'=>?_⟩
   obtain ⟨hg5,fg5⟩:=st5'.keeps (p:=g) (o:=.frz od (.dK (dI (cI W)))) (by rw [z6 nTg];exact hgj) fgj
   obtain ⟨hp5,fp5⟩:=st5'.keeps (p:=p) (o:=.lst (((nn:Int) * zH m k :: (W.take j).flatMap fun p=>[(p.1:Int),p.2]).map V.int)) (by rw [z6 nTp];exact hpj) fpj
   rw [← es] at hs5 st5' fg5 fp5
   have stT:Step A.cs H L m H5 L (Zc m4 i (W.take (j + 1)) (zH m k)):=(stj.trans (Step.beside hT)).trans st5'
   walk_at "hx"
   refine ⟨Z0 hp5,?_⟩
   walk_at "hx"
   have hlen:((nn:Int) * zH m k :: (W.take j).flatMap fun p=>[(p.1:Int),p.2]).length≤100:=by
    have h1:=Z3 (f:=fun p:Nat × Int=>[(p.1:Int),p.2]) (n:=2) (W.take j) (fun _ _=>by simp)
    rw [List.length_take] at h1
    have h2:=Nat.min_le_right j W.length
    rw [List.length_cons];omega
   refine YB hp5 (by rw [List.length_map];exact Nat.lt_of_le_of_lt hlen (by decide)) ?_
   walk_at "hx"
   refine ⟨Z0 z9,?_⟩
   walk_at "hx"
   refine YB z9 (by rw [List.length_append,List.length_map];exact Nat.lt_of_le_of_lt (Nat.add_le_add_right hlen 1) (by decide)) ?_
   rw [ye]
   refine ⟨_,_,_,rfl,hs5.updFree fp5,fun b' o' e f=>⟨by rw [z6 (np b' o' e f)];exact (stT b' o' e f).1,(stT b' o' e f).2⟩,by rw [z6 (Ne.symm npg)];exact hg5,fg5,fp5,?_⟩
   rw [z9,yL hz,List.flatMap_append]
   simp only [List.map_cons,List.map_append,List.cons_append,List.append_assoc,List.flatMap_cons,List.flatMap_nil,List.map_nil,List.nil_append,List.append_nil]
  ·rintro σ H' ⟨rf,v',w',rfl,hsj,stj,hgj,fgj,fpj,hpj⟩
   refine ⟨hgj,?_⟩
   rw [YH,List.take_length] at hsj stj fgj fpj hpj
   walk_at "hx"
   refine q _ L _ p (hsj.updFree fgj) (fun b' o' e f=>⟨by rw [z6 (ngH b' o' e f)];exact (stj b' o' e f).1,(stj b' o' e f).2⟩) rfl (by rw [e1];exact r1) (by rw [e1,z6 npg];exact hpj) np fpj
noncomputable def AnsQ (ans:List Int) (H:Hp) (Q:VK):Prop:=∀ H' p,Same H H'→H p=none→H' p=some (.lst (ans.map V.int))→Q (.ref p) H'
theorem AnsQ.now {ans:List Int} {H H1:Hp} {Q:VK} {p:Addr} (q:AnsQ ans H Q) (s:Same H H1) (hp:H1 p=none) {xs:List V} (e:xs=ans.map V.int):Q (.ref p) (upd H1 p (.lst xs)) :=
 q _ p (ZM s (s.free hp)) (s.free hp) (by rw [z9,e])
theorem yd {n:Nat} {xs:List V} (h:xs.length≤n) (hn:n≤1000):xs.length≤sizeLine:=Nat.le_trans (Nat.le_trans h hn) (by decide)
noncomputable def z5g (A:Ad):Sp:=fun vs H Q _=>∃ (b:Bool),vs=[.bl b]∧Q (.int (Hx.b2i b)) H
theorem zgW (T:Tx K mg A):Good P w K mg base 1 A.Yt ["holds"] (z5g A):=by
 refine Good.of T.zlg zjX (fun _ _ _ _ _ _=>us1 (fun _=>rfl)) (fun vs H Q E h=>?_) (fun cdv A1 outer s0 H vs Q E hr h=>?_)
 ·obtain ⟨b,rfl,_⟩:=h;rfl
 ·obtain ⟨b,rfl,q⟩:=h
  refine ⟨_,(z7 (zi (zR (pv 0)) (za (ze zg)) zj) (za (ze zg))),?_⟩
  walk_at "hx"
  refine jr (fun c=>?_) fun c=>?_
  ·subst c;walk_at "hx";exact q
  ·subst c;walk_at "hx";exact q
noncomputable def zaG (A:Ad):Sp:=fun vs H Q _=>∃ (L:Lay) (m:HouM) (s:Vbchaa.State) (a c:Int),vs=[.ref (L.ad .house),.int a,.int c]∧Hs A.cs H L m∧Rel m s∧AnsQ (Vbchaa.step s (.position a c)).2 H Q
theorem zhB (T:Tx K mg A) (Z8:Good P w K mg base 1 A.YL ["self", "account"] (z09 A)) (yG:Good P w K mg base 1 A.Yr ["self", "a"] (jd A)) (yN:Good P w K mg base 1 A.Ys ["self", "c"] (jJ A)):Good P w K mg base 2 A.JC ["house", "a", "c"] (zaG A):=by
 refine Good.of T.zlU zkg (fun _ _ _ _ _ _=>us3 (fun _ _ _=>rfl)) (fun vs H Q E h=>?_) (fun cdv A1 outer s0 H vs Q E hr h=>?_)
 ·obtain ⟨L,m,s,a,c,rfl,_⟩:=h;rfl
 ·obtain ⟨L,m,s,a,c,rfl,hs,rel,q⟩:=h
  refine ⟨_,(z7 (zi (yY (PW.pt (jx (zR (yh (pv 0) T.zO T.jt yG hr (by decide) (z0 (pv 1) z8))) (z02 (zR (yh (pv 0) T.zO T.JW yN hr (by decide) (z0 (pv 2) z8))))))) (za (ze (zA (z0 (zf (i:=(-2)) T.Y6 rfl) z8)))) zj) (za (ze (zA (z0 zg (z0 (yh (zD (zE (K:=K)) (zc (K:=K) (pv 0) rfl) (zz yE (pv 2) zg) (fun _ _=>rfl)) T.zZ T.z0D Z8 hr (by decide) (z0 (pv 1) z8)) z8)))))),?_⟩
  walk_at "hx"
  refine ⟨L,m,a,rfl,hs,?_⟩
  walk_at "hx"
  refine zt (fun c2=>?_) fun c2=>?_
  ·walk_at "hx"
   refine ⟨L,m,c,rfl,hs,?_⟩
   walk_at "hx"
   refine zW (fun c3=>?_) fun c3=>?_
   ·rw [z8h rel (fun z=>c3 z.2)] at q
    walk_at "hx"
    exact ⟨yd (n:=1) (Nat.le_refl _) (by decide),fun p hp=>q.now (Same.refl H) hp rfl⟩
   obtain ⟨k,hk⟩:=z0w c3
   rw [ziS rel c2 c3 hk] at q
   walk_at "hx"
   refine YZ hs c3 ?_
   walk_at "hx"
   refine ⟨L,m,_,k,a,rfl,hs,hk,?_⟩
   walk_at "hx"
   exact ⟨yd (n:=2) (Nat.le_refl _) (by decide),fun p hp=>q.now (Same.refl H) hp rfl⟩
  ·refine yW rfl ?_
   rw [z8h rel (fun z=>c2 z.1)] at q
   walk_at "hx"
   exact ⟨yd (n:=1) (Nat.le_refl _) (by decide),fun p hp=>q.now (Same.refl H) hp rfl⟩
structure TupsAt (H:Hp) (rs:List V) (l:List (Int × Int)):Prop where
 len:rs.length=l.length
 at_:∀ (j:Nat) (z:Int × Int),l[j]?=some z→∃ t,rs[j]?=some (.ref t)∧H t=some (.tup [.int z.1,.int z.2])
theorem TupsAt.same {H H':Hp} {rs:List V} {l:List (Int × Int)} (h:TupsAt H rs l) (k:∀ t xs,H t=some (.tup xs)→H' t=some (.tup xs)):TupsAt H' rs l :=
 ⟨h.len,fun j z hz=>by obtain ⟨t,e1,e2⟩:=h.at_ j z hz;exact ⟨t,e1,k t _ e2⟩⟩
theorem TupsAt.snoc {H:Hp} {rs:List V} {l:List (Int × Int)} (h:TupsAt H rs l) {t:Addr} {z:Int × Int} (e:H t=some (.tup [.int z.1,.int z.2])):TupsAt H (rs ++ [.ref t]) (l ++ [z]):=by
 have hl:=h.len
 refine ⟨by rw [List.length_append,List.length_append,hl];rfl,fun j y hy=>?_⟩
 by_cases q:j < l.length
 ·rw [List.getElem?_append_left q] at hy
  obtain ⟨t',e1,e2⟩:=h.at_ j y hy
  exact ⟨t',by rw [List.getElem?_append_left (by omega)];exact e1,e2⟩
 ·have hj:j=l.length:=by
   have:=(List.getElem?_eq_some_iff.mp hy).1
   rw [List.length_append] at this
   simp at this;omega
  subst hj
  rw [List.getElem?_append_right (Nat.le_refl _)] at hy
  simp at hy
  subst hy
  exact ⟨t,by rw [← hl,List.getElem?_append_right (Nat.le_refl _)];simp,e⟩
theorem z0C (m:HouM) (a:Int):∀ n,(yR m a n).length≤n
 | 0=>by simp [yR]
 | n + 1=>by
  show (yR m a n ++ _).length≤_
  rw [List.length_append]
  have:=z0C m a n
  split
  ·split <;> simp <;> omega
  ·simp;omega
noncomputable def z5m (A:Ad):Sp:=fun vs H Q _=>∃ (L:Lay) (m:HouM) (a:Int),vs=[.ref (L.ad .house),.int a]∧Hs A.cs H L m∧Wf m ∧
 ∀ H' p rs,Same H H'→H p=none→H' p=some (.lst rs)→TupsAt H' rs (yR m a m.cons.length)→Q (.ref p) H'
theorem zhm (T:Tx K mg A) (Z8:Good P w K mg base 1 A.YL ["self", "account"] (z09 A)):Good P w K mg base 2 A.YS ["house", "a"] (z5m A):=by
 refine Good.of T.zlG z1W (fun _ _ _ _ _ _=>us2 (fun _ _=>rfl)) (fun vs H Q E h=>?_) (fun cdv A1 outer s0 H vs Q E hr h=>?_)
 ·obtain ⟨L,m,a,rfl,_⟩:=h;rfl
 ·obtain ⟨L,m,a,rfl,hs,wf,q⟩:=h
  refine ⟨_,(z7 (zp (i:=2) z1W.nd rfl (Or.inl rfl) (zA z8)) (z7 (yK PassesOwn.never rfl (Yk (K:=K) (zc (K:=K) (pv 0) rfl)) (y6 (i:=3) z1W.nd rfl (Or.inl rfl)) (z7 (zp (i:=4) z1W.nd rfl (Or.inl rfl) (yh (pv 3) T.zZ T.z0D Z8 hr (by decide) (z0 (pv 1) z8))) (za (zi (zq Zd (pv 4) zg (zo _)) (za (zX (xbm (K:=K) PySem.F.plainAttrs_list PySem.F.slot_list_append PySem.F.type_list_append Yz (pv 2) (z0 (z81 (z0 (zc (K:=K) (pv 3) rfl) (z0 (pv 4) z8))) z8)))) zj)))) (za (ze (pv 2))))),?_⟩
  walk_at "hx"
  refine ⟨Nat.zero_le _,fun p hp=>?_⟩
  have hs1:=hs.beside (o:=.lst []) hp
  walk_at "hx"
  refine Y8 (SqL.of hs1.cl) ?_
  refine Yu (xs:=(List.range m.cons.length).map fun i=>V.ref (L.ad (.con i))) (fun i σ H'=>∃ v w,σ = [some (.ref (L.ad .house)),some (.int a),some (.ref p),v,w]∧Same H H'∧∃ rs,H' p=some (.lst rs)∧TupsAt H' rs (yR m a i))
   ⟨none,none,rfl,yC hp,[],z9,rfl,fun j z hz=>by simp [yR] at hz⟩ (fun i σ H' _ ⟨_,_,_,sm,_⟩=>SqL.of (sm _ _ hs.cl)) ?_ ?_
  ·rintro i x σ H' hi ⟨v',w',rfl,sm,rs,hrs,tu⟩
   have hlt:i < m.cons.length:=by
    have:=(List.getElem?_eq_some_iff.mp hi).1
    rw [List.length_map,List.length_range] at this;exact this
   have ex:x=V.ref (L.ad (.con i)):=by
    rw [List.getElem?_map,List.getElem?_range hlt] at hi
    exact (Option.some.inj hi).symm
   subst ex
   have hk:m.cons[i]?=some m.cons[i]:=List.getElem?_eq_getElem hlt
   generalize m.cons[i]=k at hk
   have hs2:=hs.ofSame sm
   have el:yR m a (i + 1)=yR m a i ++ (if lkI k.held a=0 then [] else [((i:Int) + 1,lkI k.held a)]):=by
    show yR m a i ++ _=_
    rw [hk]
   walk_at "hx"
   refine ⟨L,m,i,k,a,rfl,hs2,hk,?_⟩
   walk_at "hx"
   refine zW (fun c=>?_) fun c=>?_
   ·rw [if_neg c] at el
    walk_at "hx"
    refine ⟨Z0 hrs,?_⟩
    walk_at "hx"
    refine z6Z ?_
    walk_at "hx"
    refine ⟨yd (n:=2) (Nat.le_refl _) (by decide),fun t ht=>?_⟩
    have npt:p≠t:=zd hrs ht
    walk_at "hx"
    refine YB (xs:=rs) (by rw [z6 npt];exact hrs) (by rw [tu.len];exact Nat.lt_of_le_of_lt (Nat.le_trans (z0C m a i) (by have:=wf.conN;omega:i≤12)) (by decide)) ?_
    have sm2:Same H (upd (upd H' t (.tup [.int ((i:Int) + 1),.int (lkI k.held a)])) p (.lst (rs ++ [.ref t]))):=ZM (ZM sm (sm.free ht)) hp
    refine ⟨_,_,rfl,sm2,_,z9,?_⟩
    rw [el]
    refine TupsAt.snoc (tu.same fun t' xs e=>?_) ?_
    ·rw [z6 (yX e hrs (by intro z;cases z)),z6 (zd e ht)];exact e
    ·rw [z6 (Ne.symm npt)];exact z9
   ·rw [if_pos c,List.append_nil] at el
    walk_at "hx"
    refine ⟨_,_,rfl,sm,rs,hrs,?_⟩
    rw [el];exact tu
  ·rintro σ H' ⟨v',w',rfl,sm,rs,hrs,tu⟩
   rw [List.length_map,List.length_range] at tu
   walk_at "hx"
   exact q H' p rs sm hp hrs tu
noncomputable def zaH (A:Ad):Sp:=fun vs H Q _=>∃ (L:Lay) (m:HouM) (s:Vbchaa.State) (a:Int),vs=[.ref (L.ad .house),.int a]∧Hs A.cs H L m∧Rel m s∧Ok s∧AnsQ (Vbchaa.step s (.positions a)).2 H Q
theorem zhC (T:Tx K mg A) (yG:Good P w K mg base 1 A.Yr ["self", "a"] (jd A)) (jZ:Good P w K mg base 2 A.YS ["house", "a"] (z5m A)):Good P w K mg base 3 A.JD ["house", "a"] (zaH A):=by
 refine Good.of T.zlV z20 (fun _ _ _ _ _ _=>us2 (fun _ _=>rfl)) (fun vs H Q E h=>?_) (fun cdv A1 outer s0 H vs Q E hr h=>?_)
 ·obtain ⟨L,m,s,a,rfl,_⟩:=h;rfl
 ·obtain ⟨L,m,s,a,rfl,hs,rel,o,q⟩:=h
  refine ⟨_,(z7 (zi (yY (zR (yh (pv 0) T.zO T.jt yG hr (by decide) (z0 (pv 1) z8)))) (za (ze (zA (z0 (zf (i:=(-2)) T.Y6 rfl) z8)))) zj) (z7 (zp (i:=2) z20.nd rfl (Or.inl rfl) (zA (z0 zg z8))) (z7 (yK PassesOwn.never rfl (Yk (K:=K) (zm jZ hr (by decide) rfl T.YS (z0 (pv 0) (z0 (pv 1) z8)))) (jS (K:=K) (n:=2) rfl (Zi (y6 (i:=3) z20.nd rfl (Or.inl rfl)) (Zi (y6 (i:=4) z20.nd rfl (Or.inl rfl)) jw))) (za (zX (xbm (K:=K) PySem.F.plainAttrs_list PySem.F.slot_list_extend PySem.F.type_list_extend j5 (pv 2) (z0 (zA (z0 (pv 3) (z0 (pv 4) z8))) z8))))) (za (ze (pv 2)))))),?_⟩
  have wf:=rel.wf o
  walk_at "hx"
  refine ⟨L,m,a,rfl,hs,?_⟩
  walk_at "hx"
  refine zW (fun c2=>?_) fun c2=>?_
  ·rw [ziU rel c2] at q
   walk_at "hx"
   exact ⟨yd (n:=1) (Nat.le_refl _) (by decide),fun p hp=>q.now (Same.refl H) hp rfl⟩
  rw [ziT rel o.c c2] at q
  walk_at "hx"
  refine ⟨yd (n:=1) (Nat.le_refl _) (by decide),fun p hp=>?_⟩
  have hs1:=hs.beside (o:=.lst [V.int 0]) hp
  walk_at "hx"
  refine ⟨L,m,a,rfl,hs1,wf,fun H1 p1 rs sm1 np1 hp1 tu=>?_⟩
  have hpp:=sm1 p _ z9
  have npp:p≠p1:=zd z9 np1
  have smH:Same H H1:=(yC hp).trans sm1
  have ll:=z0C m a m.cons.length
  have hcn:=wf.conN
  generalize yR m a m.cons.length=l at tu q ll
  refine Y8 (SqL.of hp1) ?_
  refine Yu (xs:=rs) (fun j σ H'=>∃ v w,σ = [some (.ref (L.ad .house)),some (.int a),some (.ref p),v,w]∧(∀ b o,H1 b=some o→b≠p→H' b=some o)∧H' p=some (.lst ((0 :: (l.take j).flatMap fun z=>[z.1,z.2]).map V.int)))
   ⟨none,none,rfl,fun b o e _=>e,hpp⟩ (fun i σ H' _ ⟨_,_,_,sm,_⟩=>SqL.of (sm _ _ hp1 (Ne.symm npp))) ?_ ?_
  ·rintro j x σ H' hj ⟨v',w',rfl,sm,hpj⟩
   have hjl:j < l.length:=by rw [← tu.len];exact (List.getElem?_eq_some_iff.mp hj).1
   have hz:l[j]?=some l[j]:=List.getElem?_eq_getElem hjl
   generalize l[j]=z at hz
   obtain ⟨t,e1,e2⟩:=tu.at_ j z hz
   rw [hj] at e1
   have e1:=Option.some.inj e1
   subst e1
   refine jq (sm _ _ e2 (yX e2 hpp (by intro y;cases y))) ?_
   walk_at "hx"
   refine ⟨Z0 hpj,?_⟩
   walk_at "hx"
   refine ⟨yd (n:=2) (Nat.le_refl _) (by decide),fun y hy=>?_⟩
   have npy:p≠y:=zd hpj hy
   walk_at "hx"
   refine jb (xs:=(0 :: (l.take j).flatMap fun z=>[z.1,z.2]).map V.int) (by rw [z6 npy];exact hpj) z9 ?_ ?_
   ·rw [List.length_map,List.length_cons]
    have h1:=Z3 (f:=fun z:Int × Int=>[z.1,z.2]) (n:=2) (l.take j) (fun _ _=>by simp)
    rw [List.length_take] at h1
    have h2:=Nat.min_le_right j l.length
    show _ + 2≤sizeLine
    exact Nat.le_trans (by omega:_≤1000) (by decide)
   ·refine ⟨_,_,rfl,fun b o e hb=>?_,?_⟩
    ·rw [z6 hb,z6 (zd (sm b o e hb) hy)];exact sm b o e hb
    ·rw [z9,yL hz,List.flatMap_append]
     simp only [List.map_cons,List.map_append,List.cons_append,List.flatMap_cons,List.flatMap_nil,List.map_nil,List.append_nil]
  ·rintro σ H' ⟨v',w',rfl,sm,hpj⟩
   rw [tu.len,List.take_length] at hpj
   walk_at "hx"
   exact q H' p (fun b o e=>sm b o (smH b o e) (zd e hp)) hp hpj
noncomputable def zaD (A:Ad):Sp:=fun vs H Q _=>∃ (L:Lay) (m:HouM) (s:Vbchaa.State) (a:Int),vs=[.ref (L.ad .house),.int a]∧Hs A.cs H L m∧Rel m s∧AnsQ (Vbchaa.step s (.cash a)).2 H Q
theorem zhy (T:Tx K mg A) (yG:Good P w K mg base 1 A.Yr ["self", "a"] (jd A)):Good P w K mg base 2 A.Jz ["house", "a"] (zaD A):=by
 refine Good.of T.zlR zkf (fun _ _ _ _ _ _=>us2 (fun _ _=>rfl)) (fun vs H Q E h=>?_) (fun cdv A1 outer s0 H vs Q E hr h=>?_)
 ·obtain ⟨L,m,s,a,rfl,_⟩:=h;rfl
 ·obtain ⟨L,m,s,a,rfl,hs,rel,q⟩:=h
  refine ⟨_,(z7 (zi (yY (zR (yh (pv 0) T.zO T.jt yG hr (by decide) (z0 (pv 1) z8)))) (za (ze (zA (z0 (zf (i:=(-2)) T.Y6 rfl) z8)))) zj) (za (ze (zA (z0 zg (z0 (zD (zE (K:=K)) (zc (K:=K) (pv 0) rfl) (zz yE (pv 1) zg) (fun _ _=>rfl)) z8)))))),?_⟩
  walk_at "hx"
  refine ⟨L,m,a,rfl,hs,?_⟩
  walk_at "hx"
  refine zW (fun c2=>?_) fun c2=>?_
  ·rw [ziP rel c2] at q
   walk_at "hx"
   exact ⟨yd (n:=1) (Nat.le_refl _) (by decide),fun p hp=>q.now (Same.refl H) hp rfl⟩
  have hl:a.toNat - 1 < m.cash.length:=by omega
  rw [ziO rel c2 (List.getElem?_eq_getElem hl)] at q
  walk_at "hx"
  refine zV (n:=a.toNat - 1) hs.ca (by omega) (List.getElem?_eq_getElem hl) ?_
  walk_at "hx"
  exact ⟨yd (n:=2) (Nat.le_refl _) (by decide),fun p hp=>q.now (Same.refl H) hp rfl⟩
noncomputable def zaI (A:Ad):Sp:=fun vs H Q _=>∃ (L:Lay) (m:HouM) (s:Vbchaa.State) (c:Int),vs=[.ref (L.ad .house),.int c]∧Hs A.cs H L m∧Rel m s∧Ok s∧AnsQ (Vbchaa.step s (.run c)).2 H Q
theorem zhD (T:Tx K mg A) (yN:Good P w K mg base 1 A.Ys ["self", "c"] (jJ A)):Good P w K mg base 2 A.JE ["house", "c"] (zaI A):=by
 refine Good.of T.zlW z0Q (fun _ _ _ _ _ _=>us2 (fun _ _=>rfl)) (fun vs H Q E h=>?_) (fun cdv A1 outer s0 H vs Q E hr h=>?_)
 ·obtain ⟨L,m,s,c,rfl,_⟩:=h;rfl
 ·obtain ⟨L,m,s,c,rfl,hs,rel,o,q⟩:=h
  have hu:=yQ hr
  refine ⟨_,(z7 (zi (yY (zR (yh (pv 0) T.zO T.JW yN hr (by decide) (z0 (pv 1) z8)))) (za (ze (zA (z0 (zf (i:=(-2)) T.Y6 rfl) z8)))) zj) (z7 (zp (i:=2) z0Q.nd rfl (Or.inl rfl) (zc (K:=K) (zD (zE (K:=K)) (zc (K:=K) (pv 0) rfl) (zz yE (pv 1) zg) (fun _ _=>rfl)) rfl)) (z7 (zp (i:=3) z0Q.nd rfl (Or.inl rfl) (zA (z0 (zc (K:=K) (pv 2) rfl) z8))) (z7 (ja (yK PassesOwn.never rfl (z1J (zc (K:=K) (pv 2) rfl)) (jS (K:=K) (n:=2) rfl (Zi (y6 (i:=4) z0Q.nd rfl (Or.inl rfl)) (Zi (y6 (i:=5) z0Q.nd rfl (Or.inl rfl)) jw))) (za (zX (xbm (K:=K) PySem.F.plainAttrs_list PySem.F.slot_list_extend PySem.F.type_list_extend j5 (pv 3) (z0 (zA (z0 (pv 4) (z0 (pv 5) (z0 (Z5 hu (zc (K:=K) (pv 2) rfl) (pv 4) (fun _ _=>rfl)) z8)))) z8)))))) (za (ze (pv 3))))))),?_⟩
  walk_at "hx"
  refine ⟨L,m,c,rfl,hs,?_⟩
  walk_at "hx"
  refine zW (fun c2=>?_) fun c2=>?_
  ·rw [ziW rel c2] at q
   walk_at "hx"
   exact ⟨yd (n:=1) (Nat.le_refl _) (by decide),fun p hp=>q.now (Same.refl H) hp rfl⟩
  obtain ⟨k,r,hk,er,run,ri⟩:=z4S rel o.c c2
  rw [ziV rel c2 er] at q
  have hr1:=z1n hs hk
  have hb1:=hs.base hk
  have ha1:=hs.asg hk
  rw [run] at hr1 hb1 ha1
  have nl:=Nat.le_trans (z1Q ri) (rel.wf o).cashN
  walk_at "hx"
  refine YZ hs c2 ?_
  walk_at "hx"
  refine ⟨yd (n:=1) (Nat.le_refl _) (by decide),fun p hp=>?_⟩
  generalize eri:L.ad (.run (c.toNat - 1))=pr at hr1
  generalize ebi:L.ad (.base (c.toNat - 1))=pb at hr1 hb1
  generalize eai:L.ad (.asg (c.toNat - 1))=pa at hr1 ha1
  have nrb:pr≠pb:=yX hr1 hb1 (by intro z;cases z)
  have npr:pr≠p:=zd hr1 hp
  have npb:pb≠p:=zd hb1 hp
  have npa:pa≠p:=zd ha1 hp
  have hrp:upd H p (.lst [V.int (zn r).count]) pr=some (.ins A.zN (L.own (.run (c.toNat - 1))) (zQ pb pa (zn r).total (zn r).count)):=by rw [z6 npr];exact hr1
  walk_at "hx"
  refine j0 (d:=pb) (u:=.dK (dI (zn r).base)) (by rw [z6 npb];exact hb1) trivial fun od=>?_
  have hrf:upd (upd H p (.lst [V.int (zn r).count])) pb (.frz od (.dK (dI (zn r).base))) pr=some (.ins A.zN (L.own (.run (c.toNat - 1))) (zQ pb pa (zn r).total (zn r).count)):=by rw [z6 nrb];exact hrp
  have haf:Rd (upd (upd H p (.lst [V.int (zn r).count])) pb (.frz od (.dK (dI (zn r).base)))) pa (.dK (dI (zn r).asg)):=by
   by_cases z:pa=pb
   ·subst z
    rw [hb1] at ha1
    exact .inr ⟨od,by rw [z9,Option.some.inj ha1]⟩
   ·exact .inl (by rw [z6 z,z6 npa];exact ha1)
  walk_at "hx"
  refine z1q z9 ?_
  refine z1i (l:=cI r.base) (fun j σ H'=>∃ v w,σ = [some (.ref (L.ad .house)),some (.int c),some (.ref pr),some (.ref p),v,w]∧(∀ b o,upd (upd H p (.lst [V.int (zn r).count])) pb (.frz od (.dK (dI (zn r).base))) b=some o→b≠p→H' b=some o)∧H' p=some (.lst ((r.count :: (r.base.take j).flatMap fun z=>[(z.1:Int),z.2,look r.assigned z.1]).map V.int)))
   ⟨none,none,rfl,fun b o e _=>e,by rw [z6 (Ne.symm npb)];exact z9⟩ (fun i σ H' ⟨_,_,_,sm,_⟩=>sm _ _ z9 npb) ?_ ?_
  ·rintro j pz T1 σ H' hj ⟨v',w',rfl,sm,hpj⟩ hT
   obtain ⟨z,hz,rfl⟩:=z0l hj
   have hm:=List.mem_of_getElem? hz
   have npT:p≠T1:=zd hpj hT
   have k1:=sm _ _ hrf npr
   have k1':upd H' T1 (.tup [.int z.1,.int z.2]) pr=some (.ins A.zN (L.own (.run (c.toNat - 1))) (zQ pb pa (zn r).total (zn r).count)):=by rw [z6 (zd k1 hT)];exact k1
   have k2:Rd (upd H' T1 (.tup [.int z.1,.int z.2])) pa (.dK (dI (cI r.assigned))):=by
    rcases haf with e | ⟨o',e⟩
    ·have e':=sm _ _ e npa
     exact .inl (by rw [z6 (zd e' hT)];exact e')
    ·have e':=sm _ _ e npa
     exact .inr ⟨o',by rw [z6 (zd e' hT)];exact e'⟩
   refine jq z9 ?_
   walk_at "hx"
   refine ⟨Z0 (by rw [z6 npT];exact hpj),?_⟩
   walk_at "hx"
   refine Yw k2 (z0p ri hm) ?_
   walk_at "hx"
   refine ⟨yd (n:=3) (Nat.le_refl _) (by decide),fun y hy=>?_⟩
   have hpT:upd H' T1 (.tup [.int z.1,.int z.2]) p=some (.lst ((r.count :: (r.base.take j).flatMap fun z=>[(z.1:Int),z.2,look r.assigned z.1]).map V.int)):=by rw [z6 npT];exact hpj
   have npy:p≠y:=zd hpT hy
   walk_at "hx"
   refine jb (xs:=(r.count :: (r.base.take j).flatMap fun z=>[(z.1:Int),z.2,look r.assigned z.1]).map V.int) (by rw [z6 npy];exact hpT) z9 ?_ ?_
   ·rw [List.length_map,List.length_cons]
    have h1:=Z3 (f:=fun z:Nat × Int=>[(z.1:Int),z.2,look r.assigned z.1]) (n:=3) (r.base.take j) (fun _ _=>by simp)
    rw [List.length_take] at h1
    have h2:=Nat.min_le_right j r.base.length
    show _ + 3≤sizeLine
    exact Nat.le_trans (by omega:_≤1000) (by decide)
   ·refine ⟨_,_,rfl,fun b o e hb=>?_,?_⟩
    ·have e':=sm b o e hb
     have e'':upd H' T1 (.tup [.int z.1,.int z.2]) b=some o:=by rw [z6 (zd e' hT)];exact e'
     rw [z6 hb,z6 (zd e'' hy)];exact e''
    ·rw [z9,yL hz,List.flatMap_append]
     simp only [List.map_cons,List.map_append,List.cons_append,List.flatMap_cons,List.flatMap_nil,List.map_nil,List.append_nil]
  ·rintro σ H' ⟨v',w',rfl,sm,hpj⟩
   refine ⟨sm _ _ z9 npb,?_⟩
   rw [YH,List.take_length] at hpj
   walk_at "hx"
   refine q _ p (fun b o e=>?_) hp (by rw [z6 (Ne.symm npb)];exact hpj)
   by_cases z:b=pb
   ·subst z;rw [z9];rw [hb1] at e;exact e
   ·rw [z6 z]
    exact sm b o (by rw [z6 z,z6 (zd e hp)];exact e) (zd e hp)
noncomputable def zaK (A:Ad):Sp:=fun vs H Q _=>∃ (L:Lay) (m:HouM) (s:Vbchaa.State) (c n:Int),vs=[.ref (L.ad .house),.int c,.int n]∧Hs A.cs H L m∧Rel m s∧Ok s∧AnsQ (Vbchaa.step s (.wouldAssign c n)).2 H Q
theorem zhF (T:Tx K mg A) (z38:Good P w K mg base 2 A.JN ["house", "c", "n"] (zaS A)) (z39:Good P w K mg base 4 A.JO ["run", "n"] (zaT A)):Good P w K mg base 5 A.JG ["house", "c", "n"] (zaK A):=by
 refine Good.of T.zlY z07 (fun _ _ _ _ _ _=>us3 (fun _ _ _=>rfl)) (fun vs H Q E h=>?_) (fun cdv A1 outer s0 H vs Q E hr h=>?_)
 ·obtain ⟨L,m,s,c,n,rfl,_⟩:=h;rfl
 ·obtain ⟨L,m,s,c,n,rfl,hs,rel,o,q⟩:=h
  refine ⟨_,(z7 (zp (i:=3) z07.nd rfl (Or.inl rfl) (zm z38 hr (by decide) rfl T.JN (z0 (pv 0) (z0 (pv 1) (z0 (pv 2) z8))))) (z7 (zi (zq Zd (pv 3) (zf (i:=0) T.yV rfl) (zo _)) (za (ze (zA (z0 (pv 3) z8)))) zj) (z7 (zp (i:=4) z07.nd rfl (Or.inl rfl) (zA (z0 zg z8))) (z7 (zp (i:=5) z07.nd rfl (Or.inl rfl) (zm z39 hr (by decide) rfl T.JO (z0 (zc (K:=K) (zD (zE (K:=K)) (zc (K:=K) (pv 0) rfl) (zz yE (pv 1) zg) (fun _ _=>rfl)) rfl) (z0 (pv 2) z8)))) (z7 (ja (yK PassesOwn.never rfl (z1J (pv 5)) (jS (K:=K) (n:=2) rfl (Zi (y6 (i:=6) z07.nd rfl (Or.inl rfl)) (Zi (y6 (i:=7) z07.nd rfl (Or.inl rfl)) jw))) (za (zX (xbm (K:=K) PySem.F.plainAttrs_list PySem.F.slot_list_extend PySem.F.type_list_extend j5 (pv 4) (z0 (zA (z0 (pv 6) (z0 (pv 7) z8))) z8)))))) (za (ze (pv 4)))))))),?_⟩
  walk_at "hx"
  refine ⟨L,m,c,n,rfl,hs,?_⟩
  walk_at "hx"
  refine zW (fun c2=>?_) fun c2=>?_
  ·rw [zjC rel o.c c2] at q
   walk_at "hx"
   exact ⟨yd (n:=1) (Nat.le_refl _) (by decide),fun p hp=>q.now (Same.refl H) hp rfl⟩
  obtain ⟨i,nn,k,r,G⟩:=zbV rel o.c c2
  obtain ⟨ec,en,hk,hn,run,ri,room,nl,e1⟩:=G
  subst en
  rw [e1] at q
  have hi:=(List.getElem?_eq_some_iff.mp hk).1
  walk_at "hx"
  refine ⟨yd (n:=1) (Nat.le_refl _) (by decide),fun p hp=>?_⟩
  have hs1:=hs.beside (o:=.lst [V.int 0]) hp
  have hr1:=z1n hs1 hk
  have hb1:=hs1.base hk
  have ha1:=hs1.asg hk
  rw [run] at hr1 hb1 ha1
  walk_at "hx"
  refine YZ hs1 (show inN m.cons.length c from ⟨by omega,by omega⟩) ?_
  have eci:c.toNat - 1=i:=by omega
  rw [eci]
  walk_at "hx"
  refine ⟨_,_,_,_,r,m.cash.length,nn,rfl,⟨hr1,hb1,ha1⟩,ri,(rel.wf o).cashN,hn.2,room,fun g H1 ng hg sm1=>?_⟩
  have hpp:=sm1 p _ z9
  have npg:p≠g:=zd z9 ng
  have smH:Same H H1:=(yC hp).trans sm1
  have ngH:H g=none:=(yC (o:=.lst [V.int 0]) hp).free ng
  generalize Vbchaa.newly r (Vbchaa.assign nn r)=W at q hg nl
  walk_at "hx"
  refine j0 hg trivial fun od=>?_
  walk_at "hx"
  refine z1q z9 ?_
  refine z1i (l:=cI W) (fun j σ H'=>∃ rf v w,σ = [some (.ref (L.ad .house)),some (.int c),some (.int nn),rf,some (.ref p),some (.ref g),v,w]∧(∀ b o,upd H1 g (.frz od (.dK (dI (cI W)))) b=some o→b≠p→H' b=some o)∧H' p=some (.lst ((0 :: (W.take j).flatMap fun z=>[(z.1:Int),z.2]).map V.int)))
   ⟨_,none,none,rfl,fun b o e _=>e,by rw [z6 npg];exact hpp⟩ (fun i σ H' ⟨_,_,_,_,sm,_⟩=>sm _ _ z9 (Ne.symm npg)) ?_ ?_
  ·rintro j pz T1 σ H' hj ⟨rf,v',w',rfl,sm,hpj⟩ hT
   obtain ⟨z,hz,rfl⟩:=z0l hj
   have npT:p≠T1:=zd hpj hT
   have hpT:upd H' T1 (.tup [.int z.1,.int z.2]) p=some (.lst ((0 :: (W.take j).flatMap fun z=>[(z.1:Int),z.2]).map V.int)):=by rw [z6 npT];exact hpj
   refine jq z9 ?_
   walk_at "hx"
   refine ⟨Z0 hpT,?_⟩
   walk_at "hx"
   refine ⟨yd (n:=2) (Nat.le_refl _) (by decide),fun y hy=>?_⟩
   have npy:p≠y:=zd hpT hy
   walk_at "hx"
   refine jb (xs:=(0 :: (W.take j).flatMap fun z=>[(z.1:Int),z.2]).map V.int) (by rw [z6 npy];exact hpT) z9 ?_ ?_
   ·rw [List.length_map,List.length_cons]
    have h1:=Z3 (f:=fun z:Nat × Int=>[(z.1:Int),z.2]) (n:=2) (W.take j) (fun _ _=>by simp)
    rw [List.length_take] at h1
    have h2:=Nat.min_le_right j W.length
    show _ + 2≤sizeLine
    exact Nat.le_trans (by omega:_≤1000) (by decide)
   ·refine ⟨_,_,_,rfl,fun b o e hb=>?_,?_⟩
    ·have e':=sm b o e hb
     have e'':upd H' T1 (.tup [.int z.1,.int z.2]) b=some o:=by rw [z6 (zd e' hT)];exact e'
     rw [z6 hb,z6 (zd e'' hy)];exact e''
    ·rw [z9,yL hz,List.flatMap_append]
     simp only [List.map_cons,List.map_append,List.cons_append,List.flatMap_cons,List.flatMap_nil,List.map_nil,List.append_nil]
  ·rintro σ H' ⟨rf,v',w',rfl,sm,hpj⟩
   refine ⟨sm _ _ z9 (Ne.symm npg),?_⟩
   rw [YH,List.take_length] at hpj
   walk_at "hx"
   refine q _ p (fun b o e=>?_) hp (by rw [z6 npg];exact hpj)
   have nbg:b≠g:=zd e ngH
   rw [z6 nbg]
   exact sm b o (by rw [z6 nbg];exact smH b o e) (zd e hp)
noncomputable def zaF (A:Ad):Sp:=fun vs H Q _=>∃ (L:Lay) (m:HouM) (s:Vbchaa.State) (c:Int),vs=[.ref (L.ad .house),.int c]∧Hs A.cs H L m∧Rel m s∧AnsQ (Vbchaa.step s (.open_ c)).2 H Q
theorem zhA (T:Tx K mg A) (yN:Good P w K mg base 1 A.Ys ["self", "c"] (jJ A)):Good P w K mg base 2 A.JB ["house", "c"] (zaF A):=by
 refine Good.of T.zlT z1Z (fun _ _ _ _ _ _=>us2 (fun _ _=>rfl)) (fun vs H Q E h=>?_) (fun cdv A1 outer s0 H vs Q E hr h=>?_)
 ·obtain ⟨L,m,s,c,rfl,_⟩:=h;rfl
 ·obtain ⟨L,m,s,c,rfl,hs,rel,q⟩:=h
  refine ⟨_,(z7 (zi (yY (zR (yh (pv 0) T.zO T.JW yN hr (by decide) (z0 (pv 1) z8)))) (za (ze (zA (z0 (zf (i:=(-2)) T.Y6 rfl) z8)))) zj) (z7 (zp (i:=2) z1Z.nd rfl (Or.inl rfl) zg) (z7 (ja (yK PassesOwn.never rfl (zix (zc (K:=K) (zD (zE (K:=K)) (zc (K:=K) (pv 0) rfl) (zz yE (pv 1) zg) (fun _ _=>rfl)) rfl)) (y6 (i:=3) z1Z.nd rfl (Or.inl rfl)) (za (zi (zq jv (pv 3) zg (zo _)) (za (ziD (i:=2) z1Z.nd rfl (Or.inl rfl) (pv 3) zeX)) zj)))) (za (ze (zA (z0 (pv 2) z8))))))),?_⟩
  walk_at "hx"
  refine ⟨L,m,c,rfl,hs,?_⟩
  walk_at "hx"
  refine zW (fun c2=>?_) fun c2=>?_
  ·rw [ziR rel c2] at q
   walk_at "hx"
   exact ⟨yd (n:=1) (Nat.le_refl _) (by decide),fun p hp=>q.now (Same.refl H) hp rfl⟩
  obtain ⟨k,hk⟩:=z0w c2
  rw [ziQ rel c2 hk] at q
  have hh:=hs.held hk
  have hc:=YY hs hk
  generalize eh:L.ad (.held (c.toNat - 1))=ph at hh hc
  have ncl:L.ad .cl≠ph:=yX hs.cl hh (by intro z;cases z)
  have nho:L.ad .house≠ph:=yX (Zq hs) hh (by intro z;cases z)
  have nco:L.ad (.con (c.toNat - 1))≠ph:=yX hc hh (by intro z;cases z)
  walk_at "hx"
  refine j0 hh trivial fun od=>?_
  walk_at "hx"
  refine z8s T (by rw [z6 nho];exact Zq hs) ?_
  walk_at "hx"
  have h1:=c2.1
  refine z0u (SqL.of (by rw [z6 ncl];exact hs.cl)) (k:=c.toNat - 1) (by omega) (by rw [List.getElem?_map,List.getElem?_range (by omega)];rfl) ?_
  walk_at "hx"
  refine z4P T (by rw [z6 nco];exact hc) ?_
  walk_at "hx"
  refine zeT z9 ?_
  refine zda (l:=k.held) (fun j σ H'=>∃ v,σ = [some (.ref (L.ad .house)),some (.int c),some (.int (ZX (k.held.take j))),v]∧H'=upd H ph (.frz od (.dK (dI k.held)))) ⟨none,rfl,rfl⟩ (fun i σ H' ⟨_,_,e⟩=>by rw [e];exact z9) ?_ ?_
  ·rintro j z σ H' hz ⟨v',rfl,rfl⟩
   have es:ZX (k.held.take (j + 1))=if z.2 < 0 then ZX (k.held.take j) - z.2 else ZX (k.held.take j):=by
    rw [yL hz];unfold ZX;rw [List.foldl_append];rfl
   walk_at "hx"
   refine zt (fun c3=>?_) fun c3=>?_
   ·rw [if_pos c3] at es
    walk_at "hx"
    refine ⟨some (.int z.2),?_,rfl⟩
    rw [es];rfl
   ·rw [if_neg c3] at es
    walk_at "hx"
    refine ⟨some (.int z.2),?_,rfl⟩
    rw [es];rfl
  ·rintro σ H' ⟨v',rfl,rfl⟩
   refine ⟨z9,?_⟩
   rw [zbv hh,List.take_length]
   walk_at "hx"
   exact ⟨yd (n:=1) (Nat.le_refl _) (by decide),fun p hp=>q.now (Same.refl H) hp rfl⟩
noncomputable def zaz (A:Ad):Sp:=fun vs H Q _=>∃ (L:Lay) (m:HouM) (key:Int) (x:TrdM),vs=[.ref (L.ad (.trd key))]∧Hs A.cs H L m∧gI m.trades key=some x∧AnsQ (ju x) H Q
theorem zhr (T:Tx K mg A):Good P w K mg base 1 A.Jv ["deal"] (zaz A):=by
 refine Good.of T.zlL zkc (fun _ _ _ _ _ _=>us1 (fun _=>rfl)) (fun vs H Q E h=>?_) (fun cdv A1 outer s0 H vs Q E hr h=>?_)
 ·obtain ⟨L,m,key,x,rfl,_⟩:=h;rfl
 ·obtain ⟨L,m,key,x,rfl,hs,hx,q⟩:=h
  refine ⟨_,(z7 (zi (zq zL (zc (K:=K) (pv 0) rfl) zg (zo _)) (za (ze (zA (z0 (zf (i:=0) T.zdw rfl) (z0 zg z8))))) zj) (z7 (zi (zq zL (zc (K:=K) (pv 0) rfl) (zf (i:=0) T.z0q rfl) (zo _)) (za (ze (zA (z0 (zf (i:=1) T.zdg rfl) (z0 (zc (K:=K) (pv 0) rfl) z8))))) zj) (za (ze (zA (z0 (zf (i:=2) T.zdF rfl) (z0 (zc (K:=K) (pv 0) rfl) z8))))))),?_⟩
  unfold ju at q
  walk_at "hx"
  refine zt (fun c1=>?_) fun c1=>?_
  ·rw [if_pos c1] at q
   walk_at "hx"
   exact ⟨yd (n:=2) (Nat.le_refl _) (by decide),fun p hp=>q.now (Same.refl H) hp rfl⟩
  rw [if_neg c1] at q
  walk_at "hx"
  refine zt (fun c2=>?_) fun c2=>?_
  ·rw [if_pos c2] at q
   walk_at "hx"
   exact ⟨yd (n:=2) (Nat.le_refl _) (by decide),fun p hp=>q.now (Same.refl H) hp rfl⟩
  ·rw [if_neg c2] at q
   walk_at "hx"
   exact ⟨yd (n:=2) (Nat.le_refl _) (by decide),fun p hp=>q.now (Same.refl H) hp rfl⟩
noncomputable def zaO (A:Ad):Sp:=fun vs H Q _=>∃ (L:Lay) (m:HouM) (key:Int) (x:TrdM),vs=[.int key,.ref (L.ad (.trd key))]∧Hs A.cs H L m∧gI m.trades key=some x∧(∃ k,m.cons[x.con]?=some k)∧AnsQ (YE key x) H Q
theorem zhJ (T:Tx K mg A) (jg:Good P w K mg base 1 A.Yt ["holds"] (z5g A)) (z2Q:Good P w K mg base 1 A.Jv ["deal"] (zaz A)):Good P w K mg base 2 A.JK ["key", "deal"] (zaO A):=by
 refine Good.of T.zm2 z9X (fun _ _ _ _ _ _=>us2 (fun _ _=>rfl)) (fun vs H Q E h=>?_) (fun cdv A1 outer s0 H vs Q E hr h=>?_)
 ·obtain ⟨L,m,key,x,rfl,_⟩:=h;rfl
 ·obtain ⟨L,m,key,x,rfl,hs,hx,⟨k,hk⟩,q⟩:=h
  refine ⟨_,(z7 (zp (i:=2) z9X.nd rfl (Or.inl rfl) (zA (z0 (pv 0) (z0 (zc (K:=K) (zc (K:=K) (pv 1) rfl) rfl) (z0 (zc (K:=K) (pv 1) rfl) (z0 (zc (K:=K) (pv 1) rfl) (z0 (zc (K:=K) (pv 1) rfl) (z0 (zc (K:=K) (pv 1) rfl) z8)))))))) (za (ze (zz z0K (zz z0K (pv 2) (zA (z0 (zm jg hr (by decide) rfl T.Yt (z0 (zc (K:=K) (pv 1) rfl) z8)) (z0 (zm jg hr (by decide) rfl T.Yt (z0 (zc (K:=K) (pv 1) rfl) z8)) z8)))) (zm z2Q hr (by decide) rfl T.Jv (z0 (pv 1) z8)))))),?_⟩
  walk_at "hx"
  refine ⟨yd (n:=6) (Nat.le_refl _) (by decide),fun p1 h1=>?_⟩
  have hs1:=hs.beside (o:=.lst [V.int key,V.int ((x.con:Int) + 1),V.int x.buyer,V.int x.seller,V.int x.lots,V.int x.price]) h1
  walk_at "hx"
  refine ⟨x.yb,rfl,?_⟩
  walk_at "hx"
  refine ⟨x.ys,rfl,?_⟩
  walk_at "hx"
  refine ⟨yd (n:=2) (Nat.le_refl _) (by decide),fun p2 h2=>?_⟩
  have n12:p1≠p2:=zd z9 h2
  refine z0P (by rw [z6 n12];exact z9) z9 (by show 6 + 2≤sizeLine;decide) fun p3 h3=>?_
  have s3:Same H (upd (upd (upd H p1 (.lst [V.int key,V.int ((x.con:Int) + 1),V.int x.buyer,V.int x.seller,V.int x.lots,V.int x.price])) p2 (.lst [V.int (Hx.b2i x.yb),V.int (Hx.b2i x.ys)])) p3 (.lst ([V.int key,V.int ((x.con:Int) + 1),V.int x.buyer,V.int x.seller,V.int x.lots,V.int x.price] ++ [V.int (Hx.b2i x.yb),V.int (Hx.b2i x.ys)]))) :=
   ((yC h1).trans (yC h2)).trans (yC h3)
  have hs3:=hs.ofSame s3
  walk_at "hx"
  refine ⟨L,m,key,x,rfl,hs3,hx,fun H4 p4 s4 n4 e4=>?_⟩
  refine z0P (s4 _ _ z9) e4 ?_ fun p5 h5=>?_
  ·have:(ju x).length=2:=by unfold ju;split;rfl;split <;> rfl
   rw [List.length_map,this];show 8 + 2≤sizeLine;decide
  ·refine q.now (s3.trans s4) h5 ?_
   unfold YE
   rw [List.map_append];rfl
noncomputable def zaJ (A:Ad):Sp:=fun vs H Q _=>∃ (L:Lay) (m:HouM) (s:Vbchaa.State),vs=[.ref (L.ad .house)]∧Hs A.cs H L m∧Rel m s∧Ok s∧AnsQ (Vbchaa.step s .trades).2 H Q
theorem zbo (key:Int) (x:TrdM):(YE key x).length=10:=by unfold YE ju;split;rfl;split <;> rfl
theorem zkM (m:HouM) (l:List Int):(YF m l).length≤l.length * 10:=by
 unfold YF
 refine Z3 l fun x _=>?_
 cases gI m.trades x with
 | none=>simp
 | some y=>dsimp only;rw [zbo];exact Nat.le_refl _
theorem zhE (T:Tx K mg A) (z35:Good P w K mg base 2 A.JK ["key", "deal"] (zaO A)):Good P w K mg base 3 A.JF ["house"] (zaJ A):=by
 refine Good.of T.zlX z56 (fun _ _ _ _ _ _=>us1 (fun _=>rfl)) (fun vs H Q E h=>?_) (fun cdv A1 outer s0 H vs Q E hr h=>?_)
 ·obtain ⟨L,m,s,rfl,_⟩:=h;rfl
 ·obtain ⟨L,m,s,rfl,hs,rel,o,q⟩:=h
  have hu:=yQ hr
  refine ⟨_,(z7 (zp (i:=1) z56.nd rfl (Or.inl rfl) (zA (z0 zg z8))) (z7 (yK PassesOwn.never rfl (Yk (K:=K) (yn (z6a rfl) rfl T.z60 z69 (z0 (zc (K:=K) (pv 0) rfl) z8))) (y6 (i:=2) z56.nd rfl (Or.inl rfl)) (za (zX (xbm (K:=K) PySem.F.plainAttrs_list PySem.F.slot_list_extend PySem.F.type_list_extend j5 (pv 1) (z0 (zm z35 hr (by decide) rfl T.JK (z0 (pv 2) (z0 (Z5 hu (zc (K:=K) (pv 0) rfl) (pv 2) (fun _ _=>rfl)) z8))) z8))))) (za (ze (pv 1))))),?_⟩
  have wf:=rel.wf o
  walk_at "hx"
  refine ⟨yd (n:=1) (Nat.le_refl _) (by decide),fun p hp=>?_⟩
  have hs1:=hs.beside (o:=.lst [V.int 0]) hp
  walk_at "hx"
  refine ⟨_,_,m.trades.map (·.1),rfl,.inl hs1.tr,by rw [List.map_map,List.map_map];rfl,by rw [List.length_map];have:=wf.trN;omega,fun ns t hperm hsort ht=>?_⟩
  have npt:p≠t:=zd z9 ht
  have smt:Same H (upd (upd H p (.lst [V.int 0])) t (.lst (ns.map V.int))):=(yC hp).trans (yC ht)
  have htn:H t=none:=(yC (o:=.lst [V.int 0]) hp).free ht
  rw [ziY rel o.t hperm hsort] at q
  have hln:ns.length≤60:=by rw [hperm.length_eq,List.length_map];exact wf.trN
  refine Y8 (SqL.of z9) ?_
  refine Yu (xs:=ns.map V.int) (fun j σ H'=>∃ v,σ = [some (.ref (L.ad .house)),some (.ref p),v]∧(∀ b o,upd (upd H p (.lst [V.int 0])) t (.lst (ns.map V.int)) b=some o→b≠p→H' b=some o)∧H' p=some (.lst ((0 :: YF m (ns.take j)).map V.int)))
   ⟨none,rfl,fun b o e _=>e,by rw [z6 npt];exact z9⟩ (fun i σ H' _ ⟨_,_,sm,_⟩=>SqL.of (sm _ _ z9 (Ne.symm npt))) ?_ ?_
  ·rintro j y σ H' hj ⟨v',rfl,sm,hpj⟩
   rw [List.getElem?_map] at hj
   cases hz:ns[j]? with
   | none=>rw [hz] at hj;cases hj
   | some key=>
    rw [hz] at hj
    have hj:=(Option.some.inj hj).symm
    subst hj
    have smj:Same H H':=fun b o e=>sm b o (smt b o e) (zd e hp)
    have hs2:=hs.ofSame smj
    have hkey:key∈m.trades.map (·.1):=hperm.mem_iff.mp (List.mem_of_getElem? hz)
    cases hx:gI m.trades key with
    | none=>exact absurd hkey (Zp.mp hx)
    | some x=>
     walk_at "hx"
     refine ⟨Z0 hpj,?_⟩
     walk_at "hx"
     refine jp hs2 hx ?_
     walk_at "hx"
     refine ⟨L,m,key,x,rfl,hs2,hx,wf.trd key x hx,fun H3 p3 s3 n3 e3=>?_⟩
     have hp3:=s3 _ _ hpj
     have es:YF m (ns.take (j + 1))=YF m (ns.take j) ++ YE key x:=by
      unfold YF
      rw [yL hz,List.flatMap_append]
      congr 1
      show (match gI m.trades key with | some x=>YE key x | none=>[]) ++ []=_
      rw [hx,List.append_nil]
     walk_at "hx"
     refine jb hp3 e3 ?_ ?_
     ·rw [List.length_map,List.length_map,List.length_cons,zbo]
      have h1:=zkM m (ns.take j)
      rw [List.length_take] at h1
      have h2:=Nat.min_le_right j ns.length
      exact Nat.le_trans (by omega:_≤1000) (by decide)
     ·refine ⟨_,rfl,fun b o e hb=>?_,?_⟩
      ·rw [z6 hb];exact s3 b o (sm b o e hb)
      ·rw [z9,es,← List.map_append];rfl
  ·rintro σ H' ⟨v',rfl,sm,hpj⟩
   rw [List.length_map,List.take_length] at hpj
   walk_at "hx"
   exact q H' p (fun b o e=>sm b o (smt b o e) (zd e hp)) hp hpj
noncomputable def zaj (A:Ad):Sp:=fun vs H Q _=>∃ (L:Lay) (m:HouM) (i:Nat) (k:ConM),vs=[.ref (L.ad (.con i))]∧Hs A.cs H L m∧m.cons[i]?=some k∧AnsQ (ZB k) H Q
theorem zh2 (T:Tx K mg A) (jg:Good P w K mg base 1 A.Yt ["holds"] (z5g A)):Good P w K mg base 2 A.Jf ["contract"] (zaj A):=by
 refine Good.of T.zlm z9P (fun _ _ _ _ _ _=>us1 (fun _=>rfl)) (fun vs H Q E h=>?_) (fun cdv A1 outer s0 H vs Q E hr h=>?_)
 ·obtain ⟨L,m,i,k,rfl,_⟩:=h;rfl
 ·obtain ⟨L,m,i,k,rfl,hs,hk,q⟩:=h
  refine ⟨_,(z7 (zp (i:=1) z9P.nd rfl (Or.inl rfl) (zA (z0 (zc (K:=K) (pv 0) rfl) (z0 (zc (K:=K) (pv 0) rfl) (z0 (zc (K:=K) (pv 0) rfl) (z0 (zc (K:=K) (pv 0) rfl) (z0 (zc (K:=K) (pv 0) rfl) z8))))))) (za (ze (zz z0K (pv 1) (zA (z0 (zm jg hr (by decide) rfl T.Yt (z0 (zc (K:=K) (pv 0) rfl) z8)) z8)))))),?_⟩
  walk_at "hx"
  refine ⟨yd (n:=5) (Nat.le_refl _) (by decide),fun p1 h1=>?_⟩
  have hs1:=hs.beside (o:=.lst [V.int k.kind,V.int k.under,V.int k.strike,V.int k.mult,V.int k.expiry]) h1
  walk_at "hx"
  refine ⟨k.over,rfl,?_⟩
  walk_at "hx"
  refine ⟨yd (n:=1) (Nat.le_refl _) (by decide),fun p2 h2=>?_⟩
  have n12:p1≠p2:=zd z9 h2
  refine z0P (by rw [z6 n12];exact z9) z9 (by show 5 + 1≤sizeLine;decide) fun p3 h3=>?_
  exact q.now ((yC h1).trans (yC h2)) h3 rfl
theorem z8A (m:HouM) (hc:m.cons.length≤12):∀ n,(Zt m n).length≤n * 36
 | 0=>by simp [Zt]
 | n + 1=>by
  show (Zt m n ++ _).length≤_
  rw [List.length_append]
  have h1:=z8A m hc n
  have h2:=Z3 (f:=fun p:Int × Int=>[(n:Int) + 1,p.1,p.2]) (n:=3) (yR m ((n:Int) + 1) m.cons.length) (fun _ _=>by simp)
  have h3:=z0C m ((n:Int) + 1) m.cons.length
  omega
theorem z6h (m:List ConM):(m.flatMap ZB).length≤m.length * 6:=Z3 m fun _ _=>by unfold ZB;simp
noncomputable def Yg (m:HouM):List Int:=[m.turn,(m.prices.length:Int)] ++ m.prices ++ [(m.cons.length:Int)]
noncomputable def ZZ (m:HouM):List Int:=Yg m ++ m.cons.flatMap ZB ++ [(m.cash.length:Int)] ++ m.cash
theorem zkJ (m:HouM):z2d m=ZZ m ++ Zt m m.cash.length:=by
 unfold z2d ZZ Yg
 simp only [List.cons_append,List.append_assoc,List.nil_append]
noncomputable def zaE (A:Ad):Sp:=fun vs H Q _=>∃ (L:Lay) (m:HouM) (s:Vbchaa.State),vs=[.ref (L.ad .house)]∧Hs A.cs H L m∧Rel m s∧Ok s∧AnsQ (Vbchaa.step s .told).2 H Q
theorem zhz (T:Tx K mg A) (z2A:Good P w K mg base 2 A.Jf ["contract"] (zaj A)) (jZ:Good P w K mg base 2 A.YS ["house", "a"] (z5m A)):Good P w K mg base 3 A.JA ["house"] (zaE A):=by
 refine Good.of T.zlS z06 (fun _ _ _ _ _ _=>us1 (fun _=>rfl)) (fun vs H Q E h=>?_) (fun cdv A1 outer s0 H vs Q E hr h=>?_)
 ·obtain ⟨L,m,s,rfl,_⟩:=h;rfl
 ·obtain ⟨L,m,s,rfl,hs,rel,o,q⟩:=h
  refine ⟨_,(z7 (zp (i:=1) z06.nd rfl (Or.inl rfl) (zz z0K (zA (z0 (zc (K:=K) (pv 0) rfl) (z0 (yn (Z1 (K:=K)) rfl T.yO yP (z0 (zc (K:=K) (pv 0) rfl) z8)) z8))) (zc (K:=K) (pv 0) rfl))) (z7 (zX (xbm (K:=K) PySem.F.plainAttrs_list PySem.F.slot_list_append PySem.F.type_list_append Yz (pv 1) (z0 (yn (Z1 (K:=K)) rfl T.yO yP (z0 (zc (K:=K) (pv 0) rfl) z8)) z8))) (z7 (yK PassesOwn.never rfl (Yk (K:=K) (zc (K:=K) (pv 0) rfl)) (y6 (i:=2) z06.nd rfl (Or.inl rfl)) (za (zX (xbm (K:=K) PySem.F.plainAttrs_list PySem.F.slot_list_extend PySem.F.type_list_extend j5 (pv 1) (z0 (zm z2A hr (by decide) rfl T.Jf (z0 (pv 2) z8)) z8))))) (z7 (zX (xbm (K:=K) PySem.F.plainAttrs_list PySem.F.slot_list_append PySem.F.type_list_append Yz (pv 1) (z0 (yn (Z1 (K:=K)) rfl T.yO yP (z0 (zc (K:=K) (pv 0) rfl) z8)) z8))) (z7 (zX (xbm (K:=K) PySem.F.plainAttrs_list PySem.F.slot_list_extend PySem.F.type_list_extend j5 (pv 1) (z0 (zc (K:=K) (pv 0) rfl) z8))) (z7 (yK PassesOwn.never rfl (ziw rfl T.z5Z (z0 zg (z0 (zz Zh (yn (Z1 (K:=K)) rfl T.yO yP (z0 (zc (K:=K) (pv 0) rfl) z8)) zg) z8))) (y6 (i:=3) z06.nd rfl (Or.inl rfl)) (za (yK PassesOwn.never rfl (Yk (K:=K) (zm jZ hr (by decide) rfl T.YS (z0 (pv 0) (z0 (pv 3) z8)))) (jS (K:=K) (n:=2) rfl (Zi (y6 (i:=4) z06.nd rfl (Or.inl rfl)) (Zi (y6 (i:=5) z06.nd rfl (Or.inl rfl)) jw))) (za (zX (xbm (K:=K) PySem.F.plainAttrs_list PySem.F.slot_list_extend PySem.F.type_list_extend j5 (pv 1) (z0 (zA (z0 (pv 3) (z0 (pv 4) (z0 (pv 5) z8)))) z8))))))) (za (ze (pv 1))))))))),?_⟩
  have wf:=rel.wf o
  rw [ziX rel o.c,zkJ] at q
  have hN1:=wf.cashN
  have hN2:=wf.conN
  have hN3:=wf.priceN
  walk_at "hx"
  refine ZF hs.pr ?_
  walk_at "hx"
  refine ⟨yd (n:=2) (Nat.le_refl _) (by decide),fun p0 h0=>?_⟩
  have hs0:=hs.beside (o:=.lst [V.int m.turn,V.int m.prices.length]) h0
  walk_at "hx"
  refine z0P z9 hs0.pr (by rw [List.length_map];exact Nat.le_trans (show 2 + m.prices.length≤1000 by omega) (by decide)) fun p hp=>?_
  have sm1:Same H (upd (upd H p0 (.lst [V.int m.turn,V.int m.prices.length])) p (.lst ([V.int m.turn,V.int m.prices.length] ++ m.prices.map V.int))):=(yC h0).trans (yC hp)
  have hpH:H p=none:=(yC (o:=.lst [V.int m.turn,V.int m.prices.length]) h0).free hp
  generalize hg1:upd (upd H p0 (.lst [V.int m.turn,V.int m.prices.length])) p (.lst ([V.int m.turn,V.int m.prices.length] ++ m.prices.map V.int))=H1 at sm1
  have e1:H1 p=some (.lst ([V.int m.turn,V.int m.prices.length] ++ m.prices.map V.int)):=by rw [← hg1];exact z9
  clear hg1
  have hs1:=hs.ofSame sm1
  walk_at "hx"
  refine ⟨Z0 e1,?_⟩
  walk_at "hx"
  refine z0v hs1.cl ?_
  walk_at "hx"
  refine YB e1 (by rw [List.length_append,List.length_map];exact Nat.lt_of_le_of_lt (show 2 + m.prices.length≤1000 by omega) (by decide)) ?_
  have e2:[V.int m.turn,V.int m.prices.length] ++ m.prices.map V.int ++ [V.int (m.cons.length:Int)]=(Yg m).map V.int:=by unfold Yg;rw [List.map_append,List.map_append];rfl
  rw [e2]
  have lp1:(Yg m).length≤7:=by unfold Yg;rw [List.length_append,List.length_append];simp;omega
  have sm2:Same H (upd H1 p (.lst ((Yg m).map V.int))):=ZM sm1 hpH
  have hs2:=hs.ofSame sm2
  walk_at "hx"
  refine Y8 (SqL.of hs2.cl) ?_
  refine Yu (xs:=(List.range m.cons.length).map fun i=>V.ref (L.ad (.con i))) (fun i σ H'=>∃ v,σ = [some (.ref (L.ad .house)),some (.ref p),v,none,none,none]∧Same H H'∧H' p=some (.lst ((Yg m ++ (m.cons.take i).flatMap ZB).map V.int)))
   ⟨none,rfl,sm2,by rw [z9,List.take_zero,List.flatMap_nil,List.append_nil]⟩ (fun i σ H' _ ⟨_,_,sm,_⟩=>SqL.of (sm _ _ hs.cl)) ?_ ?_
  ·rintro i x σ H' hi ⟨v',rfl,sm,hpi⟩
   have hlt:i < m.cons.length:=by
    have:=(List.getElem?_eq_some_iff.mp hi).1
    rw [List.length_map,List.length_range] at this;exact this
   have ex:x=V.ref (L.ad (.con i)):=by
    rw [List.getElem?_map,List.getElem?_range hlt] at hi
    exact (Option.some.inj hi).symm
   subst ex
   have hk:m.cons[i]?=some m.cons[i]:=List.getElem?_eq_getElem hlt
   generalize m.cons[i]=k at hk
   have hs3:=hs.ofSame sm
   walk_at "hx"
   refine ⟨Z0 hpi,?_⟩
   walk_at "hx"
   refine ⟨L,m,i,k,rfl,hs3,hk,fun H4 p4 s4 n4 e4=>?_⟩
   walk_at "hx"
   refine jb (s4 _ _ hpi) e4 ?_ ?_
   ·rw [List.length_map,List.length_map,List.length_append]
    have h1:=z6h (m.cons.take i)
    rw [List.length_take] at h1
    have h2:=Nat.min_le_right i m.cons.length
    have h3:(ZB k).length=6:=rfl
    exact Nat.le_trans (by omega:_≤1000) (by decide)
   ·refine ⟨_,rfl,ZM (sm.trans s4) hpH,?_⟩
    rw [z9,yL hk,List.flatMap_append,← List.map_append,List.append_assoc]
    simp only [List.flatMap_cons,List.flatMap_nil,List.append_nil]
  ·rintro σ H3 ⟨v',rfl,sm3,hp3⟩
   rw [List.length_map,List.length_range,List.take_length] at hp3
   have hs3:=hs.ofSame sm3
   have lc:=z6h m.cons
   walk_at "hx"
   refine ⟨Z0 hp3,?_⟩
   walk_at "hx"
   refine ZF hs3.ca ?_
   walk_at "hx"
   refine YB hp3 (by rw [List.length_map,List.length_append];exact Nat.lt_of_le_of_lt (by omega:_≤1000) (by decide)) ?_
   have sm4:=ZM (o:=.lst ((Yg m ++ m.cons.flatMap ZB).map V.int ++ [V.int (m.cash.length:Int)])) sm3 hpH
   have hs4:=hs.ofSame sm4
   walk_at "hx"
   refine ⟨Z0 z9,?_⟩
   walk_at "hx"
   refine jb z9 hs4.ca (by rw [List.length_append,List.length_map,List.length_map,List.length_append];exact Nat.le_trans (show _≤1000 by simp only [List.length_cons,List.length_nil];omega) (by decide)) ?_
   rw [ye]
   have e5:(Yg m ++ m.cons.flatMap ZB).map V.int ++ [V.int (m.cash.length:Int)] ++ m.cash.map V.int=(ZZ m).map V.int:=by unfold ZZ;simp only [List.map_append];rfl
   rw [e5]
   have lp2:(ZZ m).length≤110:=by unfold ZZ;rw [List.length_append,List.length_append,List.length_append];simp only [List.length_cons,List.length_nil];omega
   have sm5:=ZM (o:=.lst ((ZZ m).map V.int)) sm3 hpH
   have hs5:=hs.ofSame sm5
   walk_at "hx"
   refine ZF hs5.ca ?_
   walk_at "hx"
   refine zeN ⟨by decide,by decide,by omega,by omega⟩ ?_
   have en:((m.cash.length:Int) + 1 - 1).toNat=m.cash.length:=by omega
   rw [en]
   refine z6y (fun i σ H'=>∃ v w x y,σ = [some (.ref (L.ad .house)),some (.ref p),v,w,x,y]∧Same H H'∧H' p=some (.lst ((ZZ m ++ Zt m i).map V.int)))
    ⟨_,none,none,none,rfl,sm5,by rw [z9];show _=some (HO.lst ((ZZ m ++ []).map V.int));rw [List.append_nil]⟩ ?_ ?_
   ·rintro i σ H' hi ⟨v',w',x',y',rfl,sm,hpi⟩
    have hs6:=hs.ofSame sm
    walk_at "hx"
    refine ⟨L,m,_,rfl,hs6,wf,fun H7 p7 rs sm7 np7 hp7 tu=>?_⟩
    have hpp:=sm7 p _ hpi
    have npp:p≠p7:=zd hpi np7
    have smH:Same H H7:=sm.trans sm7
    rw [show (1:Int) + (i:Int)=(i:Int) + 1 by omega] at tu ⊢
    have ll:=z0C m ((i:Int) + 1) m.cons.length
    have er:Zt m (i + 1)=Zt m i ++ (yR m ((i:Int) + 1) m.cons.length).flatMap fun p=>[(i:Int) + 1,p.1,p.2]:=rfl
    have lr:=z8A m hN2 i
    generalize yR m ((i:Int) + 1) m.cons.length=l at tu ll er
    refine Y8 (SqL.of hp7) ?_
    refine Yu (xs:=rs) (fun j σ H'=>∃ v w x,σ = [some (.ref (L.ad .house)),some (.ref p),v,some (.int ((i:Int) + 1)),w,x]∧(∀ b o,H7 b=some o→b≠p→H' b=some o)∧H' p=some (.lst ((ZZ m ++ Zt m i ++ (l.take j).flatMap fun z=>[(i:Int) + 1,z.1,z.2]).map V.int)))
     ⟨_,_,_,rfl,fun b o e _=>e,by rw [List.take_zero,List.flatMap_nil,List.append_nil];exact hpp⟩ (fun i σ H' _ ⟨_,_,_,_,sm,_⟩=>SqL.of (sm _ _ hp7 (Ne.symm npp))) ?_ ?_
    ·rintro j x σ H' hj ⟨v2,w2,x2,rfl,smj,hpj⟩
     have hjl:j < l.length:=by rw [← tu.len];exact (List.getElem?_eq_some_iff.mp hj).1
     have hz:l[j]?=some l[j]:=List.getElem?_eq_getElem hjl
     generalize l[j]=z at hz
     obtain ⟨t,e1,e2⟩:=tu.at_ j z hz
     rw [hj] at e1
     have e1:=Option.some.inj e1
     subst e1
     refine jq (smj _ _ e2 (yX e2 hpp (by intro y;cases y))) ?_
     walk_at "hx"
     refine ⟨Z0 hpj,?_⟩
     walk_at "hx"
     refine ⟨yd (n:=3) (Nat.le_refl _) (by decide),fun y hy=>?_⟩
     have npy:p≠y:=zd hpj hy
     walk_at "hx"
     refine jb (xs:=(ZZ m ++ Zt m i ++ (l.take j).flatMap fun z=>[(i:Int) + 1,z.1,z.2]).map V.int) (by rw [z6 npy];exact hpj) z9 ?_ ?_
     ·rw [List.length_map,List.length_append,List.length_append]
      have h1:=Z3 (f:=fun z:Int × Int=>[(i:Int) + 1,z.1,z.2]) (n:=3) (l.take j) (fun _ _=>by simp)
      rw [List.length_take] at h1
      have h2:=Nat.min_le_right j l.length
      show _ + 3≤sizeLine
      exact Nat.le_trans (by omega:_≤1000) (by decide)
     ·refine ⟨_,_,_,rfl,fun b o e hb=>?_,?_⟩
      ·rw [z6 hb,z6 (zd (smj b o e hb) hy)];exact smj b o e hb
      ·rw [z9,yL hz,List.flatMap_append]
       simp only [List.map_cons,List.map_append,List.cons_append,List.flatMap_cons,List.flatMap_nil,List.map_nil,List.append_nil,List.append_assoc]
    ·rintro σ H' ⟨v2,w2,x2,rfl,smj,hpj⟩
     rw [tu.len,List.take_length] at hpj
     refine ⟨_,_,_,_,rfl,fun b o e=>smj b o (smH b o e) (zd e hpH),?_⟩
     rw [er,← List.append_assoc];exact hpj
   ·rintro σ H' ⟨v',w',x',y',rfl,sm,hpi⟩
    walk_at "hx"
    exact q H' p sm hpH hpi
noncomputable def zau (A:Ad):Sp:=fun vs H Q _=>∃ (L:Lay) (m:HouM) (i:Nat) (k:ConM) (pl:Addr) (new:List Int),vs=[.ref (L.ad .house),.ref (L.ad (.con i)),.ref pl]∧Hs A.cs H L m∧m.cons[i]?=some k∧H pl=some (.lst (new.map V.int))∧new.length=m.prices.length ∧
 (1≤k.under∧k.under≤(m.prices.length:Int))∧(1≤k.mult∧k.mult≤1000)∧Q (.int (Ze m new k)) H
theorem zhk (T:Tx K mg A) (Zx:Good P w K mg base 1 A.jk ["self", "contract"] (z0T A)) (jX:Good P w K mg base 1 A.YQ ["house", "contract"] (z5k A)) (Yn:Good P w K mg base 1 A.Y4 ["contract", "price"] (z29 A)):Good P w K mg base 2 A.Jq ["house", "contract", "prices"] (zau A):=by
 refine Good.of T.zlE z9U (fun _ _ _ _ _ _=>us3 (fun _ _ _=>rfl)) (fun vs H Q E h=>?_) (fun cdv A1 outer s0 H vs Q E hr h=>?_)
 ·obtain ⟨L,m,i,k,pl,new,rfl,_⟩:=h;rfl
 ·obtain ⟨L,m,i,k,pl,new,rfl,hs,hk,hpl,hlen,hun,hm,q⟩:=h
  refine ⟨_,(z7 (zp (i:=3) z9U.nd rfl (Or.inl rfl) (zD (zE (K:=K)) (pv 2) (zz yE (zc (K:=K) (pv 1) rfl) zg) (fun _ _=>rfl))) (z7 (zi (zq zL (zc (K:=K) (pv 1) rfl) (zf (i:=0) T.z0r rfl) (zo _)) (za (ze (zz ZK (zc (K:=K) (pv 1) rfl) (zz yE (pv 3) (yh (pv 0) T.zO T.z1v Zx hr (by decide) (z0 (pv 1) z8)))))) zj) (z7 (zi (zR (zm jX hr (by decide) rfl T.YQ (z0 (pv 0) (z0 (pv 1) z8)))) (za (ze (zz ZK (zc (K:=K) (pv 1) rfl) (zm Yn hr (by decide) rfl T.Y4 (z0 (pv 1) (z0 (pv 3) z8)))))) zj) (za (ze zg))))),?_⟩
  unfold Ze at q
  walk_at "hx"
  have hl:k.under.toNat - 1 < new.length:=by omega
  refine zV (n:=k.under.toNat - 1) hpl (by omega) (List.getElem?_eq_getElem hl) ?_
  have e:new[k.under.toNat - 1]=atP new k.under:=by unfold atP;rw [List.getD_eq_getElem?_getD,List.getElem?_eq_getElem hl];rfl
  rw [e]
  walk_at "hx"
  refine zt (fun c1=>?_) fun c1=>?_
  ·rw [if_pos c1] at q
   walk_at "hx"
   refine ⟨L,m,i,k,rfl,hs,hk,hun,?_⟩
   walk_at "hx"
   refine Zb (.inl ⟨by omega,by omega⟩) ?_
   exact q
  rw [if_neg c1] at q
  walk_at "hx"
  refine ⟨L,m,i,k,rfl,hs,hk,?_⟩
  walk_at "hx"
  refine zt (fun c2=>?_) fun c2=>?_
  ·rw [if_pos c2] at q
   walk_at "hx"
   refine ⟨L,m,i,k,_,rfl,hs,hk,?_⟩
   walk_at "hx"
   refine Zb (.inl ⟨by omega,by omega⟩) ?_
   exact q
  ·rw [if_neg c2] at q
   walk_at "hx";exact q
noncomputable def z3b (J:It) (g:TG) (tt:TT) (te:TE) (vs:List Nat) (σ : L2.St) (H1:Hp) (D:Addr) (Qd:Hp→Prop):Prop:=∃ W:Nat→Nat→Hp→Prop,(∃ m,W 0 m (upd H1 D (.lst [])))∧∀ i m H,W i m H →
 (J.stop i H∧Qd H)∨(J.go i H∧∃ Nx:Hp→Prop,(∀ H',Nx H'→∃ m',m' < m∧W (i + 1) m' H')∧∀ x H',J.yld i H x H'→g x (y8 σ vs) H' fun σ2 H2=>y8 σ2 vs=y8 σ vs∧tt σ2 H2 fun b H3=>
  if b=true then te σ2 H3 fun y H4=>∃ acc,H4 D=some (.lst acc)∧acc.length < sizeLine∧Nx (upd H4 D (.lst (acc ++ [y]))) else Nx H3)
theorem z6X {wi:TI} {g:TG} {tt:TT} {te:TE} {vs:List Nat} {σ : L2.St} {H:Hp} {Q:VK} (h:wi σ H fun J H1=>∀ D,H1 D=none→z3b J g tt te vs σ H1 D (Q (.ref D))):tLc wi g tt te vs σ H Q:=h
theorem zfg {K:PySem.W.Frag} {a:Addr} {xs:List V} {g:TG} {tt:TT} {te:TE} {vs:List Nat} {σ : L2.St} {H1:Hp} {D:Addr} {Qd:Hp→Prop} (Pv:Nat→Hp→Prop) (h0:Pv 0 (upd H1 D (.lst []))) (hl:∀ i H,i≤xs.length→Pv i H→SqL K H a xs)
  (hs:∀ i x H,xs[i]?=some x→Pv i H→g x (y8 σ vs) H fun σ2 H2=>y8 σ2 vs=y8 σ vs∧tt σ2 H2 fun b H3=>
   if b=true then te σ2 H3 fun y H4=>∃ acc,H4 D=some (.lst acc)∧acc.length < sizeLine∧Pv (i + 1) (upd H4 D (.lst (acc ++ [y]))) else Pv (i + 1) H3) (hd:∀ H,Pv xs.length H→Qd H):z3b (Itl K a) g tt te vs σ H1 D Qd:=zff Pv h0 hl hs hd
theorem zfj {K:PySem.W.Frag} {a b:Addr} {xs ys:List V} {g:TG} {tt:TT} {te:TE} {vs:List Nat} {σ : L2.St} {H1:Hp} {D:Addr} {Qd:Hp→Prop} (Pv:Nat→Hp→Prop) (hxy:xs.length=ys.length) (h0:Pv 0 (upd H1 D (.lst []))) (hl:∀ i H,i≤xs.length→Pv i H→SqL K H a xs∧SqL K H b ys)
  (hs:∀ i x y T H,xs[i]?=some x→ys[i]?=some y→Pv i H→H T=none→g (.ref T) (y8 σ vs) (upd H T (.tup [x,y])) fun σ2 H2=>y8 σ2 vs=y8 σ vs∧tt σ2 H2 fun b H3=>
   if b=true then te σ2 H3 fun y H4=>∃ acc,H4 D=some (.lst acc)∧acc.length < sizeLine∧Pv (i + 1) (upd H4 D (.lst (acc ++ [y]))) else Pv (i + 1) H3) (hd:∀ H,Pv xs.length H→Qd H):z3b (Itz K a b) g tt te vs σ H1 D Qd:=by
 refine ⟨fun i m H=>m=xs.length - i∧i≤xs.length∧Pv i H,⟨xs.length,by simp,Nat.zero_le _,h0⟩,?_⟩
 rintro i m H ⟨rfl,hi,p⟩
 obtain ⟨q1,q2⟩:=hl i H hi p
 by_cases hlt:i < xs.length
 ·refine .inr ⟨⟨xs,ys,xs[i],ys[i]'(by omega),q1,q2,by simp [hlt],by simp⟩,Pv (i + 1),fun H' p'=>⟨xs.length - (i + 1),by omega,rfl,hlt,p'⟩,fun x H' y=>?_⟩
  obtain ⟨T,x1,y1,e1,hT,e2,f1,f2⟩:=y
  subst e1 e2
  exact hs i x1 y1 T _ (f1 xs q1) (f2 ys q2) p hT
 ·have e:i=xs.length:=by omega
  subst e
  exact .inl ⟨⟨xs,ys,q1,q2,.inl (Nat.le_refl _)⟩,hd H p⟩
theorem zbZ (g:Int) (gr:List Int) (l:List (Int × Int)) (p:Int × Int):Z2 g gr (l ++ [p])=(Z2 g gr l).modify (p.1.toNat - 1) fun v=>v + p.2 * g:=by unfold Z2;rw [List.foldl_append];rfl
noncomputable def ZT (m:HouM) (new:List Int) (i:Nat):List Int:=(m.cons.take i).foldl (fun gr k=>Z2 (Ze m new k) gr k.held) (m.cash.map fun _=>0)
theorem zdY (m:HouM) (new:List Int) (i:Nat):(ZT m new i).length=m.cash.length:=by unfold ZT;rw [z3E,List.length_map]
theorem zcl:z15 ["house", "prices", "grown", "a", "contract", "gain", "account", "lots"] (zl z4Z) { kind:=.function,names:=[(".0",.local),("a",.local)],isGenerator:=false,isCoroutine:=false } [("a",3)]=true:=by decide +kernel
noncomputable def zar (A:Ad):Sp:=fun vs H Q _=>∃ (L:Lay) (m:HouM) (pl:Addr) (new:List Int),vs=[.ref (L.ad .house),.ref pl]∧Hs A.cs H L m∧Wf m∧(∀ (i:Nat) (k:ConM),m.cons[i]?=some k→∀ p∈k.held,-100000≤p.2∧p.2≤100000)∧H pl=some (.lst (new.map V.int))∧new.length=m.prices.length ∧
 ∀ H' p,Same H H'→H p=none→H' p=some (.lst ((yx m new).map V.int))→Q (.ref p) H'
theorem zhf (T:Tx K mg A) (z2L:Good P w K mg base 2 A.Jq ["house", "contract", "prices"] (zau A)):Good P w K mg base 3 A.Jn ["house", "prices"] (zar A):=by
 refine Good.of T.zlz jH (fun _ _ _ _ _ _=>us2 (fun _ _=>rfl)) (fun vs H Q E h=>?_) (fun cdv A1 outer s0 H vs Q E hr h=>?_)
 ·obtain ⟨L,m,pl,new,rfl,_⟩:=h;rfl
 ·obtain ⟨L,m,pl,new,rfl,hs,wf,hb,hpl,hlen,q⟩:=h
  refine ⟨_,(z7 (ziH (i:=2) rfl jH.nd rfl rfl (zkA rfl rfl rfl rfl) (Yk (K:=K) (zc (K:=K) (pv 0) rfl)) (z65 (own:=[("a",3)]) zcl) (fun _ _ _ _ _=>(y6 (i:=3) jH.nd rfl (Or.inl rfl))) (fun _ _ _ _ _=>z8c) (fun _ _ _ _ _=>zg)) (z7 (yK PassesOwn.never rfl (Yk (K:=K) (zc (K:=K) (pv 0) rfl)) (y6 (i:=4) jH.nd rfl (Or.inl rfl)) (z7 (zp (i:=5) jH.nd rfl (Or.inl rfl) (zm z2L hr (by decide) rfl T.Jq (z0 (pv 0) (z0 (pv 4) (z0 (pv 1) z8))))) (za (ja (yK PassesOwn.never rfl (z1J (zc (K:=K) (pv 4) rfl)) (jS (K:=K) (n:=2) rfl (Zi (y6 (i:=6) jH.nd rfl (Or.inl rfl)) (Zi (y6 (i:=7) jH.nd rfl (Or.inl rfl)) jw))) (za (z8a (pv 2) (zz yE (pv 6) zg) (zbB (K:=K)) (zz ZK (pv 7) (pv 5)) z74 za2))))))) (za (ze (pv 2))))),?_⟩
  have hN1:=wf.cashN
  walk_at "hx"
  refine z6X ?_
  walk_at "hx"
  refine Y8 (SqL.of hs.ca) fun D hD=>?_
  refine zfg (xs:=m.cash.map V.int) (fun i H'=>Same H H'∧H' D=some (.lst (((m.cash.take i).map fun _=>(0:Int)).map V.int))) ⟨yC hD,by rw [z9];rfl⟩ (fun i H' _ ⟨sm,_⟩=>SqL.of (sm _ _ hs.ca)) ?_ ?_
  ·rintro i x H' hi ⟨sm,hDi⟩
   rw [List.getElem?_map] at hi
   cases hz:m.cash[i]? with
   | none=>rw [hz] at hi;cases hi
   | some v=>
    refine ⟨rfl,?_⟩
    unfold z5v
    refine yW rfl ?_
    walk_at "hx"
    refine ⟨_,hDi,?_,ZM sm hD,?_⟩
    ·rw [List.length_map,List.length_map,List.length_take]
     exact Nat.lt_of_le_of_lt (Nat.min_le_right _ _) (Nat.lt_of_le_of_lt hN1 (by decide))
    ·rw [z9,yL hz,List.map_append,List.map_append];rfl
  ·rintro H1 ⟨sm1,hD1⟩
   rw [List.length_map,List.take_length] at hD1
   have hs1:=hs.ofSame sm1
   walk_at "hx"
   refine Y8 (SqL.of hs1.cl) ?_
   refine Yu (xs:=(List.range m.cons.length).map fun i=>V.ref (L.ad (.con i))) (fun i σ H'=>∃ v w x y z,σ = [some (.ref (L.ad .house)),some (.ref pl),some (.ref D),v,w,x,y,z]∧Same H H'∧H' D=some (.lst ((ZT m new i).map V.int)))
    ⟨_,none,none,none,none,rfl,sm1,hD1⟩ (fun i σ H' _ ⟨_,_,_,_,_,_,sm,_⟩=>SqL.of (sm _ _ hs.cl)) ?_ ?_
   ·rintro i x σ H' hi ⟨v1,v2,v3,v4,v5,rfl,sm,hDi⟩
    have hlt:i < m.cons.length:=by
     have:=(List.getElem?_eq_some_iff.mp hi).1
     rw [List.length_map,List.length_range] at this;exact this
    have ex:x=V.ref (L.ad (.con i)):=by
     rw [List.getElem?_map,List.getElem?_range hlt] at hi
     exact (Option.some.inj hi).symm
    subst ex
    have hk:m.cons[i]?=some m.cons[i]:=List.getElem?_eq_getElem hlt
    generalize m.cons[i]=k at hk
    have hs2:=hs.ofSame sm
    have es:ZT m new (i + 1)=Z2 (Ze m new k) (ZT m new i) k.held:=by unfold ZT;rw [yL hk,List.foldl_append];rfl
    walk_at "hx"
    refine ⟨L,m,i,k,pl,new,rfl,hs2,hk,sm _ _ hpl,hlen,wf.und _ _ hk,wf.mult _ _ hk,?_⟩
    walk_at "hx"
    have hh:=hs2.held hk
    have nDh:D≠L.ad (.held i):=yX hDi hh (by intro z;cases z)
    have hc:=YY hs2 hk
    have nch:L.ad (.con i)≠L.ad (.held i):=yX hc hh (by intro z;cases z)
    refine j0 hh trivial fun od=>?_
    walk_at "hx"
    refine z4P T (by rw [z6 nch];exact hc) ?_
    walk_at "hx"
    refine z1q z9 ?_
    refine z1i (l:=k.held) (fun j σ H2=>∃ y z,σ = [some (.ref (L.ad .house)),some (.ref pl),some (.ref D),v1,some (.ref (L.ad (.con i))),some (.int (Ze m new k)),y,z]∧(∀ b o,upd H' (L.ad (.held i)) (.frz od (.dK (dI k.held))) b=some o→b≠D→H2 b=some o)∧H2 D=some (.lst ((Z2 (Ze m new k) (ZT m new i) (k.held.take j)).map V.int)))
     ⟨_,_,rfl,fun b o e _=>e,by rw [z6 nDh];exact hDi⟩ (fun j σ H2 ⟨_,_,_,smj,_⟩=>smj _ _ z9 (Ne.symm nDh)) ?_ ?_
    ·rintro j z T1 σ H2 hz ⟨y1,z1,rfl,smj,hDj⟩ hT
     have hm:=List.mem_of_getElem? hz
     have zk:=wf.hk _ _ hk z hm
     have zb:=hb _ _ hk z hm
     have nDT:D≠T1:=zd hDj hT
     refine jq z9 ?_
     walk_at "hx"
     have hl2:z.1.toNat - 1 < (Z2 (Ze m new k) (ZT m new i) (k.held.take j)).length:=by rw [z3f,zdY];omega
     have hDT:upd H2 T1 (.tup [.int z.1,.int z.2]) D=some (.lst ((Z2 (Ze m new k) (ZT m new i) (k.held.take j)).map V.int)):=by rw [z6 nDT];exact hDj
     refine z8o (j:=z.1.toNat - 1) hDT (by omega) hl2 ?_
     walk_at "hx"
     refine Zb (.inl ⟨by omega,by omega⟩) ?_
     walk_at "hx"
     refine z8p (j:=z.1.toNat - 1) hDT (by omega) hl2 ?_
     refine ⟨_,_,rfl,fun b o e hbD=>?_,?_⟩
     ·have e':=smj b o e hbD
      rw [z6 hbD,z6 (zd e' hT)];exact e'
     ·rw [z9,yL hz,zbZ]
    ·rintro σ H2 ⟨y1,z1,rfl,smj,hDj⟩
     refine ⟨smj _ _ z9 (Ne.symm nDh),?_⟩
     rw [List.take_length,← es] at hDj
     refine ⟨_,_,_,_,_,rfl,fun b o e=>?_,by rw [z6 nDh];exact hDj⟩
     have e':=sm b o e
     by_cases zb:b=L.ad (.held i)
     ·subst zb;rw [z9];rw [hh] at e';exact e'
     ·rw [z6 zb]
      exact smj b o (by rw [z6 zb];exact e') (zd e hD)
   ·rintro σ H' ⟨v1,v2,v3,v4,v5,rfl,sm,hDi⟩
    have e:ZT m new m.cons.length=yx m new:=by unfold ZT yx;rw [List.take_length]
    rw [List.length_map,List.length_range,e] at hDi
    walk_at "hx"
    exact q H' D sm hD hDi
theorem Hs.setOver {C:Cs} {H:Hp} {L:Lay} {m:HouM} {i:Nat} {k:ConM} (h:Hs C H L m) (hk:m.cons[i]?=some k):Hs C (upd H (L.ad (.con i)) (.ins C.con (L.own (.con i)) (yi L i { k with over:=true }))) L { m with cons:=m.cons.set i { k with over:=true } } ∧
  Step C H L m (upd H (L.ad (.con i)) (.ins C.con (L.own (.con i)) (yi L i { k with over:=true }))) L { m with cons:=m.cons.set i { k with over:=true } }:=by
 refine h.upd1 (j3 hk) ?_ fun n hn=>J2 hk (fun q=>absurd q hn) (fun _=>rfl) (fun _=>rfl) (fun _=>rfl) fun _=>rfl
 show (({ m with cons:=m.cons.set i { k with over:=true } }:HouM).cons[i]?).map _=_
 rw [YC hk];rfl
theorem Hs.setTurn {C:Cs} {H:Hp} {L:Lay} {m:HouM} (h:Hs C H L m) (t:Int):Hs C (upd H (L.ad .house) (.ins C.hou (L.own .house) (zC t (L.ad .pr) (L.ad .cl) (L.ad .ca) (L.ad .tr) (L.ad .sp)))) L { m with turn:=t } ∧
  Step C H L m (upd H (L.ad .house) (.ins C.hou (L.own .house) (zC t (L.ad .pr) (L.ad .cl) (L.ad .ca) (L.ad .tr) (L.ad .sp)))) L { m with turn:=t } :=
 h.upd1 rfl rfl fun n hn=>by cases n <;> first | rfl | exact absurd rfl hn
noncomputable def zag (A:Ad):Sp:=fun vs H Q _=>∃ (L:Lay) (m:HouM),vs=[.ref (L.ad .house)]∧Hs A.cs H L m ∧
 ∀ H' L',Hs A.cs H' L' { m with cons:=m.cons.map (Za m.turn) }→Step A.cs H L m H' L' { m with cons:=m.cons.map (Za m.turn) }→L'.ad .house=L.ad .house→Q .non H'
theorem zgZ (T:Tx K mg A) (jV:Good P w K mg base 3 A.YN [] (z5i A)) (jX:Good P w K mg base 1 A.YQ ["house", "contract"] (z5k A)):Good P w K mg base 4 A.Jc ["house"] (zag A):=by
 refine Good.of T.zlj z9O (fun _ _ _ _ _ _=>us1 (fun _=>rfl)) (fun vs H Q E h=>?_) (fun cdv A1 outer s0 H vs Q E hr h=>?_)
 ·obtain ⟨L,m,rfl,_⟩:=h;rfl
 ·obtain ⟨L,m,rfl,hs,q⟩:=h
  refine ⟨_,(za (yK PassesOwn.never rfl (Yk (K:=K) (zc (K:=K) (pv 0) rfl)) (y6 (i:=1) z9O.nd rfl (Or.inl rfl)) (za (zi (zR (zm jX hr (by decide) rfl T.YQ (z0 (pv 0) (z0 (pv 1) z8)))) (z7 (zB (K:=K) (pv 1) Yc rfl) (z7 (zB (K:=K) (pv 1) Yd rfl) (za (zB (K:=K) (pv 1) (zbA jV hr (by decide) rfl T.YN) rfl)))) zj)))),?_⟩
  walk_at "hx"
  refine Y8 (SqL.of hs.cl) ?_
  refine Yu (xs:=(List.range m.cons.length).map fun i=>V.ref (L.ad (.con i))) (fun i σ H'=>∃ v L',σ = [some (.ref (L.ad .house)),v]∧Hs A.cs H' L' { m with cons:=ym m.turn m.cons i }∧Step A.cs H L m H' L' { m with cons:=ym m.turn m.cons i }∧L'.ad .house=L.ad .house∧L'.ad .cl=L.ad .cl∧∀ j,L'.ad (.con j)=L.ad (.con j))
   ⟨none,L,rfl,by rw [z6d];exact hs,by rw [z6d];exact Step.refl,rfl,rfl,fun _=>rfl⟩ (fun i σ H' _ ⟨_,L',_,hs',_,_,ecl,ec⟩=>?_) ?_ ?_
  ·have z:=hs'.cl
   rw [ecl] at z
   dsimp only at z
   rw [z6f] at z
   have e:((List.range m.cons.length).map fun i=>V.ref (L'.ad (.con i)))=(List.range m.cons.length).map fun i=>V.ref (L.ad (.con i)):=List.map_congr_left fun j _=>by rw [ec j]
   rw [e] at z
   exact SqL.of z
  ·rintro i x σ H' hi ⟨v',L',rfl,hs',st',eh,ecl,ec⟩
   have hlt:i < m.cons.length:=by
    have:=(List.getElem?_eq_some_iff.mp hi).1
    rw [List.length_map,List.length_range] at this;exact this
   have ex:x=V.ref (L.ad (.con i)):=by
    rw [List.getElem?_map,List.getElem?_range hlt] at hi
    exact (Option.some.inj hi).symm
   subst ex
   have hk:m.cons[i]?=some m.cons[i]:=List.getElem?_eq_getElem hlt
   generalize m.cons[i]=k at hk
   have hk':({ m with cons:=ym m.turn m.cons i }:HouM).cons[i]?=some k:=z6e hk
   have es:=zcC (t:=m.turn) hk
   have hc:=YY hs' hk'
   rw [ec i] at hc
   walk_at "hx"
   refine ⟨L',_,i,k,by rw [eh,ec i];rfl,hs',hk',?_⟩
   walk_at "hx"
   refine zt (fun c1=>?_) fun c1=>?_
   ·have c1:k.expiry=m.turn:=c1
    have ecm:Za m.turn k = { k with over:=true,held:=[],run:=⟨[],0,[],0⟩ }:=by unfold Za;rw [if_pos c1]
    rw [ecm] at es
    walk_at "hx"
    refine zy hc T.zZ T.z4n (by walk_at "hl") ?_
    rw [zie]
    obtain ⟨hs1',st1'⟩:=hs'.setOver hk'
    have hk1:=YC hk' { k with over:=true }
    generalize hg1:upd H' (L.ad (.con i)) _=H1
    have hs1:Hs A.cs H1 L' { m with cons:=(ym m.turn m.cons i).set i { k with over:=true } }:=by rw [← hg1,← ec i];exact hs1'
    have st1:Step A.cs H' L' { m with cons:=ym m.turn m.cons i } H1 L' { m with cons:=(ym m.turn m.cons i).set i { k with over:=true } }:=by rw [← hg1,← ec i];exact st1'
    clear hs1' st1' hg1
    have hc1:=YY hs1 hk1
    rw [ec i] at hc1
    walk_at "hx"
    intro p hp
    have ncp:L.ad (.con i)≠p:=zd hc1 hp
    walk_at "hx"
    refine zy (by rw [z6 ncp];exact hc1) T.zZ T.z4m (by walk_at "hl") ?_
    rw [zid]
    generalize hg2:upd (upd H1 p (.dK [])) (L.ad (.con i)) _=H2
    have hc2:H2 (L.ad (.con i))=some (.ins A.zF (L'.own (.con i)) (zG ((i:Int) + 1) k.kind k.under k.strike k.mult k.expiry true p (L'.ad (.run i)) k.exd)):=by rw [← hg2];exact z9
    obtain ⟨hs2,st2⟩:=hs1.newHeld (H':=H2) hk1 [] (p:=p) (d:=p) hp (by rw [ec i];exact hc2) (by rw [← hg2,z6 (Ne.symm ncp)];exact z9) (fun x o e hx=>by rw [ec i] at hx;rw [← hg2,z6 hx,z6 (zd e hp)];exact e)
    clear hg2
    have hk2:=YC hk1 { k with over:=true,held:=[] }
    walk_at "hx"
    refine ⟨rfl,fun r b a dx H3 NR=>?_⟩
    have hc3:=NR.same _ _ hc2
    have ncr:r≠L.ad (.con i):=Ne.symm (zd hc2 NR.nr)
    have ncb:b≠L.ad (.con i):=Ne.symm (zd hc2 NR.nb)
    have nca:a≠L.ad (.con i):=Ne.symm (zd hc2 NR.na)
    walk_at "hx"
    refine zy hc3 T.zZ T.z1B (by walk_at "hl") ?_
    rw [z82]
    have ec2:(L'.put (.held i) p p).ad (.con i)=L.ad (.con i):=(yf (by intro z;cases z)).trans (ec i)
    obtain ⟨hs4,st4⟩:=hs2.newRun (H':=upd H3 (L.ad (.con i)) (.ins A.zF (L'.own (.con i)) (zG ((i:Int) + 1) k.kind k.under k.strike k.mult k.expiry true p r k.exd))) hk2 (k':={ k with over:=true,held:=[],run:=⟨[],0,[],0⟩ }) rfl (r:=r) (b:=b) (a:=a) (dx:=dx) NR.nr NR.nb NR.na NR.rb NR.ra NR.ba
     (by rw [ec2,z9,Zj];rfl) (by rw [z6 ncr];exact NR.obj) (by rw [z6 ncb];exact NR.base) (by rw [z6 nca];exact NR.asg) (fun x o e hx=>by rw [ec2] at hx;rw [z6 hx];exact NR.same _ _ e)
    have em:({ m with cons:=(((ym m.turn m.cons i).set i { k with over:=true }).set i { k with over:=true,held:=[] }).set i { k with over:=true,held:=[],run:=⟨[],0,[],0⟩ } }:HouM) = { m with cons:=ym m.turn m.cons (i + 1) }:=by rw [List.set_set,List.set_set,es]
    have hs4:Hs A.cs (upd H3 (L.ad (.con i)) (.ins A.zF (L'.own (.con i)) (zG ((i:Int) + 1) k.kind k.under k.strike k.mult k.expiry true p r k.exd))) ((L'.put (.held i) p p).setRun i r b a dx) { m with cons:=ym m.turn m.cons (i + 1) }:=by rw [← em];exact hs4
    have st4:Step A.cs H2 (L'.put (.held i) p p) { m with cons:=((ym m.turn m.cons i).set i { k with over:=true }).set i { k with over:=true,held:=[] } } (upd H3 (L.ad (.con i)) (.ins A.zF (L'.own (.con i)) (zG ((i:Int) + 1) k.kind k.under k.strike k.mult k.expiry true p r k.exd))) ((L'.put (.held i) p p).setRun i r b a dx) { m with cons:=ym m.turn m.cons (i + 1) }:=by rw [← em];exact st4
    have eo:∀ n,n≠.held i→n≠.run i→n≠.base i→n≠.asg i→((L'.put (.held i) p p).setRun i r b a dx).ad n=L'.ad n:=fun n h1 h2 h3 h4=>(Zu h2 h3 h4).trans (yf h1)
    refine ⟨_,(L'.put (.held i) p p).setRun i r b a dx,rfl,hs4,((st'.trans st1).trans st2).trans st4,?_,?_,fun j=>?_⟩
    ·rw [eo _ (by intro z;cases z) (by intro z;cases z) (by intro z;cases z) (by intro z;cases z)];exact eh
    ·rw [eo _ (by intro z;cases z) (by intro z;cases z) (by intro z;cases z) (by intro z;cases z)];exact ecl
    ·rw [eo _ (by intro z;cases z) (by intro z;cases z) (by intro z;cases z) (by intro z;cases z)];exact ec j
   ·have c1:¬ k.expiry=m.turn:=c1
    have ecm:Za m.turn k=k:=by unfold Za;rw [if_neg c1]
    have es2:ym m.turn m.cons (i + 1)=ym m.turn m.cons i:=by
     rw [← es,ecm]
     apply List.ext_getElem?
     intro j
     by_cases z:i=j
     ·subst z;rw [List.getElem?_set_self (by rw [z6f];exact hlt)];exact (z6e hk).symm
     ·rw [List.getElem?_set_ne z]
    walk_at "hx"
    refine ⟨_,L',rfl,by rw [es2];exact hs',by rw [es2];exact st',eh,ecl,ec⟩
  ·rintro σ H' ⟨v',L',rfl,hs',st',eh,ecl,ec⟩
   rw [List.length_map,List.length_range,zcB] at hs' st'
   exact q H' L' hs' st' eh
noncomputable def zbK (K:PySem.W.Frag) (vs:List V) (H:Hp) (R:It→Hp→Prop):Prop:=∃ a b xs ys,vs=[.ref a,.ref b]∧SqL K H a xs∧SqL K H b ys∧R (Itz K a b) H
theorem zeV {K:PySem.W.Frag} {ta:TA} {σ : L2.St} {H:Hp} {R:It→Hp→Prop} (h:ta σ H fun vs H1=>zbK K vs H1 R):z3G K ta σ H R:=h
theorem zck:z15 ["house", "prices", "refusal", "grown", "cash", "more"] (zl z4Y) { kind:=.function,names:=[(".0",.local),("cash",.local),("more",.local)],isGenerator:=false,isCoroutine:=false } [("cash",4),("more",5)]=true:=by decide +kernel
theorem zmn {l l':List Int} {i:Nat} {x y:Int} (h:l[i]?=some x) (h':l'[i]?=some y):List.zipWith (fun a b=>a + b) (l.take (i + 1)) (l'.take (i + 1))=List.zipWith (fun a b=>a + b) (l.take i) (l'.take i) ++ [x + y]:=by
 have h1:=(List.getElem?_eq_some_iff.mp h).1
 have h2:=(List.getElem?_eq_some_iff.mp h').1
 rw [yL h,yL h',List.zipWith_append (by rw [List.length_take,List.length_take];omega)];rfl
theorem z7X {C:Cs} {L:Lay} {m:HouM} {D d:Addr} {l:List Int} (n:Nm) (o:HO) (h1:n≠.ca) (h2:n≠.house) (e:cont C (L.put .ca D d) { m with cash:=l } n=some o):cont C L m n=some o:=by
 cases n <;> first | exact e | exact absurd rfl h1 | exact absurd rfl h2
theorem zhT {C:Cs} {L:Lay} {m:HouM} {D d:Addr} {l:List Int} (n:Nm) (o:HO) (h1:n≠.pr) (h2:n≠.house) (e:cont C (L.put .pr D d) { m with prices:=l } n=some o):cont C L m n=some o:=by
 cases n <;> first | exact e | exact absurd rfl h1 | exact absurd rfl h2
theorem zhU {C:Cs} {L:Lay} {m:HouM} {D d:Addr} {l:List Int} (n:Nm) (o:HO) (h1:n≠.sp) (h2:n≠.house) (e:cont C (L.put .sp D d) { m with spent:=l } n=some o):cont C L m n=some o:=by
 cases n <;> first | exact e | exact absurd rfl h1 | exact absurd rfl h2
theorem zhV {C:Cs} {L:Lay} {m:HouM} {D d:Addr} (n:Nm) (o:HO) (h1:n≠.tr) (h2:n≠.house) (e:cont C (L.put .tr D d) { m with trades:=[] } n=some o):cont C L m n=some o:=by
 cases n with
 | trd key=>cases e
 | tr=>exact absurd rfl h1
 | house=>exact absurd rfl h2
 | _=>exact e
noncomputable def zam (A:Ad):Sp:=fun vs H Q _=>∃ (L:Lay) (m:HouM) (s:Vbchaa.State) (pl:Addr) (new:List Int),vs=[.ref (L.ad .house),.ref pl]∧Hs A.cs H L m∧Rel m s∧Ok s∧H pl=some (.lst (new.map V.int))∧yk A.cs L m pl∧Ans A (.turn new) H L m s Q
theorem zh7 (T:Tx K mg A) (z2x:Good P w K mg base 4 A.Jc ["house"] (zag A)) (z2I:Good P w K mg base 3 A.Jn ["house", "prices"] (zar A)) (z36:Good P w K mg base 2 A.JL ["house", "prices"] (zaP A)):Good P w K mg base 5 A.Ji ["house", "prices"] (zam A):=by
 refine Good.of T.zlr z05 (fun _ _ _ _ _ _=>us2 (fun _ _=>rfl)) (fun vs H Q E h=>?_) (fun cdv A1 outer s0 H vs Q E hr h=>?_)
 ·obtain ⟨L,m,s,pl,new,rfl,_⟩:=h;rfl
 ·obtain ⟨L,m,s,pl,new,rfl,hs,rel,o,hpl,fpl,q⟩:=h
  refine ⟨_,(z7 (zp (i:=2) z05.nd rfl (Or.inl rfl) (zm z36 hr (by decide) rfl T.JL (z0 (pv 0) (z0 (pv 1) z8)))) (z7 (zi (zq Zd (pv 2) (zf (i:=0) T.yV rfl) (zo _)) (za (ze (zA (z0 (pv 2) z8)))) zj) (z7 (zp (i:=3) z05.nd rfl (Or.inl rfl) (zm z2I hr (by decide) rfl T.Jn (z0 (pv 0) (z0 (pv 1) z8)))) (z7 (zB (K:=K) (pv 0) (zi5 rfl z05.nd (zmk (K:=K) rfl T.zcj (z0 (zc (K:=K) (pv 0) rfl) (z0 (pv 3) z8))) (z65 (own:=[("cash",4),("more",5)]) zck) (fun _ _ _ _ _=>(jS (K:=K) (n:=2) rfl (Zi (y6 (i:=4) z05.nd rfl (Or.inl rfl)) (Zi (y6 (i:=5) z05.nd rfl (Or.inl rfl)) jw)))) (fun _ _ _ _ _=>z8c) (fun _ _ _ _ _=>(zz Zh (pv 4) (pv 5)))) rfl) (z7 (zX (zm z2x hr (by decide) rfl T.Jc (z0 (pv 0) z8))) (z7 (zB (K:=K) (pv 0) (z1H (zmh (K:=K)) rfl T.zch zco (z0 (pv 1) z8)) rfl) (z7 (zB (K:=K) (pv 0) Yd rfl) (z7 (zB (K:=K) (pv 0) Yd rfl) (z7 (z5F (K:=K) (pv 0) zg z1r) (za (ze (zz z0K (zA (z0 (zc (K:=K) (pv 0) rfl) z8)) (pv 3))))))))))))),?_⟩
  have wf:=rel.wf o
  walk_at "hx"
  refine ⟨L,m,pl,new,rfl,hs,hpl,?_⟩
  walk_at "hx"
  refine zW (fun c0=>?_) fun c0=>?_
  ·walk_at "hx"
   exact ⟨yy,fun p hp=>q.ref hs rel (zjz rel c0) (Same.refl H) hp⟩
  obtain ⟨hrg,hlen,e1⟩:=zbT rel o.c c0
  have r1:=rel.turnOver o.c new
  walk_at "hx"
  refine ⟨L,m,pl,new,rfl,hs,wf,fun i k hk=>rel.hb o.c i k hk,hpl,hlen,fun H1 p1 sm1 np1 hp1=>?_⟩
  have hs1:=hs.ofSame sm1
  have fp1:yk A.cs L m p1:=hs.free np1
  have hcN:m.cash.length=(yx m new).length:=(z3D m new).symm
  have h12:=wf.cashN
  walk_at "hx"
  refine z6X ?_
  refine zeV ?_
  walk_at "hx"
  refine ⟨_,_,_,_,rfl,SqL.of hs1.ca,SqL.of hp1,fun D hD=>?_⟩
  refine zfj (xs:=m.cash.map V.int) (ys:=(yx m new).map V.int) (fun i H'=>Same H1 H'∧H' D=some (.lst ((List.zipWith (fun a b=>a + b) (m.cash.take i) ((yx m new).take i)).map V.int))) (by rw [List.length_map,List.length_map,hcN]) ⟨yC hD,by rw [z9];rfl⟩ (fun i H' _ ⟨sm,_⟩=>⟨SqL.of (sm _ _ hs1.ca),SqL.of (sm _ _ hp1)⟩) ?_ ?_
  ·rintro i x y T1 H' hx hy ⟨sm,hDi⟩ hT
   rw [List.getElem?_map] at hx hy
   cases hzx:m.cash[i]? with
   | none=>rw [hzx] at hx;cases hx
   | some vx=>
    rw [hzx] at hx
    have hx:=(Option.some.inj hx).symm
    subst hx
    cases hzy:(yx m new)[i]? with
    | none=>rw [hzy] at hy;cases hy
    | some vy=>
     rw [hzy] at hy
     have hy:=(Option.some.inj hy).symm
     subst hy
     refine jq z9 ?_
     refine ⟨rfl,?_⟩
     unfold z5v
     refine yW rfl ?_
     walk_at "hx"
     have nDT:D≠T1:=zd hDi hT
     refine ⟨_,by rw [z6 nDT];exact hDi,?_,ZM (ZM sm (sm.free hT)) hD,?_⟩
     ·rw [List.length_map,List.length_zipWith,List.length_take]
      exact Nat.lt_of_le_of_lt (Nat.le_trans (Nat.min_le_left _ _) (Nat.min_le_right _ _)) (Nat.lt_of_le_of_lt h12 (by decide))
     ·rw [z9,zmn hzx hzy,List.map_append];rfl
  ·rintro H2 ⟨sm2,hD2⟩
   rw [List.length_map,List.take_length,hcN,List.take_length] at hD2
   have hh2:=sm2 _ _ (Zq hs1)
   have nDh:L.ad .house≠D:=zd (Zq hs1) hD
   walk_at "hx"
   refine zy hh2 T.zO T.z4o (by walk_at "hl") ?_
   rw [zif]
   obtain ⟨hs3,st3⟩:=hs1.newPart (n0:=.ca) (by intro z;cases z) (H':=upd H2 (L.ad .house) (.ins A.zM (L.own .house) (zC m.turn (L.ad .pr) (L.ad .cl) D (L.ad .tr) (L.ad .sp)))) (p:=D) (d:=D) (m':={ m with cash:=List.zipWith (fun a b=>a + b) m.cash (yx m new) }) hD rfl (by rw [z6 (Ne.symm nDh)];exact hD2) (by rw [z9];rfl) (fun n o h1 h2 e=>z7X n o h1 h2 e) (fun b o e hb=>by rw [z6 hb];exact sm2 _ _ e)
   have st3:Step A.cs H L m _ _ _:=(Step.ofSame (C:=A.cs) (L:=L) (m:=m) sm1).trans st3
   obtain ⟨hpl3,fpl3⟩:=st3.keeps hpl fpl
   have hp13:upd H2 (L.ad .house) (.ins A.zM (L.own .house) (zC m.turn (L.ad .pr) (L.ad .cl) D (L.ad .tr) (L.ad .sp))) p1=some (.lst ((yx m new).map V.int)):=by
    rw [z6 (yX hp1 (Zq hs1) (by intro z;cases z))];exact sm2 _ _ hp1
   have fp13:yk A.cs (L.put .ca D D) { m with cash:=List.zipWith (fun a b=>a + b) m.cash (yx m new) } p1:=fun n hn z=>by
    by_cases hn2:n = .ca
    ·subst hn2
     rw [Zj] at z
     rw [z,hp1] at hD;cases hD
    ·rw [yf hn2] at z
     by_cases hn3:n = .house
     ·subst hn3;exact fp1 .house rfl z
     ·refine fp1 n ?_ z
      cases hq:cont A.cs (L.put .ca D D) { m with cash:=List.zipWith (fun a b=>a + b) m.cash (yx m new) } n with
      | none=>rw [hq] at hn;cases hn
      | some o'=>rw [z7X n o' hn2 hn3 hq];rfl
   have np1':∀ b o,H b=some o→yk A.cs L m b→b≠p1:=fun b o e _=>zd e np1
   clear hD2 hh2 sm2
   generalize upd H2 (L.ad .house) (HO.ins A.zM (L.own .house) (zC m.turn (L.ad .pr) (L.ad .cl) D (L.ad .tr) (L.ad .sp)))=H3 at hs3 st3 hpl3 hp13
   walk_at "hx"
   refine ⟨L.put .ca D D,_,by rw [yf (by intro z;cases z)];rfl,hs3,fun H4 L4 hs4 st4 eh4=>?_⟩
   rw [yf (by intro z;cases z)] at eh4
   obtain ⟨hpl4,fpl4⟩:=st4.keeps hpl3 fpl3
   obtain ⟨hp14,fp14⟩:=st4.keeps hp13 fp13
   have st4:=st3.trans st4
   clear hs3 st3 hpl3 fpl3 hp13 fp13
   dsimp only at hs4 st4 fpl4 fp14
   have hh4:=Zq hs4
   rw [eh4] at hh4
   walk_at "hx"
   refine ⟨pl,_,rfl,.inl (SqL.of hpl4),fun p5 hp5=>?_⟩
   have hh5:upd H4 p5 (.lst (new.map V.int)) (L.ad .house)=_:=(z6 (zd hh4 hp5)).trans hh4
   walk_at "hx"
   refine zy hh5 T.zO T.z4p (by walk_at "hl") ?_
   rw [zig]
   obtain ⟨hs6,st6⟩:=hs4.newPart (n0:=.pr) (by intro z;cases z) (H':=upd (upd H4 p5 (.lst (new.map V.int))) (L.ad .house) (.ins A.zM (L4.own .house) (zC m.turn p5 (L4.ad .cl) (L4.ad .ca) (L4.ad .tr) (L4.ad .sp)))) (p:=p5) (d:=p5) (m':={ ({ m with cons:=m.cons.map (Za m.turn),cash:=List.zipWith (fun a b=>a + b) m.cash (yx m new) }:HouM) with prices:=new }) hp5 rfl (by rw [z6 (Ne.symm (zd hh4 hp5))];exact z9) (by rw [eh4,z9];rfl) (fun n o h1 h2 e=>zhT n o h1 h2 e)
    (fun b o e hb=>by rw [eh4] at hb;rw [z6 hb,z6 (zd e hp5)];exact e)
   have eh6:(L4.put .pr p5 p5).ad .house=L.ad .house:=(yf (by intro z;cases z)).trans eh4
   obtain ⟨hp16,fp16⟩:=st6.keeps hp14 fp14
   have st6:=st4.trans st6
   clear hh5
   generalize upd (upd H4 p5 (.lst (new.map V.int))) (L.ad .house) (HO.ins A.zM (L4.own .house) (zC m.turn p5 (L4.ad .cl) (L4.ad .ca) (L4.ad .tr) (L4.ad .sp)))=H6 at hs6 st6 hp16
   generalize L4.put .pr p5 p5=L6 at hs6 st6 eh6 fp16
   clear hs4 st4 hpl4 fpl4 hp14 fp14 hh4 hp5
   dsimp only at hs6 st6 fp16
   have hh6:=Zq hs6
   rw [eh6] at hh6
   walk_at "hx"
   intro p7 hp7
   have hh7:upd H6 p7 (.dK []) (L.ad .house)=_:=(z6 (zd hh6 hp7)).trans hh6
   walk_at "hx"
   refine zy hh7 T.zO T.z4r (by walk_at "hl") ?_
   rw [zii]
   obtain ⟨hs8,st8⟩:=hs6.newPart (n0:=.tr) (by intro z;cases z) (H':=upd (upd H6 p7 (.dK [])) (L.ad .house) (.ins A.zM (L6.own .house) (zC m.turn (L6.ad .pr) (L6.ad .cl) (L6.ad .ca) p7 (L6.ad .sp)))) (p:=p7) (d:=p7) (m':={ ({ m with cons:=m.cons.map (Za m.turn),cash:=List.zipWith (fun a b=>a + b) m.cash (yx m new),prices:=new }:HouM) with trades:=[] }) hp7 rfl (by rw [z6 (Ne.symm (zd hh6 hp7))];exact z9) (by rw [eh6,z9];rfl) (fun n o h1 h2 e=>zhV n o h1 h2 e)
    (fun b o e hb=>by rw [eh6] at hb;rw [z6 hb,z6 (zd e hp7)];exact e)
   have eh8:(L6.put .tr p7 p7).ad .house=L.ad .house:=(yf (by intro z;cases z)).trans eh6
   obtain ⟨hp18,fp18⟩:=st8.keeps hp16 fp16
   have st8:=st6.trans st8
   clear hh7
   generalize upd (upd H6 p7 (.dK [])) (L.ad .house) (HO.ins A.zM (L6.own .house) (zC m.turn (L6.ad .pr) (L6.ad .cl) (L6.ad .ca) p7 (L6.ad .sp)))=H8 at hs8 st8 hp18
   generalize L6.put .tr p7 p7=L8 at hs8 st8 eh8 fp18
   clear hs6 st6 hp16 fp16 hh6 hp7
   dsimp only at hs8 st8 fp18
   have hh8:=Zq hs8
   rw [eh8] at hh8
   walk_at "hx"
   intro p9 hp9
   have hh9:upd H8 p9 (.dK []) (L.ad .house)=_:=(z6 (zd hh8 hp9)).trans hh8
   walk_at "hx"
   refine zy hh9 T.zO T.z4q (by walk_at "hl") ?_
   rw [zih]
   obtain ⟨hsA,stA⟩:=hs8.newPart (n0:=.sp) (by intro z;cases z) (H':=upd (upd H8 p9 (.dK [])) (L.ad .house) (.ins A.zM (L8.own .house) (zC m.turn (L8.ad .pr) (L8.ad .cl) (L8.ad .ca) (L8.ad .tr) p9))) (p:=p9) (d:=p9) (m':={ ({ m with cons:=m.cons.map (Za m.turn),cash:=List.zipWith (fun a b=>a + b) m.cash (yx m new),prices:=new,trades:=[] }:HouM) with spent:=[] }) hp9 rfl (by rw [z6 (Ne.symm (zd hh8 hp9))];exact z9) (by rw [eh8,z9];rfl) (fun n o h1 h2 e=>zhU n o h1 h2 e)
    (fun b o e hb=>by rw [eh8] at hb;rw [z6 hb,z6 (zd e hp9)];exact e)
   have ehA:(L8.put .sp p9 p9).ad .house=L.ad .house:=(yf (by intro z;cases z)).trans eh8
   obtain ⟨hp1A,fp1A⟩:=stA.keeps hp18 fp18
   have stA:=st8.trans stA
   clear hh9
   generalize upd (upd H8 p9 (.dK [])) (L.ad .house) (HO.ins A.zM (L8.own .house) (zC m.turn (L8.ad .pr) (L8.ad .cl) (L8.ad .ca) (L8.ad .tr) p9))=HA at hsA stA hp1A
   generalize L8.put .sp p9 p9=LA at hsA stA ehA fp1A
   clear hs8 st8 hp18 fp18 hh8 hp9
   dsimp only at hsA stA fp1A
   have hhA:=Zq hsA
   rw [ehA] at hhA
   walk_at "hx"
   refine z3H hhA T.zO T.z4s z7g ?_
   walk_at "hx"
   refine ⟨_,_,hhA,by walk_at "hl",?_⟩
   rw [zij]
   obtain ⟨hsB,stB⟩:=hsA.setTurn (m.turn + 1)
   rw [ehA] at hsB stB
   obtain ⟨hp1B,fp1B⟩:=stB.keeps hp1A fp1A
   have stB:=stA.trans stB
   dsimp only at hsB stB fp1B
   have hhB:=Zq hsB
   rw [ehA] at hhB
   generalize upd HA (L.ad .house) (HO.ins A.zM (LA.own .house) (zC (m.turn + 1) (LA.ad .pr) (LA.ad .cl) (LA.ad .ca) (LA.ad .tr) (LA.ad .sp)))=HB at hsB stB hp1B hhB
   walk_at "hx"
   refine ⟨yy,fun pa hpa=>?_⟩
   walk_at "hx"
   refine z0P z9 (by rw [z6 (zd hp1B hpa)];exact hp1B) (by rw [List.length_map,z3D];exact Nat.le_trans (show 1 + m.cash.length≤1000 by omega) (by decide)) fun pb hpb=>?_
   exact q.acc (hsB.beside (o:=.lst [V.int (m.turn + 1)]) hpa) (fun b o e f=>⟨by rw [z6 (zd (stB b o e f).1 hpa)];exact (stB b o e f).1,(stB b o e f).2⟩) ehA e1 r1 hpb
theorem sk {σ : L2.St} {H:Hp} {D:Ends} {t u:TS} {k:Nat} {n z:Int} (e : σ[k]?=some (some (.int n))) (ne:n≠z) (h:u D σ H):Y0 (jP (YD (tOp rEq (yg k) (tC (.int z)))) t jQ) u D σ H :=
 z3S (z3L (z3T (z3P (z3U e (i_c (z3Q (z3I (js (decide_eq_false ne) h))))))))
theorem hit {σ : L2.St} {H:Hp} {D:Ends} {t u:TS} {k:Nat} {n z:Int} (e : σ[k]?=some (some (.int n))) (ne:n=z) (h:t { D with nx:=u D } σ H):Y0 (jP (YD (tOp rEq (yg k) (tC (.int z)))) t jQ) u D σ H :=
 z3S (z3L (z3T (z3P (z3U e (i_c (z3Q (z3I (yW (decide_eq_true ne) h))))))))
noncomputable def zae (A:Ad):Sp:=fun vs H Q _=>∃ (L:Lay) (m:HouM) (s:Vbchaa.State) (n:Int) (rp:Addr) (row:List Int) (c:Vbchaa.Call),vs=[.ref (L.ad .house),.int n,.ref rp]∧Hs A.cs H L m∧Rel m s∧Ok s∧H rp=some (.lst (row.map V.int))∧yk A.cs L m rp∧IsC n row c∧n≤8∧Ans A c H L m s Q
theorem zgT (T:Tx K mg A) (z2r:Good P w K mg base 6 A.J5 ["house", "key", "a"] (zab A)) (z2D:Good P w K mg base 5 A.Ji ["house", "prices"] (zam A)) (z2E:Good P w K mg base 4 A.Jj ["house", "a", "c", "n"] (zan A)) (z2G:Good P w K mg base 3 A.Jl ["house", "key", "side", "taker"] (zap A)) (z2M:Good P w K mg base 1 A.Jr ["house"] (zav A)) (z2N:Good P w K mg base 6 A.Js ["house", "kind", "u", "strike", "multiple", "expiry"] (zaw A)) (z2O:Good P w K mg base 2 A.Jt ["house", "p"] (zax A)) (z2S:Good P w K mg base 5 A.Jx ["house", "key"] (zaB A)) (z32:Good P w K mg base 5 A.JH ["house", "key", "c", "buyer", "seller", "lots", "price"] (zaL A)):Good P w K mg base 7 A.J9 ["house", "number", "row"] (zae A):=by
 refine Good.of T.zld zjU (fun _ _ _ _ _ _=>us3 (fun _ _ _=>rfl)) (fun vs H Q E h=>?_) (fun cdv A1 outer s0 H vs Q E hr h=>?_)
 ·obtain ⟨L,m,s,n,rp,row,c,rfl,_⟩:=h;rfl
 ·obtain ⟨L,m,s,n,rp,row,c,rfl,hs,rel,o,hrp,frp,hc,hn,q⟩:=h
  refine ⟨_,(z7 (zi (zq zL (pv 1) (zf (i:=0) T.zde rfl) (zo _)) (za (ze (zm z2M hr (by decide) rfl T.Jr (z0 (pv 0) z8)))) zj) (z7 (zi (zq zL (pv 1) (zf (i:=1) T.zdK rfl) (zo _)) (za (ze (zm z2O hr (by decide) rfl T.Jt (z0 (pv 0) (z0 (zD (zE (K:=K)) (pv 2) zg (fun _ _=>rfl)) z8))))) zj) (z7 (zi (zq zL (pv 1) (zf (i:=2) T.zdi rfl) (zo _)) (za (ze (zm z2N hr (by decide) rfl T.Js (z0 (pv 0) (z0 (zD (zE (K:=K)) (pv 2) zg (fun _ _=>rfl)) (z0 (zD (zE (K:=K)) (pv 2) zg (fun _ _=>rfl)) (z0 (zD (zE (K:=K)) (pv 2) zg (fun _ _=>rfl)) (z0 (zD (zE (K:=K)) (pv 2) zg (fun _ _=>rfl)) (z0 (zD (zE (K:=K)) (pv 2) zg (fun _ _=>rfl)) z8))))))))) zj) (z7 (zi (zq zL (pv 1) (zf (i:=3) T.zdI rfl) (zo _)) (za (ze (zm z32 hr (by decide) rfl T.JH (z0 (pv 0) (z0 (zD (zE (K:=K)) (pv 2) zg (fun _ _=>rfl)) (z0 (zD (zE (K:=K)) (pv 2) zg (fun _ _=>rfl)) (z0 (zD (zE (K:=K)) (pv 2) zg (fun _ _=>rfl)) (z0 (zD (zE (K:=K)) (pv 2) zg (fun _ _=>rfl)) (z0 (zD (zE (K:=K)) (pv 2) zg (fun _ _=>rfl)) (z0 (zD (zE (K:=K)) (pv 2) zg (fun _ _=>rfl)) z8)))))))))) zj) (z7 (zi (zq zL (pv 1) (zf (i:=4) T.zdf rfl) (zo _)) (za (ze (zm z2r hr (by decide) rfl T.J5 (z0 (pv 0) (z0 (zD (zE (K:=K)) (pv 2) zg (fun _ _=>rfl)) (z0 (zD (zE (K:=K)) (pv 2) zg (fun _ _=>rfl)) z8)))))) zj) (z7 (zi (zq zL (pv 1) (zf (i:=5) T.zdk rfl) (zo _)) (za (ze (zm z2G hr (by decide) rfl T.Jl (z0 (pv 0) (z0 (zD (zE (K:=K)) (pv 2) zg (fun _ _=>rfl)) (z0 (zD (zE (K:=K)) (pv 2) zg (fun _ _=>rfl)) (z0 (zD (zE (K:=K)) (pv 2) zg (fun _ _=>rfl)) z8))))))) zj) (z7 (zi (zq zL (pv 1) (zf (i:=6) T.zdH rfl) (zo _)) (za (ze (zm z2S hr (by decide) rfl T.Jx (z0 (pv 0) (z0 (zD (zE (K:=K)) (pv 2) zg (fun _ _=>rfl)) z8))))) zj) (z7 (zi (zq zL (pv 1) (zf (i:=7) T.zdj rfl) (zo _)) (za (ze (zm z2E hr (by decide) rfl T.Jj (z0 (pv 0) (z0 (zD (zE (K:=K)) (pv 2) zg (fun _ _=>rfl)) (z0 (zD (zE (K:=K)) (pv 2) zg (fun _ _=>rfl)) (z0 (zD (zE (K:=K)) (pv 2) zg (fun _ _=>rfl)) z8))))))) zj) (za (ze (zm z2D hr (by decide) rfl T.Ji (z0 (pv 0) (z0 (pv 2) z8))))))))))))),?_⟩
  cases hc with
  | account=>
   repeat (refine sk rfl (by decide) ?_)
   refine hit rfl rfl ?_
   walk_at "hx"
   exact ⟨L,m,s,rfl,hs,rel,o,q⟩
  | under a=>
   repeat (refine sk rfl (by decide) ?_)
   refine hit rfl rfl ?_
   walk_at "hx"
   refine zV (n:=0) hrp rfl rfl ?_
   walk_at "hx"
   exact ⟨L,m,s,a,rfl,hs,rel,o,q⟩
  | contract a b c d e=>
   repeat (refine sk rfl (by decide) ?_)
   refine hit rfl rfl ?_
   walk_at "hx"
   refine zV (n:=0) hrp rfl rfl ?_
   walk_at "hx"
   refine zV (n:=1) hrp rfl rfl ?_
   walk_at "hx"
   refine zV (n:=2) hrp rfl rfl ?_
   walk_at "hx"
   refine zV (n:=3) hrp rfl rfl ?_
   walk_at "hx"
   refine zV (n:=4) hrp rfl rfl ?_
   walk_at "hx"
   exact ⟨L,m,s,a,b,c,d,e,rfl,hs,rel,o,q⟩
  | trade a b c d e f=>
   repeat (refine sk rfl (by decide) ?_)
   refine hit rfl rfl ?_
   walk_at "hx"
   refine zV (n:=0) hrp rfl rfl ?_
   walk_at "hx"
   refine zV (n:=1) hrp rfl rfl ?_
   walk_at "hx"
   refine zV (n:=2) hrp rfl rfl ?_
   walk_at "hx"
   refine zV (n:=3) hrp rfl rfl ?_
   walk_at "hx"
   refine zV (n:=4) hrp rfl rfl ?_
   walk_at "hx"
   refine zV (n:=5) hrp rfl rfl ?_
   walk_at "hx"
   exact ⟨L,m,s,a,b,c,d,e,f,rfl,hs,rel,o,q⟩
  | agree a b=>
   repeat (refine sk rfl (by decide) ?_)
   refine hit rfl rfl ?_
   walk_at "hx"
   refine zV (n:=0) hrp rfl rfl ?_
   walk_at "hx"
   refine zV (n:=1) hrp rfl rfl ?_
   walk_at "hx"
   exact ⟨L,m,s,a,b,rfl,hs,rel,o,q⟩
  | give a b c=>
   repeat (refine sk rfl (by decide) ?_)
   refine hit rfl rfl ?_
   walk_at "hx"
   refine zV (n:=0) hrp rfl rfl ?_
   walk_at "hx"
   refine zV (n:=1) hrp rfl rfl ?_
   walk_at "hx"
   refine zV (n:=2) hrp rfl rfl ?_
   walk_at "hx"
   exact ⟨L,m,s,a,b,c,rfl,hs,rel,o,q⟩
  | take a=>
   repeat (refine sk rfl (by decide) ?_)
   refine hit rfl rfl ?_
   walk_at "hx"
   refine zV (n:=0) hrp rfl rfl ?_
   walk_at "hx"
   exact ⟨L,m,s,a,rfl,hs,rel,o,q⟩
  | exercise a b c=>
   repeat (refine sk rfl (by decide) ?_)
   refine hit rfl rfl ?_
   walk_at "hx"
   refine zV (n:=0) hrp rfl rfl ?_
   walk_at "hx"
   refine zV (n:=1) hrp rfl rfl ?_
   walk_at "hx"
   refine zV (n:=2) hrp rfl rfl ?_
   walk_at "hx"
   exact ⟨L,m,s,a,b,c,rfl,hs,rel,o,q⟩
  | turn l=>
   repeat (refine sk rfl (by decide) ?_)
   walk_at "hx"
   exact ⟨L,m,s,rp,row,rfl,hs,rel,o,hrp,frp,q⟩
  | position _ _=>exact absurd hn (by decide)
  | positions _=>exact absurd hn (by decide)
  | cash _=>exact absurd hn (by decide)
  | run _=>exact absurd hn (by decide)
  | wouldAssign _ _=>exact absurd hn (by decide)
  | open_ _=>exact absurd hn (by decide)
  | trades=>exact absurd hn (by decide)
  | told=>exact absurd hn (by decide)
noncomputable def zaf (A:Ad):Sp:=fun vs H Q _=>∃ (L:Lay) (m:HouM) (s:Vbchaa.State) (n:Int) (rp:Addr) (row:List Int) (c:Vbchaa.Call),vs=[.ref (L.ad .house),.int n,.ref rp]∧Hs A.cs H L m∧Rel m s∧Ok s∧H rp=some (.lst (row.map V.int))∧IsC n row c∧9≤n∧AnsQ (Vbchaa.step s c).2 H Q
theorem zgU (T:Tx K mg A) (z2U:Good P w K mg base 2 A.Jz ["house", "a"] (zaD A)) (z2V:Good P w K mg base 3 A.JA ["house"] (zaE A)) (z2W:Good P w K mg base 2 A.JB ["house", "c"] (zaF A)) (z2X:Good P w K mg base 2 A.JC ["house", "a", "c"] (zaG A)) (z2Y:Good P w K mg base 3 A.JD ["house", "a"] (zaH A)) (z2Z:Good P w K mg base 2 A.JE ["house", "c"] (zaI A)) (z30:Good P w K mg base 3 A.JF ["house"] (zaJ A)) (z31:Good P w K mg base 5 A.JG ["house", "c", "n"] (zaK A)):Good P w K mg base 6 A.Ja ["house", "number", "row"] (zaf A):=by
 refine Good.of T.zle zjV (fun _ _ _ _ _ _=>us3 (fun _ _ _=>rfl)) (fun vs H Q E h=>?_) (fun cdv A1 outer s0 H vs Q E hr h=>?_)
 ·obtain ⟨L,m,s,n,rp,row,c,rfl,_⟩:=h;rfl
 ·obtain ⟨L,m,s,n,rp,row,c,rfl,hs,rel,o,hrp,hc,hn,q⟩:=h
  refine ⟨_,(z7 (zi (zq zL (pv 1) (zf (i:=9) T.zdB rfl) (zo _)) (za (ze (zm z2X hr (by decide) rfl T.JC (z0 (pv 0) (z0 (zD (zE (K:=K)) (pv 2) zg (fun _ _=>rfl)) (z0 (zD (zE (K:=K)) (pv 2) zg (fun _ _=>rfl)) z8)))))) zj) (z7 (zi (zq zL (pv 1) (zf (i:=10) T.zdC rfl) (zo _)) (za (ze (zm z2Y hr (by decide) rfl T.JD (z0 (pv 0) (z0 (zD (zE (K:=K)) (pv 2) zg (fun _ _=>rfl)) z8))))) zj) (z7 (zi (zq zL (pv 1) (zf (i:=11) T.zdh rfl) (zo _)) (za (ze (zm z2U hr (by decide) rfl T.Jz (z0 (pv 0) (z0 (zD (zE (K:=K)) (pv 2) zg (fun _ _=>rfl)) z8))))) zj) (z7 (zi (zq zL (pv 1) (zf (i:=12) T.zdE rfl) (zo _)) (za (ze (zm z2Z hr (by decide) rfl T.JE (z0 (pv 0) (z0 (zD (zE (K:=K)) (pv 2) zg (fun _ _=>rfl)) z8))))) zj) (z7 (zi (zq zL (pv 1) (zf (i:=13) T.zdM rfl) (zo _)) (za (ze (zm z31 hr (by decide) rfl T.JG (z0 (pv 0) (z0 (zD (zE (K:=K)) (pv 2) zg (fun _ _=>rfl)) (z0 (zD (zE (K:=K)) (pv 2) zg (fun _ _=>rfl)) z8)))))) zj) (z7 (zi (zq zL (pv 1) (zf (i:=14) T.zdz rfl) (zo _)) (za (ze (zm z2W hr (by decide) rfl T.JB (z0 (pv 0) (z0 (zD (zE (K:=K)) (pv 2) zg (fun _ _=>rfl)) z8))))) zj) (z7 (zi (zq zL (pv 1) (zf (i:=15) T.zdJ rfl) (zo _)) (za (ze (zm z30 hr (by decide) rfl T.JF (z0 (pv 0) z8)))) zj) (za (ze (zm z2V hr (by decide) rfl T.JA (z0 (pv 0) z8))))))))))),?_⟩
  cases hc with
  | account=>exact absurd hn (by decide)
  | under _=>exact absurd hn (by decide)
  | contract _ _ _ _ _=>exact absurd hn (by decide)
  | trade _ _ _ _ _ _=>exact absurd hn (by decide)
  | agree _ _=>exact absurd hn (by decide)
  | give _ _ _=>exact absurd hn (by decide)
  | take _=>exact absurd hn (by decide)
  | exercise _ _ _=>exact absurd hn (by decide)
  | turn _=>exact absurd hn (by decide)
  | position a b=>
   repeat (refine sk rfl (by decide) ?_)
   refine hit rfl rfl ?_
   walk_at "hx"
   refine zV (n:=0) hrp rfl rfl ?_
   walk_at "hx"
   refine zV (n:=1) hrp rfl rfl ?_
   walk_at "hx"
   exact ⟨L,m,s,a,b,rfl,hs,rel,q⟩
  | positions a=>
   repeat (refine sk rfl (by decide) ?_)
   refine hit rfl rfl ?_
   walk_at "hx"
   refine zV (n:=0) hrp rfl rfl ?_
   walk_at "hx"
   exact ⟨L,m,s,a,rfl,hs,rel,o,q⟩
  | cash a=>
   repeat (refine sk rfl (by decide) ?_)
   refine hit rfl rfl ?_
   walk_at "hx"
   refine zV (n:=0) hrp rfl rfl ?_
   walk_at "hx"
   exact ⟨L,m,s,a,rfl,hs,rel,q⟩
  | run a=>
   repeat (refine sk rfl (by decide) ?_)
   refine hit rfl rfl ?_
   walk_at "hx"
   refine zV (n:=0) hrp rfl rfl ?_
   walk_at "hx"
   exact ⟨L,m,s,a,rfl,hs,rel,o,q⟩
  | wouldAssign a b=>
   repeat (refine sk rfl (by decide) ?_)
   refine hit rfl rfl ?_
   walk_at "hx"
   refine zV (n:=0) hrp rfl rfl ?_
   walk_at "hx"
   refine zV (n:=1) hrp rfl rfl ?_
   walk_at "hx"
   exact ⟨L,m,s,a,b,rfl,hs,rel,o,q⟩
  | open_ a=>
   repeat (refine sk rfl (by decide) ?_)
   refine hit rfl rfl ?_
   walk_at "hx"
   refine zV (n:=0) hrp rfl rfl ?_
   walk_at "hx"
   exact ⟨L,m,s,a,rfl,hs,rel,q⟩
  | trades=>
   repeat (refine sk rfl (by decide) ?_)
   refine hit rfl rfl ?_
   walk_at "hx"
   exact ⟨L,m,s,rfl,hs,rel,o,q⟩
  | told=>
   repeat (refine sk rfl (by decide) ?_)
   walk_at "hx"
   exact ⟨L,m,s,rfl,hs,rel,o,q⟩
noncomputable def z5e (A:Ad):Sp:=fun vs H Q _=>∃ (L:Lay) (m:HouM) (s:Vbchaa.State) (n:Int) (rp:Addr) (row:List Int) (c:Vbchaa.Call),vs=[.ref (L.ad .house),.int n,.ref rp]∧Hs A.cs H L m∧Rel m s∧Ok s∧H rp=some (.lst (row.map V.int))∧yk A.cs L m rp∧IsC n row c∧Ans A c H L m s Q
theorem zgR (T:Tx K mg A) (z2v:Good P w K mg base 7 A.J9 ["house", "number", "row"] (zae A)) (z2w:Good P w K mg base 6 A.Ja ["house", "number", "row"] (zaf A)):Good P w K mg base 8 A.J7 ["house", "number", "row"] (z5e A):=by
 refine Good.of T.zlb zjT (fun _ _ _ _ _ _=>us3 (fun _ _ _=>rfl)) (fun vs H Q E h=>?_) (fun cdv A1 outer s0 H vs Q E hr h=>?_)
 ·obtain ⟨L,m,s,n,rp,row,c,rfl,_⟩:=h;rfl
 ·obtain ⟨L,m,s,n,rp,row,c,rfl,hs,rel,o,hrp,frp,hc,q⟩:=h
  refine ⟨_,(z7 (zi (zq yz (pv 1) (zf (i:=8) T.z6J rfl) (zo _)) (za (ze (zm z2v hr (by decide) rfl T.J9 (z0 (pv 0) (z0 (pv 1) (z0 (pv 2) z8)))))) zj) (za (ze (zm z2w hr (by decide) rfl T.Ja (z0 (pv 0) (z0 (pv 1) (z0 (pv 2) z8))))))),?_⟩
  walk_at "hx"
  refine zt (fun c1=>?_) fun c1=>?_
  ·walk_at "hx"
   exact ⟨L,m,s,n,rp,row,c,rfl,hs,rel,o,hrp,frp,hc,c1,q⟩
  ·walk_at "hx"
   have e:=zkH (s:=s) hc (by omega)
   refine ⟨L,m,s,n,rp,row,c,rfl,hs,rel,o,hrp,hc,by omega,fun H' p sm hp hl=>?_⟩
   exact q H' L m p (hs.ofSame sm) (Step.ofSame sm) rfl (by rw [e];exact rel) hl (fun b o e _=>zd e hp) (hs.free hp)
noncomputable def CallsAt (K:PySem.W.Frag) (A:Ad) (H:Hp) (L:Lay) (m:HouM) (t a:Addr) (xs:List V):Prop:=(Rd H a (.lst xs)∧yk A.cs L m a∧a≠t)∨∀ H',SqL K H' a xs
section
variable {K:PySem.W.Frag} {A:Ad} {H H':Hp} {L L':Lay} {m m':HouM} {t a p:Addr} {xs:List V} {o:HO}
theorem CallsAt.sq (h:CallsAt K A H L m t a xs):SqL K H a xs:=by
 rcases h with ⟨h,_⟩ | h
 ·exact .inl h
 ·exact h H
theorem CallsAt.step (h:CallsAt K A H L m t a xs) (st:Step A.cs H L m H' L' m'):CallsAt K A H' L' m' t a xs:=by
 rcases h with ⟨h | ⟨o,h⟩,f,n⟩ | h
 ·obtain ⟨e,f'⟩:=st.keeps h f
  exact .inl ⟨.inl e,f',n⟩
 ·obtain ⟨e,f'⟩:=st.keeps h f
  exact .inl ⟨.inr ⟨o,e⟩,f',n⟩
 ·exact .inr h
theorem CallsAt.new (h:CallsAt K A H L m t a xs) (hp:H p=none):CallsAt K A (upd H p o) L m t a xs:=h.step (Step.beside hp)
theorem CallsAt.told (h:CallsAt K A H L m t a xs):CallsAt K A (upd H t o) L m t a xs:=by
 rcases h with ⟨h | ⟨ob,h⟩,f,n⟩ | h
 ·exact .inl ⟨.inl (by rw [z6 n];exact h),f,n⟩
 ·exact .inl ⟨.inr ⟨ob,by rw [z6 n];exact h⟩,f,n⟩
 ·exact .inr h
end
theorem zcJ (ns:List Int) {i j:Nat} (h:i≤j) (hj:j≤ns.length):J3 (ns.map V.int) (some (i:Int)) (some (j:Int))=((ns.drop i).take (j - i)).map V.int:=by
 unfold J3
 rw [HT.sIx_nat,HT.sIx_nat,List.length_map,Nat.min_eq_left (show i≤ns.length by omega),Nat.min_eq_left hj,← List.map_drop,← List.map_take]
noncomputable def zbI (K:PySem.W.Frag) (x:V) (lo hi:Option Int) (H:Hp) (Q:VK):Prop:=z0O K x lo hi H Q
theorem zeP {K:PySem.W.Frag} {te t1 t2:TE} {σ : L2.St} {H:Hp} {Q:VK} (h:te σ H fun x H1=>t1 σ H1 fun l H2=>∃ i,l = .int i∧t2 σ H2 fun u H3=>∃ j,u = .int j∧zbI K x (some i) (some j) H3 Q):tSl (z0O K) te (z0W t1) (z0W t2) σ H Q:=h
theorem z6W {i:Int} {P:Int→Prop} (h:P i):∃ k,V.int i = .int k∧P k:=⟨i,rfl,h⟩
noncomputable def zbJ (c:TT) (tb:TS) (D:Ends) (σ : L2.St) (H:Hp):Prop:=∃ W:Nat→L2.St→Hp→Prop,(∃ m,W m σ H)∧∀ m σ H,W m σ H →
 c σ H fun b H1=>if b=true then ∃ N:L2.St→Hp→Prop,(∀ σ' H',N σ' H'→∃ m',m' < m∧W m' σ' H')∧tb { D with nx:=N,ct:=N,bk:=D.nx } σ H1 else D.nx σ H1
theorem zeU {c:TT} {tb:TS} {D:Ends} {σ : L2.St} {H:Hp} (h:zbJ c tb D σ H):zbe c tb D σ H:=h
structure Mid (K:PySem.W.Frag) (A:Ad) (hv cl t:Addr) (ns all:List Int) (n:Nat) (σ : L2.St) (H:Hp) (j:Nat) (L:Lay) (m:HouM) (s:Vbchaa.State) (f:Nat) (cs:List (List (List Int))) (T:List Int):Prop where
 st:∃ a b c d,σ = [some (.ref hv),some (.ref cl),some (.ref t),some (.int j),a,b,c,d]
 eh:L.ad .house=hv
 hs:Hs A.cs H L m
 rel:Rel m s
 ok:Ok s
 ca:CallsAt K A H L m t cl (ns.map V.int)
 tl:H t=some (.lst (T.map V.int))
 fr:yk A.cs L m t
 jl:j≤ns.length
 ecs:PyFlat.calls PyVbchaa.shape f (ns.drop j)=some cs
 du:all=T ++ due s cs
 en:n=cs.length
 len:T.length + cs.length * 1001≤400400
noncomputable def zad (A:Ad) (K:PySem.W.Frag):Sp:=fun vs H Q _=>∃ (L:Lay) (m:HouM) (s:Vbchaa.State) (cl:Addr) (ns:List Int) (f:Nat) (cs:List (List (List Int))),vs=[.ref (L.ad .house),.ref cl]∧Hs A.cs H L m∧Rel m s∧Ok s ∧
 ((∃ o,H cl=some o∧(o = .lst (ns.map V.int)∨∃ ob,o = .frz ob (.lst (ns.map V.int)))∧yk A.cs L m cl)∨∀ H',SqL K H' cl (ns.map V.int))∧PyFlat.calls PyVbchaa.shape f ns=some cs∧cs.length≤400 ∧
 ∀ H' p,H' p=some (.lst ((due s cs).map V.int))→Q (.ref p) H'
theorem zgS (T:Tx K mg A) (z2t:Good P w K mg base 8 A.J7 ["house", "number", "row"] (z5e A)):Good P w K mg base 9 A.J8 ["house", "calls"] (zad A K):=by
 refine Good.of T.zlc Yi (fun _ _ _ _ _ _=>us2 (fun _ _=>rfl)) (fun vs H Q E h=>?_) (fun cdv A1 outer s0 H vs Q E hr h=>?_)
 ·obtain ⟨L,m,s,cl,ns,f,cs,rfl,_⟩:=h;rfl
 ·obtain ⟨L,m,s,cl,ns,f,cs,rfl,hs,rel,o,hcl,hcs,hlen,q⟩:=h
  refine ⟨_,(z7 (zp (i:=2) Yi.nd rfl (Or.inl rfl) (zA z8)) (z7 (zp (i:=3) Yi.nd rfl (Or.inl rfl) zg) (z7 (ziI PassesOwn.never (zq jv (pv 3) (yn (Z1 (K:=K)) rfl T.yO yP (z0 (pv 1) z8)) (zo _)) (z7 (zp (i:=4) Yi.nd rfl (Or.inl rfl) (zD (zE (K:=K)) (pv 1) (pv 3) (fun _ _=>rfl))) (z7 (zp (i:=5) Yi.nd rfl (Or.inl rfl) (zz Zh (pv 3) zg)) (z7 (zi (zq zL (pv 4) (zf (i:=8) T.z6J rfl) (zo _)) (z7 (zp (i:=5) Yi.nd rfl (Or.inl rfl) (zz Zh (pv 3) zg)) (za (zp (i:=6) Yi.nd rfl (Or.inl rfl) (zz Zh (pv 5) (zD (zE (K:=K)) (pv 1) (zz Zh (pv 3) zg) (fun _ _=>rfl)))))) (za (zp (i:=6) Yi.nd rfl (Or.inl rfl) (zz Zh (pv 5) (zD (zmf (K:=K)) (z7Z (v:=.ref A.z3Z) rfl T.zdL rfl) (pv 4) (fun _ _=>rfl)))))) (z7 (zp (i:=7) Yi.nd rfl (Or.inl rfl) (zm z2t hr (by decide) rfl T.J7 (z0 (pv 0) (z0 (pv 4) (z0 (zi9 (zml (K:=K)) (pv 1) (z88 (pv 5)) (z88 (pv 6))) z8))))) (z7 (zX (xbm (K:=K) PySem.F.plainAttrs_list PySem.F.slot_list_append PySem.F.type_list_append Yz (pv 2) (z0 (yn (Z1 (K:=K)) rfl T.yO yP (z0 (pv 7) z8)) z8))) (z7 (zX (xbm (K:=K) PySem.F.plainAttrs_list PySem.F.slot_list_extend PySem.F.type_list_extend j5 (pv 2) (z0 (pv 7) z8))) (za (zp (i:=3) Yi.nd rfl (Or.inl rfl) (pv 6)))))))))) (za (ze (pv 2)))))),?_⟩
  walk_at "hx"
  refine ⟨Nat.zero_le _,fun t ht=>?_⟩
  walk_at "hx"
  refine zeU ⟨fun n σ H'=>∃ j L' m' s' f' cs' T,Mid K A (L.ad .house) cl t ns (due s cs) n σ H' j L' m' s' f' cs' T,⟨cs.length,0,L,m,s,f,cs,[],⟨none,none,none,none,rfl⟩,rfl,hs.beside ht,rel,o,?_,z9,hs.free ht,Nat.zero_le _,hcs,rfl,rfl,by simp;omega⟩,?_⟩
  ·rcases hcl with ⟨ob,e,h1,h2⟩ | h
   ·have ne:cl≠t:=zd e ht
    rcases h1 with rfl | ⟨o2,rfl⟩
    ·exact .inl ⟨.inl (by rw [z6 ne];exact e),h2,ne⟩
    ·exact .inl ⟨.inr ⟨o2,by rw [z6 ne];exact e⟩,h2,ne⟩
   ·exact .inr h
  ·rintro n σ H' ⟨j,L',m',s',f',cs',T1,M⟩
   obtain ⟨⟨a1,b1,c1,d1,rfl⟩,eh,hs',rel',ok',ca,tl,fr,jl,ecs,du,en,hl⟩:=M
   walk_at "hx"
   refine ⟨cl,_,rfl,.inl ca.sq,?_⟩
   rw [List.length_map]
   walk_at "hx"
   refine zt (fun cj=>?_) fun cj=>?_
   ·have hj:j < ns.length:=by omega
    have ed:ns.drop j=ns[j] :: ns.drop (j + 1):=List.drop_eq_getElem_cons hj
    have hget:ns[j]?=some ns[j]:=List.getElem?_eq_getElem hj
    generalize ns[j]=p at ed hget
    rw [ed] at ecs
    obtain ⟨f2,cs2,c,c0,st,k,rfl,ecall,hp,hstn,hc,ecs2,hor⟩:=zd6 ecs
    rw [← ed] at hstn hc ecs2
    rw [List.length_drop] at hstn
    refine ⟨fun σ2 H2=>∃ n2 j2 L2' m2 s2 f2 cs2 T2,n2 < n∧Mid K A (L.ad .house) cl t ns (due s cs) n2 σ2 H2 j2 L2' m2 s2 f2 cs2 T2,fun σ2 H2 ⟨n2,j2,L2',m2,s2,f2,cs2,T2,h1,h2⟩=>⟨n2,h1,j2,L2',m2,s2,f2,cs2,T2,h2⟩,?_⟩
    walk_at "hx"
    refine z0u ca.sq (k:=j) rfl (by rw [List.getElem?_map,hget];rfl) ?_
    walk_at "hx"
    have common:∀ (Dx:Ends) (w4:Option V),Dx.nx=(fun σ2 H2=>∃ n2 j2 L2' m2 s2 f2 cs2 T2,n2 < n∧Mid K A (L.ad .house) cl t ns (due s cs) n2 σ2 H2 j2 L2' m2 s2 f2 cs2 T2) →
      Y0 (z0c (z0d (z5e A) [] E0 (Yj (yg 0) (Yj (yg 4) (Yj (tSl (z0O K) (yg 1) (z0W (yg 5)) (z0W (yg 6))) ZO)))) (Y5 7))
       (Y0 (z2b (tBM K "list" z4M (yg 2) (Yj (tCB (z1O K) (Yj (yg 7) ZO)) ZO))) (Y0 (z2b (tBM K "list" z4N (yg 2) (Yj (yg 7) ZO))) (z0c (yg 6) (Y5 3)))) Dx
       [some (.ref (L.ad .house)),some (.ref cl),some (.ref t),some (.int j),some (.int p),some (.int ((j + st:Nat):Int)),some (.int ((j + st + k:Nat):Int)),d1] H':=by
     intro Dx w4 eD
     walk_at "hx"
     refine zeP ?_
     walk_at "hx"
     refine z6W ?_
     walk_at "hx"
     refine z6W ?_
     refine ⟨cl,_,rfl,ca.sq,fun rp hrp=>?_⟩
     rw [zcJ ns (show j + st≤j + st + k by omega) (by omega),show j + st + k - (j + st)=k by omega,← List.drop_drop]
     walk_at "hx"
     have ntr:t≠rp:=zd tl hrp
     refine ⟨L',m',s',p,rp,_,c,by rw [eh];rfl,hs'.beside hrp,rel',ok',z9,hs'.free hrp,hc,fun H2 L2' m2 pa hs2 st2 eh2 rel2 hpa np fpa=>?_⟩
     have hl2:=zc3 ok' c
     have ok2:=ok'.step c
     have estep:VbchaaNeutral.step s' c0=Vbchaa.step s' c:=by unfold VbchaaNeutral.step;rw [ecall]
     rw [zd0,estep] at du
     generalize (Vbchaa.step s' c).2=ans at du hpa hl2
     generalize (Vbchaa.step s' c).1=s2 at du ok2 rel2
     have ca2:=(ca.new (o:=.lst ((((ns.drop j).drop st).take k).map V.int)) hrp).step st2
     have tl1:upd H' rp (.lst ((((ns.drop j).drop st).take k).map V.int)) t=some (.lst (T1.map V.int)):=by rw [z6 ntr];exact tl
     obtain ⟨tl2,fr2⟩:=st2.keeps tl1 fr
     have nta:t≠pa:=np t _ tl1 fr
     rw [List.length_cons] at hl en
     walk_at "hx"
     refine ⟨Z0 tl2,?_⟩
     walk_at "hx"
     refine ZF hpa ?_
     walk_at "hx"
     refine YB tl2 (by rw [List.length_map];exact Nat.lt_of_le_of_lt (show T1.length≤400400 by omega) (by decide)) ?_
     walk_at "hx"
     refine ⟨Z0 z9,?_⟩
     walk_at "hx"
     refine jb z9 (by rw [z6 (Ne.symm nta)];exact hpa) (by rw [List.length_append,List.length_map,List.length_map];exact Nat.le_trans (show T1.length + 1 + ans.length≤401401 by omega) (by decide)) ?_
     rw [ye]
     walk_at "hx"
     rw [eD]
     refine ⟨cs2.length,j + st + k,L2',m2,s2,f2,cs2,T1 ++ ((ans.length:Int) :: ans),by omega,⟨_,_,_,_,rfl⟩,eh2.trans eh,hs2.updFree fr2,rel2,ok2,ca2.told,?_,fr2,by omega,?_,?_,rfl,?_⟩
     ·rw [z9,List.map_append,List.map_cons,List.append_assoc];rfl
     ·rw [List.drop_drop] at ecs2
      rw [Nat.add_assoc];exact ecs2
     ·rw [du,List.append_assoc]
     ·rw [List.length_append,List.length_cons];omega
    refine zt (fun c8=>?_) fun c8=>?_
    ·rcases hor with ⟨h8,_⟩ | ⟨_,est,er⟩
     ·exact absurd c8 h8
     ·rw [List.getElem?_drop] at er
      walk_at "hx"
      refine z0u ca.sq (k:=j + 1) (by omega) (by rw [List.getElem?_map];rw [show j + 1 + 0=j + 1 by omega] at er;rw [er];rfl) ?_
      have e1:(j:Int) + 2 + (k:Int)=((j + st + k:Nat):Int):=by omega
      have e2:(j:Int) + 2=((j + st:Nat):Int):=by omega
      refine z3R ?_
      refine z3K ?_
      rw [e1,e2]
      exact common _ none rfl
    ·rcases hor with ⟨h8,est,ek⟩ | ⟨h8,_⟩
     ·walk_at "hx"
      refine ⟨_,_,_,_,rfl,rfl,T.zkE _,z5X (j:=p.toNat) (v:=V.int (wid p)) (by omega) ?_,?_⟩
      ·show (([0,1,5,6,2,3,1,3,0,2,1,1,1,2,1,0,0]:List Int).map V.int)[p.toNat]?=_
       rw [List.getElem?_map,zmd hp h8];rfl
      have e1:(j:Int) + 1 + (wid p:Int)=((j + st + k:Nat):Int):=by omega
      have e2:(j:Int) + 1=((j + st:Nat):Int):=by omega
      refine z3R ?_
      refine z3K ?_
      rw [e1,e2]
      exact common _ none rfl
     ·exact absurd h8 c8
   ·have hj:j=ns.length:=by omega
    rw [hj,List.drop_length] at ecs
    have:=zcy ecs
    subst this
    rw [zd1,List.append_nil] at du
    walk_at "hx"
    exact q H' t (by rw [du];exact tl)
theorem zjD:Rel m0 Vbchaa.start:=⟨rfl,rfl,rfl,rfl,fun i k hi=>by simp [m0] at hi,List.Perm.refl _,fun key x hx=>(by cases hx),rfl⟩
noncomputable def z5f (K:PySem.W.Frag):Sp:=fun vs H Q _=>∃ (cl:Addr) (ns:List Int),vs=[.ref cl]∧SqL K H cl (ns.map V.int)∧PyVbchaa.answers_asked ns=true∧∀ H' p,H' p=some (.lst ((PyVbchaa.answers ns).map V.int))→Q (.ref p) H'
theorem zgV {P:Program} {w:World} {K:PySem.W.Frag} {mg:Str→Option Value} {base:Heap} {A:Ad} {fd:FuncData} (F:Fun K "answers" "answers" z4X A.Jb fd) (T:Tx K mg A) (z2p:Good P w K mg base 1 A.z1g ["self"] (za9 A)) (z2u:Good P w K mg base 9 A.J8 ["house", "calls"] (zad A K)) :
  FnOk P w K mg base CX0 10 A.Jb fd ["calls"] (z5f K):=by
 refine F.ok (k:=9) zjW (fun vs H Q E h=>?_) (fun cdv A1 outer s0 H vs Q E hr h=>?_)
 ·obtain ⟨cl,ns,rfl,_⟩:=h;rfl
 ·obtain ⟨cl,ns,rfl,hcl,ask,q⟩:=h
  refine ⟨_,(za (ze (zm z2u hr (by decide) rfl T.J8 (z0 (zmi T.zgb z2p hr (by decide) rfl T.zM) (z0 (pv 0) z8))))),?_⟩
  obtain ⟨cs,hcs,hlen,_⟩:=zcc ask
  rw [zc4 hcs] at q
  walk_at "hx"
  intro x dx nx nd ne
  refine ⟨x,dx,rfl,z9,fun L H1 hs1 ehx fr=>⟨rfl,?_⟩⟩
  walk_at "hx"
  refine ⟨L,m0,Vbchaa.start,cl,ns,_,cs,by rw [ehx];rfl,hs1,zjD,zhv,?_,hcs,hlen,q⟩
  have keep:∀ o,H cl=some o→H1 cl=some o∧yk A.cs L m0 cl:=fun o e=>by
   have h1:=zd e nx
   have h2:=zd e nd
   exact fr cl o (by rw [z6 h1,z6 h2];exact e) h1
  rcases hcl with (e | ⟨o,e⟩) | h
  ·obtain ⟨e1,e2⟩:=keep _ e
   exact .inl ⟨_,e1,.inl rfl,e2⟩
  ·obtain ⟨e1,e2⟩:=keep _ e
   exact .inl ⟨_,e1,.inr ⟨o,rfl⟩,e2⟩
  ·exact .inr fun H'=>.inr h
theorem head {P:Program} {w:World} {K:PySem.W.Frag} {mg:Str→Option Value} {A:Ad} {fa:Addr} (T:Tx K mg A) (hfa:mg "answers" = some (.ref fa)) :
  ∃ fd:FuncData,(∀ (s:Shared) (us:List Value),us.length=(["calls"]:List Str).length→BindsTo s fd ⟨us,[]⟩ ((["calls"]:List Str).zip us))∧∀ base:Heap,K.In base→base.Ns mainGlobals mg→FnOk P w K mg base CX0 10 fa fd ["calls"] (z5f K):=by
 have e:=hfa.symm.trans T.Jb
 cases e
 obtain ⟨fd,F⟩:=T.zlf
 refine ⟨fd,fun s us hu=>?_,fun base _ _=>?_⟩
 ·obtain ⟨oc,od,kV,doc,pm,an,cdv,ct,osl,rfl,lk,hcd⟩:=F.ex
  exact match us,hu with | [_],_=>.of_eq rfl
 have z2p:=zgK (P:=P) (w:=w) (base:=base) T
 have jW:=zha (P:=P) (w:=w) (base:=base) T
 have Z8:=zgG (P:=P) (w:=w) (base:=base) T
 have Zz:=zhe (P:=P) (w:=w) (base:=base) T Z8
 have jY:=zhi (P:=P) (w:=w) (base:=base) T
 have z2s:=zgQ (P:=P) (w:=w) (base:=base) T jW Zz jY
 have Yl:=zgN (P:=P) (w:=w) (base:=base) T
 have z2R:=zhu (P:=P) (w:=w) (base:=base) T Yl
 have Ym:=zgY (P:=P) (w:=w) (base:=base) T z2R
 have jf:=zgL (P:=P) (w:=w) (base:=base) T Z8
 have Zx:=zgM (P:=P) (w:=w) (base:=base) T
 have Zy:=zh5 (P:=P) (w:=w) (base:=base) T jf Zx
 have z37:=zhL (P:=P) (w:=w) (base:=base) T Ym Zy
 have z2r:=zgP (P:=P) (w:=w) (base:=base) T z2s jY z37
 have jV:=zh6 (P:=P) (w:=w) (base:=base) T Yl
 have jX:=zhb (P:=P) (w:=w) (base:=base) T
 have z2x:=zgZ (P:=P) (w:=w) (base:=base) T jV jX
 have Yn:=zhl (P:=P) (w:=w) (base:=base) T
 have z2L:=zhk (P:=P) (w:=w) (base:=base) T Zx jX Yn
 have z2I:=zhf (P:=P) (w:=w) (base:=base) T z2L
 have ZA:=zhj (P:=P) (w:=w) (base:=base) T
 have z36:=zhK (P:=P) (w:=w) (base:=base) T ZA
 have z2D:=zh7 (P:=P) (w:=w) (base:=base) T z2x z2I z36
 have z2C:=zh4 (P:=P) (w:=w) (base:=base) T
 have z2K:=zhh (P:=P) (w:=w) (base:=base) T
 have z2P:=zhq (P:=P) (w:=w) (base:=base) T z2C z2K
 have jU:=zgX (P:=P) (w:=w) (base:=base) T z2P
 have yG:=zgH (P:=P) (w:=w) (base:=base) T
 have yN:=zgI (P:=P) (w:=w) (base:=base) T
 have z2F:=zh9 (P:=P) (w:=w) (base:=base) T Z8 yG yN Zx Yn
 have z2E:=zh8 (P:=P) (w:=w) (base:=base) T jf Zx jU z2F Yn
 have z2H:=zhd (P:=P) (w:=w) (base:=base) T yG
 have z2G:=zhc (P:=P) (w:=w) (base:=base) T z2H
 have z2M:=zhn (P:=P) (w:=w) (base:=base) T
 have z2n:=zgF (P:=P) (w:=w) (base:=base) T jV
 have z2o:=zgJ (P:=P) (w:=w) (base:=base) T
 have z2y:=zh0 (P:=P) (w:=w) (base:=base) T ZA
 have z2z:=zh1 (P:=P) (w:=w) (base:=base) T z2o z2y
 have z2N:=zho (P:=P) (w:=w) (base:=base) T z2n z2z
 have z2O:=zhp (P:=P) (w:=w) (base:=base) T ZA
 have z2J:=zhg (P:=P) (w:=w) (base:=base) T
 have J0:=zhs (P:=P) (w:=w) (base:=base) T
 have J1:=zht (P:=P) (w:=w) (base:=base) T
 have z2T:=zhx (P:=P) (w:=w) (base:=base) T jW Zz J0 J1
 have z2S:=zhw (P:=P) (w:=w) (base:=base) T Ym Zy z2J J0 J1 z2T
 have z2q:=zgO (P:=P) (w:=w) (base:=base) T
 have z33:=zhH (P:=P) (w:=w) (base:=base) T ZA
 have z34:=zhI (P:=P) (w:=w) (base:=base) T yG yN Zz z33
 have z32:=zhG (P:=P) (w:=w) (base:=base) T z2q Ym Zy z34
 have z2v:=zgT (P:=P) (w:=w) (base:=base) T z2r z2D z2E z2G z2M z2N z2O z2S z32
 have z2U:=zhy (P:=P) (w:=w) (base:=base) T yG
 have jg:=zgW (P:=P) (w:=w) (base:=base) T
 have z2A:=zh2 (P:=P) (w:=w) (base:=base) T jg
 have jZ:=zhm (P:=P) (w:=w) (base:=base) T Z8
 have z2V:=zhz (P:=P) (w:=w) (base:=base) T z2A jZ
 have z2W:=zhA (P:=P) (w:=w) (base:=base) T yN
 have z2X:=zhB (P:=P) (w:=w) (base:=base) T Z8 yG yN
 have z2Y:=zhC (P:=P) (w:=w) (base:=base) T yG jZ
 have z2Z:=zhD (P:=P) (w:=w) (base:=base) T yN
 have z2Q:=zhr (P:=P) (w:=w) (base:=base) T
 have z35:=zhJ (P:=P) (w:=w) (base:=base) T jg z2Q
 have z30:=zhE (P:=P) (w:=w) (base:=base) T z35
 have z38:=zhM (P:=P) (w:=w) (base:=base) T yN
 have z2B:=zh3 (P:=P) (w:=w) (base:=base) T Yl
 have z39:=zhN (P:=P) (w:=w) (base:=base) T jU z2B
 have z31:=zhF (P:=P) (w:=w) (base:=base) T z38 z39
 have z2w:=zgU (P:=P) (w:=w) (base:=base) T z2U z2V z2W z2X z2Y z2Z z30 z31
 have z2t:=zgR (P:=P) (w:=w) (base:=base) T z2v z2w
 have z2u:=zgS (P:=P) (w:=w) (base:=base) T z2t
 exact zgV F T z2p z2u
theorem zcK:Hz.dA=ji:=by funext s;cases s <;> rfl
theorem zcL:Hz.dB=Yp:=by funext s;cases s <;> rfl
theorem zcO:Hz.dS=zl:=by funext s;cases s <;> rfl
theorem zmq:Hz.ic=ZU:=by funext s j;cases s <;> rfl
section
variable {K:PySem.W.Frag} {h:Heap} {mg:Str→Option Value}
theorem zx {a b:Bool} (e:(a && b)=true):a=true∧b=true:=Bool.and_eq_true_iff.mp e
theorem bC {i:Nat} {c:Str} {fs:List Str} (b:Hz.yD K=true) (e:Hz.nth Hz.cR i=some (c,fs)):Hz.okC K (c,fs)=true:=Hz.j7 (zx b).1 e
theorem bF {i:Nat} {x q:Str} {s:Stmt} (b:Hz.yD K=true) (e:Hz.nth Hz.fR i=some (x,q,s)):Hz.okF K (x,q,s)=true:=Hz.j7 (zx (zx b).2).1 e
theorem bM {i:Nat} {c x q:Str} {s:Stmt} (b:Hz.yD K=true) (e:Hz.nth Hz.mR i=some (c,x,q,s)):Hz.okM K (c,x,q,s)=true:=Hz.j7 (zx (zx (zx b).2).2).1 e
theorem xC {i:Nat} {c:Str} {fs:List Str} (X:K.In h) (G:h.Ns mainGlobals mg) (b:Hz.yD K=true) (e:Hz.nth Hz.cR i=some (c,fs)):mg c=some (.ref (Hz.ad K c)):=PySem.W.mg_of X G (Hz.z3Y (zx (bC b e)).1)
theorem zjJ {c:Addr} (e:Hz.sa K c=true):PySem.W.findIn K (.ref c) "__setattr__" = some (some (.builtin "object.__setattr__")):=by
 unfold Hz.sa at e
 split at e
 ·rename_i h;rw [h,beq_iff_eq.mp e]
 ·cases e
theorem xL {i:Nat} {c:Str} {fs:List Str} (b:Hz.yD K=true) (e:Hz.nth Hz.cR i=some (c,fs)):Cls K (Hz.ad K c):=by
 have z:=zx (zx (bC b e)).2
 have y:=zx z.2
 have x:=zx y.2
 exact ⟨z.1,y.1,x.1,zjJ (zx x.2).1⟩
theorem xM {i:Nat} {c x q:Str} {s:Stmt} (b:Hz.yD K=true) (e:Hz.nth Hz.mR i=some (c,x,q,s)):Meth K (Hz.ad K c) x (Hz.mt K (Hz.ad K c) x):=by
 have z:=zx (bM b e)
 have y:=zx (zx z.2).1
 exact ⟨Hz.zeZ z.1,y.1,y.2⟩
theorem xK {i j:Nat} {c q:Str} {s:Stmt} {fs:List Str} (b:Hz.yD K=true) (e:Hz.nth Hz.cR i=some (c,fs)) (e2:Hz.nth Hz.mR j=some (c,("__init__" : Str),q,s)):Mk K (Hz.ad K c) (Hz.mt K (Hz.ad K c) "__init__"):=by
 have z:=zx (zx (zx (zx (zx (zx (bC b e)).2).2).2).2).2
 have M:=xM b e2
 exact ⟨z.1,M.at_,M.fn,(zx z.2).1⟩
theorem xN {i j:Nat} {c x:Str} {fs:List Str} (b:Hz.yD K=true) (e:Hz.nth Hz.cR i=some (c,fs)) (e2:Hz.nth fs j=some x):NoAttr K (Hz.ad K c) x:=by
 have z:=Hz.j7 (zx (zx (zx (zx (zx (zx (zx (bC b e)).2).2).2).2).2).2).2 e2
 unfold Hz.noA at z
 split at z
 ·rename_i h;exact h
 ·cases z
theorem xF {i:Nat} {x q:Str} {s:Stmt} (X:K.In h) (G:h.Ns mainGlobals mg) (b:Hz.yD K=true) (e:Hz.nth Hz.fR i=some (x,q,s)):mg x=some (.ref (Hz.ad K x)):=PySem.W.mg_of X G (Hz.z3Y (zx (bF b e)).1)
theorem fn_ {x q:Str} {s:Stmt} {f:Addr} (e:Hz.fnS K f=Hz.fnE x q s) (g:Hz.okG K f q=true):UF K x q s f:=by
 unfold Hz.fnS Hz.fnE at e
 unfold Hz.okG at g
 rw [zcK,zcL,zcO] at e
 have z:=zx g
 split at e
 ·rename_i oc od d sl l
  have c:=z.2
  rw [l] at c
  obtain ⟨n,qn,pa,bo,sc,gl,cl,df,kd,doc,pm,an,cd,ct,bl⟩:=d
  simp only [Option.some.injEq,Prod.mk.injEq] at e
  obtain ⟨rfl,rfl,rfl,rfl,rfl,rfl,rfl,rfl,rfl⟩:=e
  exact uf l c (zx z.1).2
 ·cases e
theorem xU {i:Nat} {x q:Str} {s:Stmt} (b:Hz.yD K=true) (g:Hz.JP K=Hz.YV) (e:Hz.nth Hz.fR i=some (x,q,s)):UF K x q s (Hz.ad K x):=by
 have y:=Hz.z0J (f:=fun r=>Hz.fnS K (Hz.ad K r.1)) e
 rw [show Hz.fR.map (fun r=>Hz.fnS K (Hz.ad K r.1))=Hz.fR.map (fun r=>Hz.fnE r.1 r.2.1 r.2.2) from congrArg Prod.fst g,Hz.z0J e] at y
 exact fn_ (Option.some.inj y).symm (zx (bF b e)).2
theorem xV {i:Nat} {c x q:Str} {s:Stmt} (b:Hz.yD K=true) (g:Hz.JP K=Hz.YV) (e:Hz.nth Hz.mR i=some (c,x,q,s)):UF K x q s (Hz.mt K (Hz.ad K c) x):=by
 have y:=Hz.z0J (f:=fun r=>Hz.fnS K (Hz.mt K (Hz.ad K r.1) r.2.1)) e
 rw [show Hz.mR.map (fun r=>Hz.fnS K (Hz.mt K (Hz.ad K r.1) r.2.1))=Hz.mR.map (fun r=>Hz.fnE r.2.1 r.2.2.1 r.2.2.2) from congrArg Prod.snd g,Hz.z0J e] at y
 exact fn_ (Option.some.inj y).symm (zx (bM b e)).2
theorem xI {i:Nat} {x:Str} {n:Int} (X:K.In h) (G:h.Ns mainGlobals mg) (b:Hz.yD K=true) (e:Hz.nth Hz.iR i=some (x,n)):∃ t,mg x=some (.int n t):=by
 have z:=Hz.j7 (zx (zx (zx (zx b).2).2).2).1 e
 dsimp only at z
 unfold Hz.isI at z
 split at z
 ·rename_i h;rw [beq_iff_eq.mp z] at h;exact ⟨_,PySem.W.mg_of X G h⟩
 ·cases z
theorem xB {i:Nat} {x:Str} (X:K.In h) (G:h.Ns mainGlobals mg) (b:Hz.yD K=true) (e:Hz.nth Hz.bR i=some x):mg x=none:=by
 have z:=Hz.j7 (zx (zx (zx (zx (zx b).2).2).2).2).1 e
 unfold Hz.noG at z
 split at z
 ·rename_i h;exact PySem.W.mg_none_of X G h
 ·cases z
theorem bT {i:Nat} {x:Str} {is:List Int} (b:Hz.yD K=true) (e:Hz.nth Hz.tR i=some (x,is)):(Hz.isR K x && Hz.isT K (Hz.ad K x) is)=true:=Hz.j7 (p:=fun r=>Hz.isR K r.1 && Hz.isT K (Hz.ad K r.1) r.2) (zx (zx (zx (zx (zx b).2).2).2).2).2 e
theorem xT {i:Nat} {x:Str} {is:List Int} (X:K.In h) (G:h.Ns mainGlobals mg) (b:Hz.yD K=true) (e:Hz.nth Hz.tR i=some (x,is)):mg x=some (.ref (Hz.ad K x)):=PySem.W.mg_of X G (Hz.z3Y (zx (bT b e)).1)
theorem z73:∀ {l:List Value} {is:List Int},Hz.z3W l is=true→Vals (is.map V.int) l∧l.length=is.length
 | [],[],_=>⟨.nil,rfl⟩
 | .int j t :: l,i :: m,e=>by
  have z:=zx e
  have y:=z73 z.2
  exact ⟨.cons ⟨t,by rw [beq_iff_eq.mp z.1]⟩ y.1,congrArg (· + 1) y.2⟩
theorem xW {i:Nat} {x:Str} (is:List Int) (b:Hz.yD K=true) (e:Hz.nth Hz.tR i=some (x,is)) (hl:is.length≤sizeLine) (H:Hp):SqT K H (Hz.ad K x) (is.map V.int):=by
 have z:=(zx (bT b e)).2
 unfold Hz.isT at z
 split at z
 ·rename_i n _ a _ _ l
  have y:=z73 (zx z).2
  exact .inr ⟨_,a,_,l,by rw [beq_iff_eq.mp (zx z).1],rfl,by rw [← Array.length_toList,y.2];exact hl,y.1⟩
 ·cases z
end
noncomputable def zbY (K:PySem.W.Frag):Ad:=⟨Hz.ad K "Run",Hz.ad K "Contract",Hz.ad K "Trade",Hz.ad K "House",Hz.mt K (Hz.ad K "Run") "__init__",Hz.ad K "empty_run",Hz.ad K "run_begun_anew",Hz.ad K "deadline",Hz.ad K "is_due",Hz.ad K "next_assigned",Hz.ad K "assign",Hz.ad K "copied_run",Hz.ad K "would_be_assigned",Hz.mt K (Hz.ad K "Contract") "__init__",Hz.mt K (Hz.ad K "Contract") "lots_of",Hz.mt K (Hz.ad K "Trade") "__init__",Hz.mt K (Hz.ad K "House") "__init__",Hz.mt K (Hz.ad K "House") "has_account",Hz.mt K (Hz.ad K "House") "has_underlying",Hz.mt K (Hz.ad K "House") "has_contract",Hz.mt K (Hz.ad K "House") "price_of",Hz.mt K (Hz.ad K "House") "move",Hz.ad K "is_price",Hz.ad K "goes_beyond",Hz.ad K "lot_pays",Hz.ad K "exercise_refusal",Hz.ad K "exercise",Hz.ad K "new_account",Hz.ad K "new_underlying",Hz.ad K "contract_in_range",Hz.ad K "contract_refusal",Hz.ad K "new_contract",Hz.ad K "do_side",Hz.ad K "begin_run_anew",Hz.ad K "exercised_since",Hz.ad K "trade_in_range",Hz.ad K "trade_refusal",Hz.ad K "trade",Hz.ad K "is_last_to_agree",Hz.ad K "agree_refusal",Hz.ad K "undo",Hz.ad K "agree",Hz.ad K "give_refusal",Hz.ad K "give",Hz.ad K "offered_account",Hz.ad K "offered_lots",Hz.ad K "take_refusal",Hz.ad K "hand_over",Hz.ad K "take",Hz.ad K "as_number",Hz.ad K "tell_position",Hz.ad K "lots_that_are_not_0",Hz.ad K "tell_positions",Hz.ad K "tell_cash",Hz.ad K "tell_run",Hz.ad K "would_assign_refusal",Hz.ad K "tell_would_assign",Hz.ad K "tell_open_lots",Hz.ad K "offer_told",Hz.ad K "trade_told",Hz.ad K "tell_trades",Hz.ad K "contract_told",Hz.ad K "tell_house",Hz.ad K "turn_refusal",Hz.ad K "expires_now",Hz.ad K "lot_gains",Hz.ad K "growths",Hz.ad K "close_expired",Hz.ad K "end_turn",Hz.ad K "answer_change",Hz.ad K "answer_question",Hz.ad K "answer_call",Hz.ad K "answer_calls",Hz.ad K "answers",Hz.ad K "WIDTHS"⟩
theorem tx {K:PySem.W.Frag} {h:Heap} {mg:Str→Option Value} (X:K.In h) (G:h.Ns mainGlobals mg) (b:Hz.yD K=true) (g:Hz.JP K=Hz.YV):Tx K mg (zbY K) :=
 ⟨xC (i:=0) X G b rfl,xL (i:=0) b rfl,xK (i:=0) (j:=0) b rfl rfl,xN (i:=0) (j:=0) b rfl rfl,xN (i:=0) (j:=1) b rfl rfl,xN (i:=0) (j:=2) b rfl rfl,xN (i:=0) (j:=3) b rfl rfl,xC (i:=1) X G b rfl,xL (i:=1) b rfl,xK (i:=1) (j:=1) b rfl rfl,xN (i:=1) (j:=0) b rfl rfl,xN (i:=1) (j:=1) b rfl rfl,xN (i:=1) (j:=2) b rfl rfl,xN (i:=1) (j:=3) b rfl rfl,xN (i:=1) (j:=4) b rfl rfl,xN (i:=1) (j:=5) b rfl rfl,xN (i:=1) (j:=6) b rfl rfl,xN (i:=1) (j:=7) b rfl rfl,xN (i:=1) (j:=8) b rfl rfl,xN (i:=1) (j:=9) b rfl rfl,xC (i:=2) X G b rfl,xL (i:=2) b rfl,xK (i:=2) (j:=3) b rfl rfl,xN (i:=2) (j:=0) b rfl rfl,xN (i:=2) (j:=1) b rfl rfl,xN (i:=2) (j:=2) b rfl rfl,xN (i:=2) (j:=3) b rfl rfl,xN (i:=2) (j:=4) b rfl rfl,xN (i:=2) (j:=5) b rfl rfl,xN (i:=2) (j:=6) b rfl rfl,xN (i:=2) (j:=7) b rfl rfl,xN (i:=2) (j:=8) b rfl rfl,xN (i:=2) (j:=9) b rfl rfl,xC (i:=3) X G b rfl,xL (i:=3) b rfl,xK (i:=3) (j:=4) b rfl rfl,xN (i:=3) (j:=0) b rfl rfl,xN (i:=3) (j:=1) b rfl rfl,xN (i:=3) (j:=2) b rfl rfl,xN (i:=3) (j:=3) b rfl rfl,xN (i:=3) (j:=4) b rfl rfl,xN (i:=3) (j:=5) b rfl rfl,xV (i:=0) b g rfl,xF (i:=0) X G b rfl,xU (i:=0) b g rfl,xF (i:=1) X G b rfl,xU (i:=1) b g rfl,xF (i:=2) X G b rfl,xU (i:=2) b g rfl,xF (i:=3) X G b rfl,xU (i:=3) b g rfl,xF (i:=4) X G b rfl,xU (i:=4) b g rfl,xF (i:=5) X G b rfl,xU (i:=5) b g rfl,xF (i:=6) X G b rfl,xU (i:=6) b g rfl,xF (i:=7) X G b rfl,xU (i:=7) b g rfl,xV (i:=1) b g rfl,xM (i:=2) b rfl,xV (i:=2) b g rfl,xV (i:=3) b g rfl,xV (i:=4) b g rfl,xM (i:=5) b rfl,xV (i:=5) b g rfl,xM (i:=6) b rfl,xV (i:=6) b g rfl,xM (i:=7) b rfl,xV (i:=7) b g rfl,xM (i:=8) b rfl,xV (i:=8) b g rfl,xM (i:=9) b rfl,xV (i:=9) b g rfl,xF (i:=8) X G b rfl,xU (i:=8) b g rfl,xF (i:=9) X G b rfl,xU (i:=9) b g rfl,xF (i:=10) X G b rfl,xU (i:=10) b g rfl,xF (i:=11) X G b rfl,xU (i:=11) b g rfl,xF (i:=12) X G b rfl,xU (i:=12) b g rfl,xF (i:=13) X G b rfl,xU (i:=13) b g rfl,xF (i:=14) X G b rfl,xU (i:=14) b g rfl,xF (i:=15) X G b rfl,xU (i:=15) b g rfl,xF (i:=16) X G b rfl,xU (i:=16) b g rfl,xF (i:=17) X G b rfl,xU (i:=17) b g rfl,xF (i:=18) X G b rfl,xU (i:=18) b g rfl,xF (i:=19) X G b rfl,xU (i:=19) b g rfl,xF (i:=20) X G b rfl,xU (i:=20) b g rfl,xF (i:=21) X G b rfl,xU (i:=21) b g rfl,xF (i:=22) X G b rfl,xU (i:=22) b g rfl,xF (i:=23) X G b rfl,xU (i:=23) b g rfl,xF (i:=24) X G b rfl,xU (i:=24) b g rfl,xF (i:=25) X G b rfl,xU (i:=25) b g rfl,xF (i:=26) X G b rfl,xU (i:=26) b g rfl,xF (i:=27) X G b rfl,xU (i:=27) b g rfl,xF (i:=28) X G b rfl,xU (i:=28) b g rfl,xF (i:=29) X G b rfl,xU (i:=29) b g rfl,xF (i:=30) X G b rfl,xU (i:=30) b g rfl,xF (i:=31) X G b rfl,xU (i:=31) b g rfl,xF (i:=32) X G b rfl,xU (i:=32) b g rfl,xF (i:=33) X G b rfl,xU (i:=33) b g rfl,xF (i:=34) X G b rfl,xU (i:=34) b g rfl,xF (i:=35) X G b rfl,xU (i:=35) b g rfl,xF (i:=36) X G b rfl,xU (i:=36) b g rfl,xF (i:=37) X G b rfl,xU (i:=37) b g rfl,xF (i:=38) X G b rfl,xU (i:=38) b g rfl,xF (i:=39) X G b rfl,xU (i:=39) b g rfl,xF (i:=40) X G b rfl,xU (i:=40) b g rfl,xF (i:=41) X G b rfl,xU (i:=41) b g rfl,xF (i:=42) X G b rfl,xU (i:=42) b g rfl,xF (i:=43) X G b rfl,xU (i:=43) b g rfl,xF (i:=44) X G b rfl,xU (i:=44) b g rfl,xF (i:=45) X G b rfl,xU (i:=45) b g rfl,xF (i:=46) X G b rfl,xU (i:=46) b g rfl,xF (i:=47) X G b rfl,xU (i:=47) b g rfl,xF (i:=48) X G b rfl,xU (i:=48) b g rfl,xF (i:=49) X G b rfl,xU (i:=49) b g rfl,xF (i:=50) X G b rfl,xU (i:=50) b g rfl,xF (i:=51) X G b rfl,xU (i:=51) b g rfl,xF (i:=52) X G b rfl,xU (i:=52) b g rfl,xF (i:=53) X G b rfl,xU (i:=53) b g rfl,xF (i:=54) X G b rfl,xU (i:=54) b g rfl,xF (i:=55) X G b rfl,xU (i:=55) b g rfl,xF (i:=56) X G b rfl,xU (i:=56) b g rfl,xF (i:=57) X G b rfl,xU (i:=57) b g rfl,xF (i:=58) X G b rfl,xU (i:=58) b g rfl,xF (i:=59) X G b rfl,xU (i:=59) b g rfl,xI (i:=0) X G b rfl,xI (i:=1) X G b rfl,xI (i:=2) X G b rfl,xI (i:=3) X G b rfl,xI (i:=4) X G b rfl,xI (i:=5) X G b rfl,xI (i:=6) X G b rfl,xI (i:=7) X G b rfl,xI (i:=8) X G b rfl,xI (i:=9) X G b rfl,xI (i:=10) X G b rfl,xI (i:=11) X G b rfl,xI (i:=12) X G b rfl,xI (i:=13) X G b rfl,xI (i:=14) X G b rfl,xI (i:=15) X G b rfl,xI (i:=16) X G b rfl,xI (i:=17) X G b rfl,xI (i:=18) X G b rfl,xI (i:=19) X G b rfl,xI (i:=20) X G b rfl,xI (i:=21) X G b rfl,xI (i:=22) X G b rfl,xI (i:=23) X G b rfl,xI (i:=24) X G b rfl,xI (i:=25) X G b rfl,xI (i:=26) X G b rfl,xI (i:=27) X G b rfl,xI (i:=28) X G b rfl,xI (i:=29) X G b rfl,xI (i:=30) X G b rfl,xI (i:=31) X G b rfl,xI (i:=32) X G b rfl,xI (i:=33) X G b rfl,xI (i:=34) X G b rfl,xI (i:=35) X G b rfl,xI (i:=36) X G b rfl,xI (i:=37) X G b rfl,xI (i:=38) X G b rfl,xI (i:=39) X G b rfl,xI (i:=40) X G b rfl,xI (i:=41) X G b rfl,xI (i:=42) X G b rfl,xI (i:=43) X G b rfl,xI (i:=44) X G b rfl,xI (i:=45) X G b rfl,xI (i:=46) X G b rfl,xI (i:=47) X G b rfl,xI (i:=48) X G b rfl,xI (i:=49) X G b rfl,xI (i:=50) X G b rfl,xT (i:=0) X G b rfl,xW (i:=0) [0,1,5,6,2,3,1,3,0,2,1,1,1,2,1,0,0] b rfl (by decide),xB (i:=0) X G b rfl,xB (i:=1) X G b rfl,xB (i:=2) X G b rfl,xB (i:=3) X G b rfl,xB (i:=4) X G b rfl,xB (i:=5) X G b rfl,xB (i:=6) X G b rfl,xB (i:=7) X G b rfl,xB (i:=8) X G b rfl⟩
end Hy
open PySem PySem.W PyProof.Rows
open PySem.W (Codec)
theorem PySem.Challenge.cw_houseturns_s01_answers_holds : PySem.Challenge.rw_houseturns_s01_answers.Holds := by
 refine Hz.zcr fun d hd hn w s₀ s₁ mg mb G Y=>?_
 obtain ⟨K,KX,b,g⟩:=Y
 refine L2.zmb (r:=PySem.Challenge.rw_houseturns_s01_answers) (k:=10) (K:=fun _=>K) (YP:=fun _ h=>K.In h) (CX:=L2.CX0) (ps:=["calls"]) (sp:=Hy.z5f) Hz.z7q hd rfl ⟨rfl,by decide,by decide⟩ (fun _ _ Y=>Y) (fun _ _ _ _ _ KX G hmg=>Hy.head (Hy.tx KX G b g) (hn ▸ hmg)) ?S (fun _ _ _ _ z=>z) w s₀ s₁ mg mb G KX
 intro K H xs a hO hwi hask hx
 cases hx with
 | cons h1 h2=>
  cases h2
  cases h1 with
  | lst hs ha=>
   have e:=L2.z72 a.1 _ ha
   subst e
   exact ⟨_,a.1,rfl,hs,hask,fun H' p hp=>.lst (L2.SqL.of hp) (L2.z6s _)⟩
#print axioms PySem.Challenge.cw_houseturns_s01_answers_holds
