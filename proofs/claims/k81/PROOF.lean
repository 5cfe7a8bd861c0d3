import PyProof.Rows.All
import Wide.All
import OpenK.AllK
import Wide.FinOn
import Lean
import PyProof.EqAt
import PyProof.EqKinds
import PyProof.TupleCall
import PyProof.NeKinds
import PyProof.ConsumeWalk
import KE.IntBitsLaws
import PyProof.DictWalks
import PyProof.DictRoadsH
import KE.KDictList
import PyProof.RaisesMany
import PyProof.StationsW
import PyProof.ExcClass2
import PyProof.RulesTry
import PyProof.ExcBaseAll.ValueError
import PyProof.Rows.FStr
import KE.KLam
import KE.KNestM
import PyProof.Seq
import PyProof.Walks
import PyProof.SumWalkG
import PyProof.FactsTree
import PyProof.CodeObj
import PyProof.WalkInts
import KE.KIsNot
import OpenK.KDescr
import OpenK.KCls
import PyProof.ExcAttrAll.ValueError
import KE.KIsAll
import PyProof.RulesAs
import PyProof.DictCompW
import PyProof.Rows.SumGenD
import KE.KNest
import PyProof.Rows.SetFrom
import PyProof.SetRoads
import PyProof.Rows.SortShell
import KE.KDictSum
import PyProof.ListMulRoad
import PySem.Sem
import PySem.Builtin.Str.Common
import PySem.Eval
import PyProof.StrBlock2
import KE.KIntText
import PyProof.InstStoreFacts
import PyProof.ExcArgsOwn
import PyProof.ExcInit
import PyProof.StrCalls2
import PyProof.CallStr
import KE.KUnpackStar
import PyProof.WalksEnum
import PyProof.EnumMake
import PyProof.ZipIter
import KE.KTurns
import PyProof.Rows.FactsT2
import PySem.Challenge.RW_namewants_k81_refusals_apart
import PyProof.TableCode
set_option Elab.async false
set_option linter.all false
set_option maxRecDepth 100000
set_option maxHeartbeats 4000000
noncomputable section
section
open PySem PySem.W PyProof.Rows
namespace TreeRun
def goT (tb:String->Option Builtin)(p:Program)(w:World)(m:Nat)(ann:Option Value):Nat->SharedT->Thread->Option SharedT
 | 0,_,_=>none
 | k+1,s,t=>match through t,stepOk m ann t with
  | true,_=>some s
  | false,false=>none
  | false,true=>match stepT (denote tb) p w s t with
   | none=>none
   | some (s2,t2)=>goT tb p w m ann k s2 t2
theorem goT_spec {tb:String->Option Builtin}{p:Program}{w:World}{m:Nat}{ann:Option Value}:∀{k:Nat} {s s':SharedT} {t:Thread},goT tb p w m ann k s t=some s'->topRun tb p w m ann k s.abs t=some s'.abs
 | 0,_,_,_,h=>by cases h
 | k+1,s,s',t,h=>by
  unfold goT at h
  unfold topRun
  cases h1:through t with
  | true=>rw [h1] at h;cases h;rfl
  | false=>
   cases h2:stepOk m ann t with
   | false=>rw [h1,h2] at h;cases h
   | true=>
    rw [h1,h2] at h
    dsimp only at h ⊢
    cases h3:stepT (denote tb) p w s t with
    | none=>rw [h3] at h;cases h
    | some r=>
     obtain⟨s2,t2⟩:=r
     rw [h3] at h
     rw [stepT_spec h3]
     exact goT_spec h
def plant:Nat->BT->List Obj->BT
 | _,t,[]=>t
 | n,t,o::os=>plant (n+1) (t.ins n o) os
def sT (P:Params)(os:OsState):SharedT:=⟨plant 0 .nil (boot_heap P).objs.toList,(boot_heap P).objs.toList.length,(boot_heap P).life,#[],boot_drawn,boot_toks,os⟩
theorem sT_abs (P:Params)(os:OsState):(sT P os).abs=⟨boot_heap P,#[],boot_drawn,boot_toks,os⟩:=by kernel_rfl
def ends (p:Program)(w:World)(os:OsState)(N:Nat):Option SharedT:=goT treeTable p w (boot_heap w.params).objs.size ((boot_heap w.params).nsMap mainGlobals "__annotations__") N (sT w.params os) (topStub p)
theorem boot_is (P:Params):((boot_heap P).isNs mainGlobals&&(#[]:Array GenState).size==0)=true:=by kernel_rfl
def fit (p:Program)(P:Params)(s:SharedT):Bool:=staticsOk (importedModules p.main.body) (boot_heap P) s.abs.heap&&namesBound p s.abs.heap&&gensDone s.abs&&laidKept (boot_heap P) s.abs.heap
end TreeRun
end
section
open PySem PySem.W PyProof.Rows PySem.Calls
namespace TreeRun
def goN (tb:String->Option Builtin)(p:Program)(w:World)(m:Nat)(ann:Option Value):Nat->SharedT->Thread->Option (SharedT×Thread)
 | 0,s,t=>some (s,t)
 | k+1,s,t=>match through t,stepOk m ann t with
  | true,_=>none
  | false,false=>none
  | false,true=>match stepT (denote tb) p w s t with
   | none=>none
   | some (s2,t2)=>goN tb p w m ann k s2 t2
theorem goN_spec {tb:String->Option Builtin}{p:Program}{w:World}{m:Nat}{ann:Option Value}:∀{k:Nat} {s s':SharedT} {t t':Thread},goN tb p w m ann k s t=some (s',t')->topGo tb p w m ann k s.abs t=some (s'.abs,t')
 | 0,_,_,_,_,h=>by cases h;rfl
 | k+1,s,s',t,t',h=>by
  unfold goN at h
  unfold topGo
  cases h1:through t with
  | true=>rw [h1] at h;cases h
  | false=>
   cases h2:stepOk m ann t with
   | false=>rw [h1,h2] at h;cases h
   | true=>
    rw [h1,h2] at h
    dsimp only at h ⊢
    cases h3:stepT (denote tb) p w s t with
    | none=>rw [h3] at h;cases h
    | some r=>
     obtain⟨s2,t2⟩:=r
     rw [h3] at h
     rw [stepT_spec h3]
     exact goN_spec h
abbrev m0 (w:World):Nat:=(boot_heap w.params).objs.size
abbrev an0 (w:World):Option Value:=(boot_heap w.params).nsMap mainGlobals "__annotations__"
def ahead (p:Program)(n:Nat)(w:World)(os:OsState):SharedT:=((goN treeTable p w (m0 w) (an0 w) n (sT w.params os) (topStub p)).map (·.1)).getD (sT w.params os)
def later (p:Program)(mid:Params->OsState->SharedT)(env:Env)(b rest:List Stmt)(pos qp:Pos)(N:Nat)(w:World)(os:OsState):Option SharedT:=goT treeTable p w (m0 w) (an0 w) N (mid w.params os) (restOf rest env (.body b env) pos [topFrame qp])
theorem left_cut {p q:Program}{loose:List Str}{Xt:Shared->Bool}{α:Type}{Yf:Shared->α}{Ya:World->α}{N n0 n1 N2:Nat}{env:Env}{b l rest:List Stmt}{pos0 pos1 pos2 qp:Pos}{mid:Params->OsState->SharedT}
 (e:opening p=plainProg p.main.scope.names) (hN:Nat.ble 600 N=true) (hf:∀s,fenceModules? p s=some s) (hb:l++rest=b) (hM:Nat.ble (n0+(1+(n1+N2))) N=true)
 (c1:∀w os,goN treeTable p w (m0 w) (an0 w) n0 (sT w.params os) (topStub p)=some (ahead p n0 w os,⟨denote treeTable (.body b env),.body b env,pos0,[topFrame qp]⟩))
 (c2:∀w os,segRunT treeTable p w (m0 w) (an0 w) 1 1 (ahead p n0 w os) (blockOf b env (.body b env) pos0 [topFrame qp])=some (.next,ahead p n0 w os,.body b env,pos1))
 (c3:∀w os,segRunT treeTable p w (m0 w) (an0 w) 1 n1 (ahead p n0 w os) (piecesOf l env (.body b env) pos1 [topFrame qp])=some (.next,mid w.params os,.body b env,pos2))
 (h1:∀w os,(later p mid env b rest pos2 qp N2 w os).map (fit p w.params)=some true)
 (h2:∀w os,(later p mid env b rest pos2 qp N2 w os).map (fun s=>openSeen q loose (importedModules p.main.body) Xt true s.abs)=some (openGood q loose))
 (h3:∀w os,(later p mid env b rest pos2 qp N2 w os).map (fun s=>Yf s.abs)=some (Ya w)):LeftO p q loose Xt Yf Ya N true:=fun w=>by
 obtain⟨⟨h,gs,d,k,os⟩,e0,e1⟩:=Option.map_eq_some_iff.mp (boot_open e hN hf w)
 obtain⟨rfl,rfl,rfl,rfl⟩:h=boot_heap w.params/\gs=Array.mk []/\d=boot_drawn/\k=boot_toks:=by simpa using e1
 have g1:=h1 w os
 have g2:=h2 w os
 have g3:=h3 w os
 cases hs:later p mid env b rest pos2 qp N2 w os with
 | none=>rw [hs] at g1;cases g1
 | some s=>
  rw [hs] at g1 g2 g3
  have g1:fit p w.params s=true:=by simpa using g1
  have g2:openSeen q loose (importedModules p.main.body) Xt true s.abs=openGood q loose:=Option.some.inj g2
  have g3:Yf s.abs=Ya w:=Option.some.inj g3
  have r0:=goT_spec hs
  have r1:=piece_app (segRun_of (c3 w os)) r0
  rw [hb] at r1
  have r2:=piece_block (segRun_of (c2 w os)) r1
  have r3:=go_top (goN_spec (c1 w os)) r2
  have r:=topRun_mono (N-(n0+(1+(n1+N2)))) _ _ _ _ r3
  rw [show n0+(1+(n1+N2))+(N-(n0+(1+(n1+N2))))=N by have:=Nat.le_of_ble_eq_true hM;omega,sT_abs] at r
  have t:topFrom treeTable p w N ⟨boot_heap w.params,#[],boot_drawn,boot_toks,os⟩=some s.abs:=by
   unfold topFrom
   dsimp only
   rw [boot_is,r]
   show (match fit p w.params s with | true=>some s.abs | false=>none)=_
   rw [g1]
  unfold openEnds
  rw [e0]
  show (topFrom treeTable p w N _).map _=_
  rw [t]
  exact congrArg some (Prod.ext g2 g3)
end TreeRun
end
namespace L2
open PySem
def defArgs (s:Stmt):Arguments:=match s with
 | .FunctionDef _ a _ _ _ _ _ _ _ _=>a
 | _=>{ posonlyargs:=[],args:=[],vararg:=none,kwonlyargs:=[],kw_defaults:=[],kwarg:=none,defaults:=[] }
def defBody (s:Stmt):List Stmt:=match s with
 | .FunctionDef _ _ b _ _ _ _ _ _ _=>b
 | _=>[]
def defScope (s:Stmt):Scope:=match s with
 | .FunctionDef _ _ _ _ _ _ sc _ _ _=>sc
 | _=>{ kind:=.function,names:=[],isGenerator:=false,isCoroutine:=false }
end L2
namespace Q81
open PySem
noncomputable def top (i:Nat):Stmt:=PySem.Challenge.pw_namewants_k81_refusals_apart.main.body.getD i (.Pass ⟨0,0,0,0⟩)
noncomputable def inCls (s:Stmt)(j:Nat):Stmt:=match s with | .ClassDef _ _ _ b _ _ _ _ _ _ _=>b.getD j (.Pass ⟨0,0,0,0⟩) | _=>.Pass ⟨0,0,0,0⟩
end Q81
section
noncomputable abbrev Q81.fo (st:PySem.Stmt)(x q:PySem.Str)(m:PySem.Str)(t:PySem.Tok)(c:PySem.Addr):PySem.Obj:=⟨.type "function",none,.func (PySem.W.fnOf x q (L2.defArgs st) (L2.defBody st) (L2.defScope st) .none .none .none (.str m t) none (.ref c) .none),#[]⟩
noncomputable def Q81.fc (x q:PySem.Str)(st:PySem.Stmt):PySem.Obj:=⟨.none,none,.func { PySem.W.fnOf x q (L2.defArgs st) (L2.defBody st) (L2.defScope st) .none .none .none .none none .none .none with globals:=0 },#[]⟩
noncomputable abbrev Q81.e (P:PySem.Params)(x:PySem.Str)(n:PySem.Tok)(v:PySem.Value):PySem.DictEntry:=⟨PySem.PyData.keyHash P x,.str x n,v⟩
noncomputable abbrev Q81.co (x q:PySem.Str)(t l a r n:Nat):PySem.Obj:={ cls:=.type "code",data:=.fields #[.str x t,.str q (t+1),.str "/claim/cut.py" (t+2),.int l 0,.int a 0,.int 0 0,.int 0 0,.int 3 0,.ref r,.bool true,.int 181 0,.ref (r+1),.none,.ref (r+2),.ref (r+3),.ref (r+4),.int n 0,.int l 0,.str "/claim/cut.py" (n+1)] }
noncomputable abbrev Q81.cp (x q:PySem.Str)(t l a r:Nat):PySem.Obj:={ cls:=.type "code",data:=.fields #[.str x t,.str q (t+1),.str "/claim/cut.py" (t+2),.int l 0,.int a 0,.int 0 0,.int 0 0,.int 3 0,.ref r,.bool true,.int 181 0,.ref (r+1),.none,.none,.none,.ref (r+2),.int ((t:Nat)+3:Nat) 0,.int l 0,.str "/claim/cut.py" (t+4)] }
noncomputable abbrev Q81.ck (x:PySem.Str)(t l r:Nat):PySem.Obj:={ cls:=.type "code",data:=.fields #[.str x t,.str x (t+1),.str "/claim/cut.py" (t+2),.int l 0,.int 0 0,.int 0 0,.int 0 0,.int 0 0,.ref r,.bool false,.int 181 0,.ref (r+1),.none,.none,.none,.none,.int ((t:Nat)+3:Nat) 0,.int l 0,.str "/claim/cut.py" (t+4)] }
noncomputable abbrev Q81.ex (x:PySem.Str)(a b c t u:Nat):PySem.Obj:={ cls:=.type "type",data:=.cls { name:=x,bases:=[.ref 31],mro:=[.ref a,.ref 31,.type "ValueError",.type "Exception",.type "BaseException",.type "object"],ns:=b,qualname:=x },slots:=#[some (.ref c),none,some (.str x t),some (.str x u),some (.builtin "ValueError.__new__"),some (.bool true)] }
noncomputable abbrev Q81.tu (a:Array PySem.Value):PySem.Obj:={ cls:=.type "tuple",data:=.seq a }
noncomputable abbrev Q81.nf (a:Array PySem.Value):PySem.Obj:={ cls:=.none,data:=.fields a }
noncomputable abbrev Q81.di (a:Array PySem.DictEntry):PySem.Obj:={ cls:=.type "dict",data:=.dict a }
noncomputable abbrev Q81.fr (a:Array (Option PySem.Value)):PySem.Obj:={ cls:=.type "frame",slots:=a }
noncomputable abbrev Q81.gs (a:Array PySem.Value):PySem.Obj:={ cls:=.type "getset_descriptor",data:=.fields a }
def PySem.W.Fast.tw3620904543847722668:PySem.Program:=PySem.Challenge.pw_namewants_k81_refusals_apart
theorem PySem.W.Fast.te3620904543847722668:PySem.Challenge.pw_namewants_k81_refusals_apart=PySem.W.Fast.tw3620904543847722668:=rfl
namespace Q81
noncomputable def Kf:PySem.Params->PySem.W.Frag:=fun P=>
(nat_lit 2,{ cls:=.none,data:=.dict #[] }) ::
(nat_lit 3,{ cls:=.type "dict",data:=.dict #[e P "__name__" 165 (.str "law_namewants_k81_refusals_apart" 1364),e P "__doc__" 166 (.none),e P "__package__" 167 (.none),e P "__loader__" 168 (.builtin "__main__.__loader__#opaque"),e P "__spec__" 169 (.none),e P "__annotations__" 170 (.ref 6),e P "__builtins__" 171 (.ref 4),e P "__file__" 173 (.str "/claim/cut.py" 172),e P "__cached__" 174 (.none),e P "_wall" 193 (.ref 21),e P "WantError" 213 (.ref 31),e P "BadName" 229 (.ref 44),e P "BadSides" 245 (.ref 56),e P "BadNumber" 261 (.ref 68),e P "BadLetter" 277 (.ref 80),e P "NoHouse" 293 (.ref 92),e P "NoWay" 309 (.ref 104),e P "NoLetter" 325 (.ref 116),e P "Gone" 350 (.ref 135),e P "BadStory" 366 (.ref 147),e P "VALUE_MOST" 370 (.int 999 369),e P "SIDE_MOST" 372 (.int 7 371),e P "LIFE_MOST" 374 (.int 99 373),e P "HOUSES_LEAST" 376 (.int 2 375),e P "HOUSES_MOST" 379 (.int 8 378),e P "is_whole" 386 (.ref 156),e P "is_within" 395 (.ref 163),e P "is_value" 402 (.ref 170),e P "is_side" 409 (.ref 177),e P "is_life" 416 (.ref 184),e P "is_tick" 423 (.ref 191),e P "is_sides" 429 (.ref 196),e P "is_way" 439 (.ref 203),e P "need_within" 448 (.ref 210),e P "need_value" 455 (.ref 217),e P "need_life" 462 (.ref 224),e P "need_tick" 469 (.ref 231),e P "need_sides" 476 (.ref 238),e P "need_houses" 483 (.ref 245),e P "need_ways" 489 (.ref 250),e P "both_ways" 495 (.ref 255),e P "SIGNS" 499 (.str "abcdefghijklmnopqrstuvwxyz0123456789" 498),e P "PART_LONGEST" 501 (.int 4 500),e P "NAME_LONGEST" 503 (.int 5 502),e P "is_part" 509 (.ref 260),e P "is_name" 515 (.ref 265),e P "is_beginning" 522 (.ref 272),e P "need_name" 529 (.ref 279),e P "need_beginning" 536 (.ref 286),e P "read_name" 544 (.ref 293),e P "ROOM_MOST" 548 (.int 9 547),e P "Keeps" 618 (.ref 341),e P "Table" 721 (.ref 423),e P "WAIT_LEAST" 725 (.int 1 724),e P "WAIT_MOST" 727 (.int 20 726),e P "is_letter" 734 (.ref 434),e P "Wait" 766 (.ref 451),e P "House" 980 (.ref 605),e P "Net" 1252 (.ref 811),e P "FIGURES" 1256 (.str "0123456789" 1255),e P "FIGURES_MOST" 1258 (.int 3 1257),e P "PARTS" 1305 (.ref 816),e P "is_side_tuple" 1312 (.ref 835),e P "is_of_kind" 1320 (.ref 842),e P "is_deed" 1326 (.ref 847),e P "need_story" 1332 (.ref 852),e P "read_beginning" 1339 (.ref 859),e P "read_number" 1345 (.ref 864),e P "read_part" 1351 (.ref 869),e P "read_deed" 1357 (.ref 874),e P "read_story" 1363 (.ref 879),e P "_law_cell" 1373 (.ref 886),e P "_law_drawn" 1382 (.ref 893),e P "_law_roll" 1391 (.ref 900),e P "_law_rounds" 1397 (.ref 905),e P "_law_met" 1405 (.ref 912),e P "_law_alone" 1411 (.ref 917),e P "law" 1417 (.ref 922)] 78 }) ::
(nat_lit 30,{ cls:=.type "dict",data:=.dict #[e P "__module__" 203 (.str "namewants.errors" 194),e P "__firstlineno__" 207 (.int 5 206),e P "__static_attributes__" 208 (.ref 29),e P "__weakref__" 210 (.ref 32),e P "__doc__" 211 (.none)] 3 }) ::
(nat_lit 31,{ cls:=.type "type",data:=.cls { name:="WantError",bases:=[.type "ValueError"],mro:=[.ref 31,.type "ValueError",.type "Exception",.type "BaseException",.type "object"],ns:=30,qualname:="WantError",subclasses:=[.ref 44,.ref 56,.ref 68,.ref 80,.ref 92,.ref 104,.ref 116,.ref 135,.ref 147] },slots:=#[some (.ref 22),none,some (.str "WantError" 196),some (.str "WantError" 204),some (.builtin "ValueError.__new__"),some (.bool true)] }) ::
(nat_lit 43,{ cls:=.type "dict",data:=.dict #[e P "__module__" 221 (.str "namewants.errors" 194),e P "__firstlineno__" 225 (.int 7 224),e P "__static_attributes__" 226 (.ref 42),e P "__doc__" 227 (.none)] 2 }) ::
(nat_lit 44,ex "BadName" 44 43 35 214 222) ::
(nat_lit 55,{ cls:=.type "dict",data:=.dict #[e P "__module__" 237 (.str "namewants.errors" 194),e P "__firstlineno__" 241 (.int 9 240),e P "__static_attributes__" 242 (.ref 54),e P "__doc__" 243 (.none)] 2 }) ::
(nat_lit 56,ex "BadSides" 56 55 47 230 238) ::
(nat_lit 67,{ cls:=.type "dict",data:=.dict #[e P "__module__" 253 (.str "namewants.errors" 194),e P "__firstlineno__" 257 (.int 11 256),e P "__static_attributes__" 258 (.ref 66),e P "__doc__" 259 (.none)] 2 }) ::
(nat_lit 68,ex "BadNumber" 68 67 59 246 254) ::
(nat_lit 79,{ cls:=.type "dict",data:=.dict #[e P "__module__" 269 (.str "namewants.errors" 194),e P "__firstlineno__" 273 (.int 13 272),e P "__static_attributes__" 274 (.ref 78),e P "__doc__" 275 (.none)] 2 }) ::
(nat_lit 80,ex "BadLetter" 80 79 71 262 270) ::
(nat_lit 91,{ cls:=.type "dict",data:=.dict #[e P "__module__" 285 (.str "namewants.errors" 194),e P "__firstlineno__" 289 (.int 15 288),e P "__static_attributes__" 290 (.ref 90),e P "__doc__" 291 (.none)] 2 }) ::
(nat_lit 92,ex "NoHouse" 92 91 83 278 286) ::
(nat_lit 103,{ cls:=.type "dict",data:=.dict #[e P "__module__" 301 (.str "namewants.errors" 194),e P "__firstlineno__" 305 (.int 17 304),e P "__static_attributes__" 306 (.ref 102),e P "__doc__" 307 (.none)] 2 }) ::
(nat_lit 104,ex "NoWay" 104 103 95 294 302) ::
(nat_lit 115,{ cls:=.type "dict",data:=.dict #[e P "__module__" 317 (.str "namewants.errors" 194),e P "__firstlineno__" 321 (.int 19 320),e P "__static_attributes__" 322 (.ref 114),e P "__doc__" 323 (.none)] 2 }) ::
(nat_lit 116,ex "NoLetter" 116 115 107 310 318) ::
(nat_lit 131,co "__init__" "Gone.__init__" 338 23 2 126 343) ::
(nat_lit 132,fo (inCls (top 10) 0) "__init__" "Gone.__init__" "namewants.errors" 194 131) ::
(nat_lit 134,{ cls:=.type "dict",data:=.dict #[e P "__module__" 333 (.str "namewants.errors" 194),e P "__firstlineno__" 337 (.int 21 336),e P "__init__" 345 (.ref 132),e P "__static_attributes__" 347 (.ref 133),e P "__doc__" 348 (.none)] 2 }) ::
(nat_lit 135,ex "Gone" 135 134 119 326 334) ::
(nat_lit 146,{ cls:=.type "dict",data:=.dict #[e P "__module__" 358 (.str "namewants.errors" 194),e P "__firstlineno__" 362 (.int 25 361),e P "__static_attributes__" 363 (.ref 145),e P "__doc__" 364 (.none)] 2 }) ::
(nat_lit 147,ex "BadStory" 147 146 138 351 359) ::
(nat_lit 155,co "is_whole" "is_whole" 380 33 1 150 384) ::
(nat_lit 156,fo (top 18) "is_whole" "is_whole" "namewants.checks" 367 155) ::
(nat_lit 162,co "is_within" "is_within" 387 35 3 157 393) ::
(nat_lit 163,fo (top 19) "is_within" "is_within" "namewants.checks" 367 162) ::
(nat_lit 176,co "is_side" "is_side" 403 39 1 171 407) ::
(nat_lit 177,fo (top 21) "is_side" "is_side" "namewants.checks" 367 176) ::
(nat_lit 195,cp "is_sides" "is_sides" 424 45 1 192) ::
(nat_lit 196,fo (top 24) "is_sides" "is_sides" "namewants.checks" 367 195) ::
(nat_lit 202,co "is_way" "is_way" 430 51 2 197 437) ::
(nat_lit 203,fo (top 25) "is_way" "is_way" "namewants.checks" 367 202) ::
(nat_lit 209,co "need_within" "need_within" 440 56 3 204 446) ::
(nat_lit 210,fo (top 26) "need_within" "need_within" "namewants.checks" 367 209) ::
(nat_lit 237,co "need_sides" "need_sides" 470 66 1 232 474) ::
(nat_lit 238,fo (top 30) "need_sides" "need_sides" "namewants.checks" 367 237) ::
(nat_lit 244,co "need_houses" "need_houses" 477 69 1 239 481) ::
(nat_lit 245,fo (top 31) "need_houses" "need_houses" "namewants.checks" 367 244) ::
(nat_lit 249,cp "need_ways" "need_ways" 484 71 2 246) ::
(nat_lit 250,fo (top 32) "need_ways" "need_ways" "namewants.checks" 367 249) ::
(nat_lit 254,cp "both_ways" "both_ways" 490 76 1 251) ::
(nat_lit 255,fo (top 33) "both_ways" "both_ways" "namewants.checks" 367 254) ::
(nat_lit 264,cp "is_name" "is_name" 510 86 1 261) ::
(nat_lit 265,fo (top 39) "is_name" "is_name" "namewants.names" 496 264) ::
(nat_lit 271,co "is_beginning" "is_beginning" 516 90 1 266 520) ::
(nat_lit 272,fo (top 40) "is_beginning" "is_beginning" "namewants.names" 496 271) ::
(nat_lit 285,co "need_beginning" "need_beginning" 530 95 1 280 534) ::
(nat_lit 286,fo (top 42) "need_beginning" "need_beginning" "namewants.names" 496 285) ::
(nat_lit 292,co "read_name" "read_name" 537 98 1 287 542) ::
(nat_lit 293,fo (top 43) "read_name" "read_name" "namewants.names" 496 292) ::
(nat_lit 306,co "__init__" "Keeps.__init__" 561 111 2 301 566) ::
(nat_lit 307,fo (inCls (top 46) 0) "__init__" "Keeps.__init__" "namewants.keeps" 545 306) ::
(nat_lit 313,co "put" "Keeps.put" 569 116 5 308 577) ::
(nat_lit 314,fo (inCls (top 46) 1) "put" "Keeps.put" "namewants.keeps" 545 313) ::
(nat_lit 340,{ cls:=.type "dict",data:=.dict #[e P "__module__" 556 (.str "namewants.keeps" 545),e P "__firstlineno__" 560 (.int 109 559),e P "__init__" 568 (.ref 307),e P "put" 579 (.ref 314),e P "got" 589 (.ref 321),e P "aged" 595 (.ref 326),e P "rows" 601 (.ref 331),e P "__len__" 608 (.ref 338),e P "__static_attributes__" 611 (.ref 339),e P "__dict__" 613 (.ref 342),e P "__weakref__" 615 (.ref 343),e P "__doc__" 616 (.none)] 4 }) ::
(nat_lit 341,{ cls:=.type "type",data:=.cls { name:="Keeps",bases:=[.type "object"],mro:=[.ref 341,.type "object"],ns:=340,qualname:="Keeps" },slots:=#[none,none,some (.str "Keeps" 549),some (.str "Keeps" 557),some (.builtin "object.__new__"),some (.bool true)] }) ::
(nat_lit 358,co "__init__" "Table.__init__" 633 152 1 353 637) ::
(nat_lit 359,fo (inCls (top 48) 0) "__init__" "Table.__init__" "namewants.tables" 619 358) ::
(nat_lit 365,co "put" "Table.put" 640 155 3 360 646) ::
(nat_lit 366,fo (inCls (top 48) 1) "put" "Table.put" "namewants.tables" 619 365) ::
(nat_lit 422,{ cls:=.type "dict",data:=.dict #[e P "__module__" 628 (.str "namewants.tables" 619),e P "__firstlineno__" 632 (.int 150 631),e P "__init__" 639 (.ref 359),e P "put" 648 (.ref 366),e P "drop" 656 (.ref 373),e P "way" 666 (.ref 380),e P "sides" 675 (.ref 387),e P "rows" 681 (.ref 392),e P "parted" 689 (.ref 399),e P "lean" 696 (.ref 406),e P "__len__" 703 (.ref 413),e P "__eq__" 711 (.ref 420),e P "__static_attributes__" 713 (.ref 421),e P "__dict__" 715 (.ref 424),e P "__weakref__" 717 (.ref 425),e P "__doc__" 718 (.none),e P "__hash__" 719 (.none)] 5 }) ::
(nat_lit 423,{ cls:=.type "type",data:=.cls { name:="Table",bases:=[.type "object"],mro:=[.ref 423,.type "object"],ns:=422,qualname:="Table" },slots:=#[none,none,some (.str "Table" 621),some (.str "Table" 629),some (.builtin "object.__new__"),some (.bool true)] }) ::
(nat_lit 433,co "is_letter" "is_letter" 728 195 1 428 732) ::
(nat_lit 434,fo (top 52) "is_letter" "is_letter" "namewants.houses" 722 433) ::
(nat_lit 463,{ cls:=.type "dict",data:=.dict #[e P "room" 781 (.int 4 779),e P "wait" 782 (.int 6 780)] 2 }) ::
(nat_lit 469,{ cls:=.type "code",data:=.fields #[.str "__init__" 783,.str "House.__init__" 784,.str "/claim/cut.py" 785,.int 210 0,.int 3 0,.int 0 0,.int 2 0,.int 3 0,.ref 464,.bool true,.int 181 0,.ref 465,.none,.ref 466,.ref 467,.ref 468,.int 791 0,.int 210 0,.str "/claim/cut.py" 792] }) ::
(nat_lit 470,⟨.type "function",none,.func (PySem.W.fnOf "__init__" "House.__init__" (L2.defArgs (inCls (top 54) 0)) (L2.defBody (inCls (top 54) 0)) (L2.defScope (inCls (top 54) 0)) .none (.ref 463) .none (.str "namewants.houses" 722) none (.ref 469) .none),#[]⟩) ::
(nat_lit 476,co "ask" "House.ask" 794 226 3 471 801) ::
(nat_lit 477,fo (inCls (top 54) 1) "ask" "House.ask" "namewants.houses" 722 476) ::
(nat_lit 483,co "come" "House.come" 804 233 4 478 812) ::
(nat_lit 484,fo (inCls (top 54) 2) "come" "House.come" "namewants.houses" 722 483) ::
(nat_lit 604,{ cls:=.type "dict",data:=.dict #[e P "__module__" 774 (.str "namewants.houses" 722),e P "__firstlineno__" 778 (.int 208 777),e P "__init__" 793 (.ref 470),e P "ask" 803 (.ref 477),e P "come" 814 (.ref 484),e P "tick" 820 (.ref 489),e P "own" 830 (.ref 496),e P "disown" 838 (.ref 503),e P "teach" 847 (.ref 510),e P "forget" 855 (.ref 517),e P "end" 863 (.ref 524),e P "waits" 873 (.ref 531),e P "keeps" 880 (.ref 538),e P "owns" 887 (.ref 545),e P "table" 894 (.ref 552),e P "has" 902 (.ref 559),e P "toward" 908 (.ref 564),e P "found" 920 (.ref 571),e P "answered" 926 (.ref 576),e P "told_thing" 932 (.ref 581),e P "told_no" 942 (.ref 588),e P "ended" 951 (.ref 595),e P "told" 963 (.ref 602),e P "__static_attributes__" 973 (.ref 603),e P "__dict__" 975 (.ref 606),e P "__weakref__" 977 (.ref 607),e P "__doc__" 978 (.none)] 4 }) ::
(nat_lit 605,{ cls:=.type "type",data:=.cls { name:="House",bases:=[.type "object"],mro:=[.ref 605,.type "object"],ns:=604,qualname:="House" },slots:=#[none,none,some (.str "House" 767),some (.str "House" 775),some (.builtin "object.__new__"),some (.bool true)] }) ::
(nat_lit 617,{ cls:=.type "dict",data:=.dict #[e P "room" 997 (.int 4 995),e P "wait" 998 (.int 6 996)] 2 }) ::
(nat_lit 621,{ cls:=.type "code",data:=.fields #[.str "__init__" 999,.str "Net.__init__" 1000,.str "/claim/cut.py" 1001,.int 354 0,.int 3 0,.int 0 0,.int 2 0,.int 3 0,.ref 618,.bool true,.int 181 0,.ref 619,.none,.none,.none,.ref 620,.int 1002 0,.int 354 0,.str "/claim/cut.py" 1003] }) ::
(nat_lit 622,⟨.type "function",none,.func (PySem.W.fnOf "__init__" "Net.__init__" (L2.defArgs (inCls (top 56) 0)) (L2.defBody (inCls (top 56) 0)) (L2.defScope (inCls (top 56) 0)) .none (.ref 617) .none (.str "namewants.nets" 981) none (.ref 621) .none),#[]⟩) ::
(nat_lit 628,co "ask" "Net.ask" 1005 367 3 623 1013) ::
(nat_lit 629,fo (inCls (top 56) 1) "ask" "Net.ask" "namewants.nets" 981 628) ::
(nat_lit 668,co "come" "Net.come" 1060 397 3 663 1067) ::
(nat_lit 669,fo (inCls (top 56) 7) "come" "Net.come" "namewants.nets" 981 668) ::
(nat_lit 675,co "lose" "Net.lose" 1070 404 3 670 1076) ::
(nat_lit 676,fo (inCls (top 56) 8) "lose" "Net.lose" "namewants.nets" 981 675) ::
(nat_lit 682,co "cut" "Net.cut" 1079 407 3 677 1085) ::
(nat_lit 683,fo (inCls (top 56) 9) "cut" "Net.cut" "namewants.nets" 981 682) ::
(nat_lit 696,co "leave" "Net.leave" 1097 415 2 691 1102) ::
(nat_lit 697,fo (inCls (top 56) 11) "leave" "Net.leave" "namewants.nets" 981 696) ::
(nat_lit 736,co "on_way" "Net.on_way" 1142 442 3 731 1148) ::
(nat_lit 737,fo (inCls (top 56) 17) "on_way" "Net.on_way" "namewants.nets" 981 736) ::
(nat_lit 786,co "taken" "Net.taken" 1205 481 3 781 1212) ::
(nat_lit 787,fo (inCls (top 56) 25) "taken" "Net.taken" "namewants.nets" 981 786) ::
(nat_lit 793,co "need_house" "Net.need_house" 1215 488 2 788 1220) ::
(nat_lit 794,fo (inCls (top 56) 26) "need_house" "Net.need_house" "namewants.nets" 981 793) ::
(nat_lit 800,co "need_alive" "Net.need_alive" 1223 492 2 795 1228) ::
(nat_lit 801,fo (inCls (top 56) 27) "need_alive" "Net.need_alive" "namewants.nets" 981 800) ::
(nat_lit 807,co "need_way" "Net.need_way" 1231 497 3 802 1237) ::
(nat_lit 808,fo (inCls (top 56) 28) "need_way" "Net.need_way" "namewants.nets" 981 807) ::
(nat_lit 810,{ cls:=.type "dict",data:=.dict #[e P "__module__" 990 (.str "namewants.nets" 981),e P "__firstlineno__" 994 (.int 352 993),e P "__init__" 1004 (.ref 622),e P "ask" 1015 (.ref 629),e P "end" 1024 (.ref 636),e P "own" 1035 (.ref 643),e P "disown" 1044 (.ref 650),e P "teach" 1050 (.ref 655),e P "forget" 1059 (.ref 662),e P "come" 1069 (.ref 669),e P "lose" 1078 (.ref 676),e P "cut" 1087 (.ref 683),e P "mend" 1096 (.ref 690),e P "leave" 1104 (.ref 697),e P "settle" 1113 (.ref 704),e P "tick" 1121 (.ref 711),e P "now" 1128 (.ref 718),e P "size" 1135 (.ref 725),e P "ways" 1141 (.ref 730),e P "on_way" 1150 (.ref 737),e P "alive" 1156 (.ref 742),e P "at_house" 1164 (.ref 749),e P "leads" 1170 (.ref 754),e P "__len__" 1176 (.ref 759),e P "is_cut" 1185 (.ref 766),e P "least_pair" 1193 (.ref 773),e P "post" 1204 (.ref 780),e P "taken" 1214 (.ref 787),e P "need_house" 1222 (.ref 794),e P "need_alive" 1230 (.ref 801),e P "need_way" 1239 (.ref 808),e P "__static_attributes__" 1245 (.ref 809),e P "__dict__" 1247 (.ref 812),e P "__weakref__" 1249 (.ref 813),e P "__doc__" 1250 (.none)] 4 }) ::
(nat_lit 811,{ cls:=.type "type",data:=.cls { name:="Net",bases:=[.type "object"],mro:=[.ref 811,.type "object"],ns:=810,qualname:="Net" },slots:=#[none,none,some (.str "Net" 983),some (.str "Net" 991),some (.builtin "object.__new__"),some (.bool true)] }) ::
(nat_lit 816,{ cls:=.type "dict",data:=.dict #[e P "ask" 1259 (.ref 817),e P "own" 1262 (.ref 818),e P "disown" 1267 (.ref 819),e P "teach" 1270 (.ref 820),e P "forget" 1274 (.ref 821),e P "come" 1277 (.ref 822),e P "lose" 1280 (.ref 823),e P "cut" 1283 (.ref 824),e P "mend" 1286 (.ref 825),e P "leave" 1289 (.ref 826),e P "settle" 1291 (.ref 827),e P "tick" 1292 (.ref 828)] 12 }) ::
(nat_lit 826,tu #[.str "house" 1290]) ::
(nat_lit 841,co "is_of_kind" "is_of_kind" 1313 508 2 836 1318) ::
(nat_lit 842,fo (top 62) "is_of_kind" "is_of_kind" "namewants.stories" 1253 841) ::
(nat_lit 846,cp "is_deed" "is_deed" 1321 520 1 843) ::
(nat_lit 847,fo (top 63) "is_deed" "is_deed" "namewants.stories" 1253 846) ::
(nat_lit 851,cp "need_story" "need_story" 1327 529 1 848) ::
(nat_lit 852,fo (top 64) "need_story" "need_story" "namewants.stories" 1253 851) ::
(nat_lit 863,cp "read_number" "read_number" 1340 537 1 860) ::
(nat_lit 864,fo (top 66) "read_number" "read_number" "namewants.stories" 1253 863) ::
(nat_lit 868,cp "read_part" "read_part" 1346 544 2 865) ::
(nat_lit 869,fo (top 67) "read_part" "read_part" "namewants.stories" 1253 868) ::
(nat_lit 873,cp "read_deed" "read_deed" 1352 550 1 870) ::
(nat_lit 874,fo (top 68) "read_deed" "read_deed" "namewants.stories" 1253 873) ::
(nat_lit 878,cp "read_story" "read_story" 1358 555 1 875) ::
(nat_lit 879,fo (top 69) "read_story" "read_story" "namewants.stories" 1253 878) ::
(nat_lit 885,co "_law_cell" "_law_cell" 1366 564 2 880 1371) ::
(nat_lit 886,fo (top 71) "_law_cell" "_law_cell" "law_namewants_k81_refusals_apart" 1364 885) ::
(nat_lit 892,co "_law_drawn" "_law_drawn" 1374 568 2 887 1380) ::
(nat_lit 893,fo (top 72) "_law_drawn" "_law_drawn" "law_namewants_k81_refusals_apart" 1364 892) ::
(nat_lit 899,co "_law_roll" "_law_roll" 1383 573 2 894 1389) ::
(nat_lit 900,fo (top 73) "_law_roll" "_law_roll" "law_namewants_k81_refusals_apart" 1364 899) ::
(nat_lit 904,cp "_law_rounds" "_law_rounds" 1392 580 2 901) ::
(nat_lit 905,fo (top 74) "_law_rounds" "_law_rounds" "law_namewants_k81_refusals_apart" 1364 904) ::
(nat_lit 911,co "_law_met" "_law_met" 1398 582 1 906 1403) ::
(nat_lit 912,fo (top 75) "_law_met" "_law_met" "law_namewants_k81_refusals_apart" 1364 911) ::
(nat_lit 916,cp "_law_alone" "_law_alone" 1406 588 2 913) ::
(nat_lit 917,fo (top 76) "_law_alone" "_law_alone" "law_namewants_k81_refusals_apart" 1364 916) ::
(nat_lit 921,{ cls:=.type "code",data:=.fields #[.str "law" 1412,.str "law" 1413,.str "/claim/cut.py" 1414,.int 595 0,.int 1 0,.int 0 0,.int 0 0,.int 3 0,.ref 918,.bool true,.int 181 0,.ref 919,.none,.none,.none,.ref 920,.int 1415 0,.int 595 0,.str "/claim/cut.py" 1416] }) ::
(nat_lit 922,⟨.type "function",none,.func (PySem.W.fnOf "law" "law" (L2.defArgs (top 77)) (L2.defBody (top 77)) (L2.defScope (top 77)) .none .none .none (.str "law_namewants_k81_refusals_apart" 1364) none (.ref 921) .none),#[]⟩)::[]
end Q81
def PySem.W.Fast.tw16050721033638092338:PySem.Params->PySem.W.Frag:=Q81.Kf
theorem PySem.W.Fast.te16050721033638092338:Q81.Kf=PySem.W.Fast.tw16050721033638092338:=rfl
namespace Q81
noncomputable def vw:PySem.Program:={ PySem.Challenge.pw_namewants_k81_refusals_apart with main:={ (PySem.Challenge.pw_namewants_k81_refusals_apart).main with body:=top 0::top 2::top 3::top 4::top 5::top 6::top 7::top 8::top 9::top 10::top 11::top 13::top 14::top 15::top 16::top 17::top 18::top 19::top 20::top 21::top 22::top 23::top 24::top 25::top 26::top 27::top 28::top 29::top 30::top 31::top 32::top 33::top 35::top 36::top 37::top 38::top 39::top 40::top 41::top 42::top 43::top 45::top 46::top 48::top 50::top 51::top 52::top 53::top 54::top 56::top 58::top 59::top 60::top 61::top 62::top 63::top 64::top 65::top 66::top 67::top 68::top 69::top 71::top 72::top 73::top 74::top 75::top 76::top 77::[] } }
end Q81
noncomputable abbrev Q81.ads:List PySem.Addr:=[2,3,30,31,43,44,55,56,67,68,79,80,91,92,103,104,115,116,131,132,134,135,146,147,155,156,162,163,176,177,195,196,202,203,209,210,237,238,244,245,249,250,254,255,264,265,271,272,285,286,292,293,306,307,313,314,340,341,358,359,365,366,422,423,433,434,463,469,470,476,477,483,484,604,605,617,621,622,628,629,668,669,675,676,682,683,696,697,736,737,786,787,793,794,800,801,807,808,810,811,816,826,841,842,846,847,851,852,863,864,868,869,873,874,878,879,885,886,892,893,899,900,904,905,911,912,916,917,921,922]
namespace Q81
noncomputable def rf (P:PySem.Params)(x:PySem.Str)(a b c:Nat):List PySem.Obj:=
{ cls:=.type "tuple",data:=.seq #[.ref 31] } ::
{ cls:=.type "builtin_function_or_method",data:=.fields #[.builtin "type.__prepare__",.type "type"] } ::
{ cls:=.type "dict",data:=.dict #[e P "__module__" (221+a) (.str "namewants.errors" 194),e P "__qualname__" (223+a) (.str x (222+a)),e P "__firstlineno__" (225+a) (.int (7+b) (224+a)),e P "__static_attributes__" (226+a) (.ref (42+c))] 4 } ::
{ cls:=.type "tuple",data:=.seq #[] } ::
{ cls:=.none,data:=.fields #[] } ::
{ cls:=.type "code",data:=.fields #[.str x (216+a),.str x (217+a),.str "/claim/cut.py" (218+a),.int (7+b) 0,.int 0 0,.int 0 0,.int 0 0,.int 0 0,.ref (38+c),.bool false,.int 181 0,.ref (39+c),.none,.none,.none,.none,.int (219+a) 0,.int (7+b) 0,.str "/claim/cut.py" (220+a)] } ::
{ cls:=.type "frame",slots:=#[some (.ref (40+c)),some (.ref 3),some (.ref (37+c)),none,some (.str "namewants.errors" 194),none,some (.ref 0)] } ::
{ cls:=.type "tuple",data:=.seq #[] } ::
{ cls:=.type "dict",data:=.dict #[e P "__module__" (221+a) (.str "namewants.errors" 194),e P "__firstlineno__" (225+a) (.int (7+b) (224+a)),e P "__static_attributes__" (226+a) (.ref (42+c)),e P "__doc__" (227+a) (.none)] 2 } ::
{ cls:=.type "type",data:=.cls { name:=x,bases:=[.ref 31],mro:=[.ref (44+c),.ref 31,.type "ValueError",.type "Exception",.type "BaseException",.type "object"],ns:=(43+c),qualname:=x },slots:=#[some (.ref (35+c)),none,some (.str x (214+a)),some (.str x (222+a)),some (.builtin "ValueError.__new__"),some (.bool true)] } ::
{ cls:=.type "super",data:=.fields #[.ref (44+c),.ref (44+c),.ref (44+c)] } ::
{ cls:=.type "builtin_function_or_method",data:=.fields #[.builtin "object.__init_subclass__",.ref (44+c)] }::[]
noncomputable def midL:PySem.Params->List PySem.Obj:=fun P=>
(PySem.W.boot_o_0 P ::
PySem.W.boot_o_1 P ::
PySem.W.boot_o_2 P ::
{ cls:=.type "dict",data:=.dict #[e P "__name__" 165 (.str "namewants.houses" 722),e P "__doc__" 166 (.none),e P "__package__" 167 (.none),e P "__loader__" 168 (.builtin "__main__.__loader__#opaque"),e P "__spec__" 169 (.none),e P "__annotations__" 170 (.ref 6),e P "__builtins__" 171 (.ref 4),e P "__file__" 173 (.str "/claim/cut.py" 172),e P "__cached__" 174 (.none),e P "_wall" 193 (.ref 21),e P "WantError" 213 (.ref 31),e P "BadName" 229 (.ref 44),e P "BadSides" 245 (.ref 56),e P "BadNumber" 261 (.ref 68),e P "BadLetter" 277 (.ref 80),e P "NoHouse" 293 (.ref 92),e P "NoWay" 309 (.ref 104),e P "NoLetter" 325 (.ref 116),e P "Gone" 350 (.ref 135),e P "BadStory" 366 (.ref 147),e P "VALUE_MOST" 370 (.int 999 369),e P "SIDE_MOST" 372 (.int 7 371),e P "LIFE_MOST" 374 (.int 99 373),e P "HOUSES_LEAST" 376 (.int 2 375),e P "HOUSES_MOST" 379 (.int 8 378),e P "is_whole" 386 (.ref 156),e P "is_within" 395 (.ref 163),e P "is_value" 402 (.ref 170),e P "is_side" 409 (.ref 177),e P "is_life" 416 (.ref 184),e P "is_tick" 423 (.ref 191),e P "is_sides" 429 (.ref 196),e P "is_way" 439 (.ref 203),e P "need_within" 448 (.ref 210),e P "need_value" 455 (.ref 217),e P "need_life" 462 (.ref 224),e P "need_tick" 469 (.ref 231),e P "need_sides" 476 (.ref 238),e P "need_houses" 483 (.ref 245),e P "need_ways" 489 (.ref 250),e P "both_ways" 495 (.ref 255),e P "SIGNS" 499 (.str "abcdefghijklmnopqrstuvwxyz0123456789" 498),e P "PART_LONGEST" 501 (.int 4 500),e P "NAME_LONGEST" 503 (.int 5 502),e P "is_part" 509 (.ref 260),e P "is_name" 515 (.ref 265),e P "is_beginning" 522 (.ref 272),e P "need_name" 529 (.ref 279),e P "need_beginning" 536 (.ref 286),e P "read_name" 544 (.ref 293),e P "ROOM_MOST" 548 (.int 9 547),e P "Keeps" 618 (.ref 341),e P "Table" 721 (.ref 423),e P "WAIT_LEAST" 725 (.int 1 724),e P "WAIT_MOST" 727 (.int 20 726),e P "is_letter" 734 (.ref 434),e P "Wait" 766 (.ref 451),e P "House" 980 (.ref 605)] 58 } ::
PySem.W.boot_o_4 P ::
PySem.W.boot_o_5 P ::
PySem.W.boot_o_6 P ::
PySem.W.boot_o_7 P ::
PySem.W.boot_o_8 P ::
PySem.W.boot_o_9 P ::
PySem.W.boot_o_10 P ::
tu #[] ::
nf #[.int 1 0,.int 0 0,.ref 20,.int 5 0,.int 0 0,.ref 27,.int 7 0,.int 0 0,.ref 40,.int 9 0,.int 0 0,.ref 52,.int 11 0,.int 0 0,.ref 64,.int 13 0,.int 0 0,.ref 76,.int 15 0,.int 0 0,.ref 88,.int 17 0,.int 0 0,.ref 100,.int 19 0,.int 0 0,.ref 112,.int 21 0,.int 0 0,.ref 124,.int 25 0,.int 0 0,.ref 143,.int 33 0,.int 0 0,.ref 155,.int 35 0,.int 0 0,.ref 162,.int 37 0,.int 0 0,.ref 169,.int 39 0,.int 0 0,.ref 176,.int 41 0,.int 0 0,.ref 183,.int 43 0,.int 0 0,.ref 190,.int 45 0,.int 0 0,.ref 195,.int 51 0,.int 0 0,.ref 202,.int 56 0,.int 0 0,.ref 209,.int 59 0,.int 0 0,.ref 216,.int 61 0,.int 0 0,.ref 223,.int 63 0,.int 0 0,.ref 230,.int 66 0,.int 0 0,.ref 237,.int 69 0,.int 0 0,.ref 244,.int 71 0,.int 0 0,.ref 249,.int 76 0,.int 0 0,.ref 254,.int 82 0,.int 0 0,.ref 259,.int 86 0,.int 0 0,.ref 264,.int 90 0,.int 0 0,.ref 271,.int 92 0,.int 0 0,.ref 278,.int 95 0,.int 0 0,.ref 285,.int 98 0,.int 0 0,.ref 292,.int 109 0,.int 0 0,.ref 299,.int 150 0,.int 0 0,.ref 351,.int 195 0,.int 0 0,.ref 433,.int 201 0,.int 0 0,.ref 440,.int 208 0,.int 0 0,.ref 461] ::
ck "<module>" 182 1 11 ::
fr #[some (.ref 13),some (.ref 3),some (.ref 3),none,some (.str "__main__" 164),none,some (.ref 0)] ::
tu #[] ::
nf #[] ::
tu #[.str "k" 190] ::
tu #[] ::
fc "_wall" "_wall" (top 0) ::
co "_wall" "_wall" 187 1 1 15 191 ::
fo (top 0) "_wall" "_wall" "__main__" 164 20 ::
tu #[.type "ValueError"] ::
{ cls:=.type "builtin_function_or_method",data:=.fields #[.builtin "type.__prepare__",.type "type"] } ::
{ cls:=.type "dict",data:=.dict #[e P "__module__" 203 (.str "namewants.errors" 194),e P "__qualname__" 205 (.str "WantError" 204),e P "__firstlineno__" 207 (.int 5 206),e P "__static_attributes__" 208 (.ref 29)] 4 } ::
tu #[] ::
nf #[] ::
ck "WantError" 198 5 25 ::
fr #[some (.ref 27),some (.ref 3),some (.ref 24),none,some (.str "namewants.errors" 194),none,some (.ref 0)] ::
tu #[] ::
{ cls:=.type "dict",data:=.dict #[e P "__module__" 203 (.str "namewants.errors" 194),e P "__firstlineno__" 207 (.int 5 206),e P "__static_attributes__" 208 (.ref 29),e P "__weakref__" 210 (.ref 32),e P "__doc__" 211 (.none)] 3 } ::
{ cls:=.type "type",data:=.cls { name:="WantError",bases:=[.type "ValueError"],mro:=[.ref 31,.type "ValueError",.type "Exception",.type "BaseException",.type "object"],ns:=30,qualname:="WantError",subclasses:=[.ref 44,.ref 56,.ref 68,.ref 80,.ref 92,.ref 104,.ref 116,.ref 135,.ref 147] },slots:=#[some (.ref 22),none,some (.str "WantError" 196),some (.str "WantError" 204),some (.builtin "ValueError.__new__"),some (.bool true)] } ::
gs #[.str "__weakref__" 209,.ref 31,.builtin "ExceptionGroup.__weakref__",.none] ::
{ cls:=.type "super",data:=.fields #[.ref 31,.ref 31,.ref 31] } ::
{ cls:=.type "builtin_function_or_method",data:=.fields #[.builtin "object.__init_subclass__",.ref 31] }::[]) ++
rf P "BadName" 0 0 0 ++
rf P "BadSides" 16 2 12 ++
rf P "BadNumber" 32 4 24 ++
rf P "BadLetter" 48 6 36 ++
rf P "NoHouse" 64 8 48 ++
rf P "NoWay" 80 10 60 ++
rf P "NoLetter" 96 12 72 ++
(tu #[.ref 31] ::
{ cls:=.type "builtin_function_or_method",data:=.fields #[.builtin "type.__prepare__",.type "type"] } ::
{ cls:=.type "dict",data:=.dict #[e P "__module__" 333 (.str "namewants.errors" 194),e P "__qualname__" 335 (.str "Gone" 334),e P "__firstlineno__" 337 (.int 21 336),e P "__init__" 345 (.ref 132),e P "__static_attributes__" 347 (.ref 133)] 5 } ::
tu #[] ::
nf #[.int 23 0,.int 4 0,.ref 131] ::
ck "Gone" 328 21 122 ::
fr #[some (.ref 124),some (.ref 3),some (.ref 121),none,some (.str "namewants.errors" 194),none,some (.ref 0)] ::
tu #[] ::
nf #[] ::
tu #[.str "self" 341,.str "house" 342] ::
tu #[] ::
fc "__init__" "Gone.__init__" (inCls (top 10) 0) ::
co "__init__" "Gone.__init__" 338 23 2 126 343 ::
fo (inCls (top 10) 0) "__init__" "Gone.__init__" "namewants.errors" 194 131 ::
tu #[.str "house" 346] ::
{ cls:=.type "dict",data:=.dict #[e P "__module__" 333 (.str "namewants.errors" 194),e P "__firstlineno__" 337 (.int 21 336),e P "__init__" 345 (.ref 132),e P "__static_attributes__" 347 (.ref 133),e P "__doc__" 348 (.none)] 2 } ::
ex "Gone" 135 134 119 326 334 ::
{ cls:=.type "super",data:=.fields #[.ref 135,.ref 135,.ref 135] } ::
{ cls:=.type "builtin_function_or_method",data:=.fields #[.builtin "object.__init_subclass__",.ref 135] }::[]) ++
rf P "BadStory" 137 18 103 ++
(tu #[] ::
nf #[] ::
tu #[.str "thing" 383] ::
tu #[] ::
fc "is_whole" "is_whole" (top 18) ::
co "is_whole" "is_whole" 380 33 1 150 384 ::
fo (top 18) "is_whole" "is_whole" "namewants.checks" 367 155 ::
tu #[] ::
nf #[] ::
tu #[.str "thing" 390,.str "least" 391,.str "most" 392] ::
tu #[] ::
fc "is_within" "is_within" (top 19) ::
co "is_within" "is_within" 387 35 3 157 393 ::
fo (top 19) "is_within" "is_within" "namewants.checks" 367 162 ::
tu #[] ::
nf #[] ::
tu #[.str "thing" 399] ::
tu #[] ::
fc "is_value" "is_value" (top 20) ::
co "is_value" "is_value" 396 37 1 164 400 ::
fo (top 20) "is_value" "is_value" "namewants.checks" 367 169 ::
tu #[] ::
nf #[] ::
tu #[.str "thing" 406] ::
tu #[] ::
fc "is_side" "is_side" (top 21) ::
co "is_side" "is_side" 403 39 1 171 407 ::
fo (top 21) "is_side" "is_side" "namewants.checks" 367 176 ::
tu #[] ::
nf #[] ::
tu #[.str "thing" 413] ::
tu #[] ::
fc "is_life" "is_life" (top 22) ::
co "is_life" "is_life" 410 41 1 178 414 ::
fo (top 22) "is_life" "is_life" "namewants.checks" 367 183 ::
tu #[] ::
nf #[] ::
tu #[.str "thing" 420] ::
tu #[] ::
fc "is_tick" "is_tick" (top 23) ::
co "is_tick" "is_tick" 417 43 1 185 421 ::
fo (top 23) "is_tick" "is_tick" "namewants.checks" 367 190 ::
tu #[] ::
nf #[] ::
fc "is_sides" "is_sides" (top 24) ::
cp "is_sides" "is_sides" 424 45 1 192 ::
fo (top 24) "is_sides" "is_sides" "namewants.checks" 367 195 ::
tu #[] ::
nf #[] ::
tu #[.str "thing" 433,.str "houses" 434,.str "lesser" 435,.str "greater" 436] ::
tu #[] ::
fc "is_way" "is_way" (top 25) ::
co "is_way" "is_way" 430 51 2 197 437 ::
fo (top 25) "is_way" "is_way" "namewants.checks" 367 202 ::
tu #[] ::
nf #[] ::
tu #[.str "thing" 443,.str "least" 444,.str "most" 445] ::
tu #[] ::
fc "need_within" "need_within" (top 26) ::
co "need_within" "need_within" 440 56 3 204 446 ::
fo (top 26) "need_within" "need_within" "namewants.checks" 367 209 ::
tu #[] ::
nf #[] ::
tu #[.str "thing" 452] ::
tu #[] ::
fc "need_value" "need_value" (top 27) ::
co "need_value" "need_value" 449 59 1 211 453 ::
fo (top 27) "need_value" "need_value" "namewants.checks" 367 216 ::
tu #[] ::
nf #[] ::
tu #[.str "thing" 459] ::
tu #[] ::
fc "need_life" "need_life" (top 28) ::
co "need_life" "need_life" 456 61 1 218 460 ::
fo (top 28) "need_life" "need_life" "namewants.checks" 367 223 ::
tu #[] ::
nf #[] ::
tu #[.str "thing" 466] ::
tu #[] ::
fc "need_tick" "need_tick" (top 29) ::
co "need_tick" "need_tick" 463 63 1 225 467 ::
fo (top 29) "need_tick" "need_tick" "namewants.checks" 367 230 ::
tu #[] ::
nf #[] ::
tu #[.str "thing" 473] ::
tu #[] ::
fc "need_sides" "need_sides" (top 30) ::
co "need_sides" "need_sides" 470 66 1 232 474 ::
fo (top 30) "need_sides" "need_sides" "namewants.checks" 367 237 ::
tu #[] ::
nf #[] ::
tu #[.str "thing" 480] ::
tu #[] ::
fc "need_houses" "need_houses" (top 31) ::
co "need_houses" "need_houses" 477 69 1 239 481 ::
fo (top 31) "need_houses" "need_houses" "namewants.checks" 367 244 ::
tu #[] ::
nf #[] ::
fc "need_ways" "need_ways" (top 32) ::
cp "need_ways" "need_ways" 484 71 2 246 ::
fo (top 32) "need_ways" "need_ways" "namewants.checks" 367 249 ::
tu #[] ::
nf #[] ::
fc "both_ways" "both_ways" (top 33) ::
cp "both_ways" "both_ways" 490 76 1 251 ::
fo (top 33) "both_ways" "both_ways" "namewants.checks" 367 254 ::
tu #[] ::
nf #[] ::
fc "is_part" "is_part" (top 38) ::
cp "is_part" "is_part" 504 82 1 256 ::
fo (top 38) "is_part" "is_part" "namewants.names" 496 259 ::
tu #[] ::
nf #[] ::
fc "is_name" "is_name" (top 39) ::
cp "is_name" "is_name" 510 86 1 261 ::
fo (top 39) "is_name" "is_name" "namewants.names" 496 264 ::
tu #[] ::
nf #[] ::
tu #[.str "thing" 519] ::
tu #[] ::
fc "is_beginning" "is_beginning" (top 40) ::
co "is_beginning" "is_beginning" 516 90 1 266 520 ::
fo (top 40) "is_beginning" "is_beginning" "namewants.names" 496 271 ::
tu #[] ::
nf #[] ::
tu #[.str "thing" 526] ::
tu #[] ::
fc "need_name" "need_name" (top 41) ::
co "need_name" "need_name" 523 92 1 273 527 ::
fo (top 41) "need_name" "need_name" "namewants.names" 496 278 ::
tu #[] ::
nf #[] ::
tu #[.str "thing" 533] ::
tu #[] ::
fc "need_beginning" "need_beginning" (top 42) ::
co "need_beginning" "need_beginning" 530 95 1 280 534 ::
fo (top 42) "need_beginning" "need_beginning" "namewants.names" 496 285 ::
tu #[] ::
nf #[] ::
tu #[.str "text" 540,.str "name" 541] ::
tu #[] ::
fc "read_name" "read_name" (top 43) ::
co "read_name" "read_name" 537 98 1 287 542 ::
fo (top 43) "read_name" "read_name" "namewants.names" 496 292 ::
tu #[] ::
{ cls:=.type "builtin_function_or_method",data:=.fields #[.builtin "type.__prepare__",.type "type"] } ::
{ cls:=.type "dict",data:=.dict #[e P "__module__" 556 (.str "namewants.keeps" 545),e P "__qualname__" 558 (.str "Keeps" 557),e P "__firstlineno__" 560 (.int 109 559),e P "__init__" 568 (.ref 307),e P "put" 579 (.ref 314),e P "got" 589 (.ref 321),e P "aged" 595 (.ref 326),e P "rows" 601 (.ref 331),e P "__len__" 608 (.ref 338),e P "__static_attributes__" 611 (.ref 339)] 10 } ::
tu #[] ::
nf #[.int 111 0,.int 4 0,.ref 306,.int 116 0,.int 4 0,.ref 313,.int 128 0,.int 4 0,.ref 320,.int 137 0,.int 4 0,.ref 325,.int 144 0,.int 4 0,.ref 330,.int 147 0,.int 4 0,.ref 337] ::
ck "Keeps" 551 109 297 ::
fr #[some (.ref 299),some (.ref 3),some (.ref 296),none,some (.str "namewants.keeps" 545),none,some (.ref 0)] ::
tu #[] ::
nf #[] ::
tu #[.str "self" 564,.str "room" 565] ::
tu #[] ::
fc "__init__" "Keeps.__init__" (inCls (top 46) 0) ::
co "__init__" "Keeps.__init__" 561 111 2 301 566 ::
fo (inCls (top 46) 0) "__init__" "Keeps.__init__" "namewants.keeps" 545 306 ::
tu #[] ::
nf #[] ::
tu #[.str "self" 572,.str "name" 573,.str "value" 574,.str "until" 575,.str "now" 576] ::
tu #[] ::
fc "put" "Keeps.put" (inCls (top 46) 1) ::
co "put" "Keeps.put" 569 116 5 308 577 ::
fo (inCls (top 46) 1) "put" "Keeps.put" "namewants.keeps" 545 313 ::
tu #[] ::
nf #[] ::
tu #[.str "self" 583,.str "name" 584,.str "now" 585,.str "thing" 586] ::
tu #[] ::
fc "got" "Keeps.got" (inCls (top 46) 2) ::
co "got" "Keeps.got" 580 128 3 315 587 ::
fo (inCls (top 46) 2) "got" "Keeps.got" "namewants.keeps" 545 320 ::
tu #[] ::
nf #[] ::
fc "aged" "Keeps.aged" (inCls (top 46) 3) ::
cp "aged" "Keeps.aged" 590 137 2 322 ::
fo (inCls (top 46) 3) "aged" "Keeps.aged" "namewants.keeps" 545 325 ::
tu #[] ::
nf #[] ::
fc "rows" "Keeps.rows" (inCls (top 46) 4) ::
cp "rows" "Keeps.rows" 596 144 1 327 ::
fo (inCls (top 46) 4) "rows" "Keeps.rows" "namewants.keeps" 545 330 ::
tu #[] ::
nf #[] ::
tu #[.str "self" 605] ::
tu #[] ::
fc "__len__" "Keeps.__len__" (inCls (top 46) 5) ::
co "__len__" "Keeps.__len__" 602 147 1 332 606 ::
fo (inCls (top 46) 5) "__len__" "Keeps.__len__" "namewants.keeps" 545 337 ::
tu #[.str "kept" 609,.str "room" 610] ::
{ cls:=.type "dict",data:=.dict #[e P "__module__" 556 (.str "namewants.keeps" 545),e P "__firstlineno__" 560 (.int 109 559),e P "__init__" 568 (.ref 307),e P "put" 579 (.ref 314),e P "got" 589 (.ref 321),e P "aged" 595 (.ref 326),e P "rows" 601 (.ref 331),e P "__len__" 608 (.ref 338),e P "__static_attributes__" 611 (.ref 339),e P "__dict__" 613 (.ref 342),e P "__weakref__" 615 (.ref 343),e P "__doc__" 616 (.none)] 4 } ::
{ cls:=.type "type",data:=.cls { name:="Keeps",bases:=[.type "object"],mro:=[.ref 341,.type "object"],ns:=340,qualname:="Keeps" },slots:=#[none,none,some (.str "Keeps" 549),some (.str "Keeps" 557),some (.builtin "object.__new__"),some (.bool true)] } ::
gs #[.str "__dict__" 612,.ref 341,.builtin "function.__dict__",.builtin "function.__dict__#set"] ::
gs #[.str "__weakref__" 614,.ref 341,.builtin "ExceptionGroup.__weakref__",.none] ::
{ cls:=.type "super",data:=.fields #[.ref 341,.ref 341,.ref 341] } ::
{ cls:=.type "builtin_function_or_method",data:=.fields #[.builtin "object.__init_subclass__",.ref 341] } ::
tu #[] ::
{ cls:=.type "builtin_function_or_method",data:=.fields #[.builtin "type.__prepare__",.type "type"] } ::
{ cls:=.type "dict",data:=.dict #[e P "__module__" 628 (.str "namewants.tables" 619),e P "__qualname__" 630 (.str "Table" 629),e P "__firstlineno__" 632 (.int 150 631),e P "__init__" 639 (.ref 359),e P "put" 648 (.ref 366),e P "drop" 656 (.ref 373),e P "way" 666 (.ref 380),e P "sides" 675 (.ref 387),e P "rows" 681 (.ref 392),e P "parted" 689 (.ref 399),e P "lean" 696 (.ref 406),e P "__len__" 703 (.ref 413),e P "__eq__" 711 (.ref 420),e P "__static_attributes__" 713 (.ref 421)] 14 } ::
tu #[] ::
nf #[.int 152 0,.int 4 0,.ref 358,.int 155 0,.int 4 0,.ref 365,.int 160 0,.int 4 0,.ref 372,.int 166 0,.int 4 0,.ref 379,.int 174 0,.int 4 0,.ref 386,.int 178 0,.int 4 0,.ref 391,.int 181 0,.int 4 0,.ref 398,.int 184 0,.int 4 0,.ref 405,.int 187 0,.int 4 0,.ref 412,.int 190 0,.int 4 0,.ref 419] ::
ck "Table" 623 150 349 ::
fr #[some (.ref 351),some (.ref 3),some (.ref 348),none,some (.str "namewants.tables" 619),none,some (.ref 0)] ::
tu #[] ::
nf #[] ::
tu #[.str "self" 636] ::
tu #[] ::
fc "__init__" "Table.__init__" (inCls (top 48) 0) ::
co "__init__" "Table.__init__" 633 152 1 353 637 ::
fo (inCls (top 48) 0) "__init__" "Table.__init__" "namewants.tables" 619 358 ::
tu #[] ::
nf #[] ::
tu #[.str "self" 643,.str "beginning" 644,.str "sides" 645] ::
tu #[] ::
fc "put" "Table.put" (inCls (top 48) 1) ::
co "put" "Table.put" 640 155 3 360 646 ::
fo (inCls (top 48) 1) "put" "Table.put" "namewants.tables" 619 365 ::
tu #[] ::
nf #[] ::
tu #[.str "self" 652,.str "beginning" 653] ::
tu #[] ::
fc "drop" "Table.drop" (inCls (top 48) 2) ::
co "drop" "Table.drop" 649 160 2 367 654 ::
fo (inCls (top 48) 2) "drop" "Table.drop" "namewants.tables" 619 372 ::
tu #[] ::
nf #[] ::
tu #[.str "self" 660,.str "name" 661,.str "many" 662,.str "beginning" 663] ::
tu #[] ::
fc "way" "Table.way" (inCls (top 48) 3) ::
co "way" "Table.way" 657 166 2 374 664 ::
fo (inCls (top 48) 3) "way" "Table.way" "namewants.tables" 619 379 ::
tu #[] ::
nf #[] ::
tu #[.str "self" 670,.str "name" 671,.str "found" 672] ::
tu #[] ::
fc "sides" "Table.sides" (inCls (top 48) 4) ::
co "sides" "Table.sides" 667 174 2 381 673 ::
fo (inCls (top 48) 4) "sides" "Table.sides" "namewants.tables" 619 386 ::
tu #[] ::
nf #[] ::
fc "rows" "Table.rows" (inCls (top 48) 5) ::
cp "rows" "Table.rows" 676 178 1 388 ::
fo (inCls (top 48) 5) "rows" "Table.rows" "namewants.tables" 619 391 ::
tu #[] ::
nf #[] ::
tu #[.str "self" 685,.str "other" 686] ::
tu #[] ::
fc "parted" "Table.parted" (inCls (top 48) 6) ::
co "parted" "Table.parted" 682 181 2 393 687 ::
fo (inCls (top 48) 6) "parted" "Table.parted" "namewants.tables" 619 398 ::
tu #[] ::
nf #[] ::
tu #[.str "self" 693] ::
tu #[] ::
fc "lean" "Table.lean" (inCls (top 48) 7) ::
co "lean" "Table.lean" 690 184 1 400 694 ::
fo (inCls (top 48) 7) "lean" "Table.lean" "namewants.tables" 619 405 ::
tu #[] ::
nf #[] ::
tu #[.str "self" 700] ::
tu #[] ::
fc "__len__" "Table.__len__" (inCls (top 48) 8) ::
co "__len__" "Table.__len__" 697 187 1 407 701 ::
fo (inCls (top 48) 8) "__len__" "Table.__len__" "namewants.tables" 619 412 ::
tu #[] ::
nf #[] ::
tu #[.str "self" 707,.str "other" 708] ::
tu #[] ::
fc "__eq__" "Table.__eq__" (inCls (top 48) 9) ::
co "__eq__" "Table.__eq__" 704 190 2 414 709 ::
fo (inCls (top 48) 9) "__eq__" "Table.__eq__" "namewants.tables" 619 419 ::
tu #[.str "held" 712] ::
{ cls:=.type "dict",data:=.dict #[e P "__module__" 628 (.str "namewants.tables" 619),e P "__firstlineno__" 632 (.int 150 631),e P "__init__" 639 (.ref 359),e P "put" 648 (.ref 366),e P "drop" 656 (.ref 373),e P "way" 666 (.ref 380),e P "sides" 675 (.ref 387),e P "rows" 681 (.ref 392),e P "parted" 689 (.ref 399),e P "lean" 696 (.ref 406),e P "__len__" 703 (.ref 413),e P "__eq__" 711 (.ref 420),e P "__static_attributes__" 713 (.ref 421),e P "__dict__" 715 (.ref 424),e P "__weakref__" 717 (.ref 425),e P "__doc__" 718 (.none),e P "__hash__" 719 (.none)] 5 } ::
{ cls:=.type "type",data:=.cls { name:="Table",bases:=[.type "object"],mro:=[.ref 423,.type "object"],ns:=422,qualname:="Table" },slots:=#[none,none,some (.str "Table" 621),some (.str "Table" 629),some (.builtin "object.__new__"),some (.bool true)] } ::
gs #[.str "__dict__" 714,.ref 423,.builtin "function.__dict__",.builtin "function.__dict__#set"] ::
gs #[.str "__weakref__" 716,.ref 423,.builtin "ExceptionGroup.__weakref__",.none] ::
{ cls:=.type "super",data:=.fields #[.ref 423,.ref 423,.ref 423] } ::
{ cls:=.type "builtin_function_or_method",data:=.fields #[.builtin "object.__init_subclass__",.ref 423] } ::
tu #[] ::
nf #[] ::
tu #[.str "thing" 731] ::
tu #[] ::
fc "is_letter" "is_letter" (top 52) ::
co "is_letter" "is_letter" 728 195 1 428 732 ::
fo (top 52) "is_letter" "is_letter" "namewants.houses" 722 433 ::
tu #[] ::
{ cls:=.type "builtin_function_or_method",data:=.fields #[.builtin "type.__prepare__",.type "type"] } ::
{ cls:=.type "dict",data:=.dict #[e P "__module__" 742 (.str "namewants.houses" 722),e P "__qualname__" 744 (.str "Wait" 743),e P "__firstlineno__" 746 (.int 201 745),e P "__init__" 754 (.ref 448),e P "__static_attributes__" 759 (.ref 449)] 5 } ::
tu #[] ::
nf #[.int 203 0,.int 4 0,.ref 447] ::
ck "Wait" 737 201 438 ::
fr #[some (.ref 440),some (.ref 3),some (.ref 437),none,some (.str "namewants.houses" 722),none,some (.ref 0)] ::
tu #[] ::
nf #[] ::
tu #[.str "self" 750,.str "since" 751] ::
tu #[] ::
fc "__init__" "Wait.__init__" (inCls (top 53) 0) ::
co "__init__" "Wait.__init__" 747 203 2 442 752 ::
fo (inCls (top 53) 0) "__init__" "Wait.__init__" "namewants.houses" 722 447 ::
tu #[.str "asked" 755,.str "askers" 756,.str "noes" 757,.str "since" 758] ::
{ cls:=.type "dict",data:=.dict #[e P "__module__" 742 (.str "namewants.houses" 722),e P "__firstlineno__" 746 (.int 201 745),e P "__init__" 754 (.ref 448),e P "__static_attributes__" 759 (.ref 449),e P "__dict__" 761 (.ref 452),e P "__weakref__" 763 (.ref 453),e P "__doc__" 764 (.none)] 4 } ::
{ cls:=.type "type",data:=.cls { name:="Wait",bases:=[.type "object"],mro:=[.ref 451,.type "object"],ns:=450,qualname:="Wait" },slots:=#[none,none,some (.str "Wait" 735),some (.str "Wait" 743),some (.builtin "object.__new__"),some (.bool true)] } ::
gs #[.str "__dict__" 760,.ref 451,.builtin "function.__dict__",.builtin "function.__dict__#set"] ::
gs #[.str "__weakref__" 762,.ref 451,.builtin "ExceptionGroup.__weakref__",.none] ::
{ cls:=.type "super",data:=.fields #[.ref 451,.ref 451,.ref 451] } ::
{ cls:=.type "builtin_function_or_method",data:=.fields #[.builtin "object.__init_subclass__",.ref 451] } ::
tu #[] ::
{ cls:=.type "builtin_function_or_method",data:=.fields #[.builtin "type.__prepare__",.type "type"] } ::
{ cls:=.type "dict",data:=.dict #[e P "__module__" 774 (.str "namewants.houses" 722),e P "__qualname__" 776 (.str "House" 775),e P "__firstlineno__" 778 (.int 208 777),e P "__init__" 793 (.ref 470),e P "ask" 803 (.ref 477),e P "come" 814 (.ref 484),e P "tick" 820 (.ref 489),e P "own" 830 (.ref 496),e P "disown" 838 (.ref 503),e P "teach" 847 (.ref 510),e P "forget" 855 (.ref 517),e P "end" 863 (.ref 524),e P "waits" 873 (.ref 531),e P "keeps" 880 (.ref 538),e P "owns" 887 (.ref 545),e P "table" 894 (.ref 552),e P "has" 902 (.ref 559),e P "toward" 908 (.ref 564),e P "found" 920 (.ref 571),e P "answered" 926 (.ref 576),e P "told_thing" 932 (.ref 581),e P "told_no" 942 (.ref 588),e P "ended" 951 (.ref 595),e P "told" 963 (.ref 602),e P "__static_attributes__" 973 (.ref 603)] 25 } ::
tu #[] ::
nf #[.int 210 0,.int 4 0,.ref 469,.int 226 0,.int 4 0,.ref 476,.int 233 0,.int 4 0,.ref 483,.int 248 0,.int 4 0,.ref 488,.int 257 0,.int 4 0,.ref 495,.int 263 0,.int 4 0,.ref 502,.int 269 0,.int 4 0,.ref 509,.int 272 0,.int 4 0,.ref 516,.int 275 0,.int 4 0,.ref 523,.int 280 0,.int 4 0,.ref 530,.int 287 0,.int 4 0,.ref 537,.int 290 0,.int 4 0,.ref 544,.int 293 0,.int 4 0,.ref 551,.int 296 0,.int 4 0,.ref 558,.int 299 0,.int 4 0,.ref 563,.int 302 0,.int 4 0,.ref 570,.int 311 0,.int 4 0,.ref 575,.int 325 0,.int 4 0,.ref 580,.int 332 0,.int 4 0,.ref 587,.int 338 0,.int 4 0,.ref 594,.int 342 0,.int 4 0,.ref 601] ::
ck "House" 769 208 459 ::
fr #[some (.ref 461),some (.ref 3),some (.ref 458),none,some (.str "namewants.houses" 722),none,some (.ref 0)] ::
{ cls:=.type "dict",data:=.dict #[e P "room" 781 (.int 4 779),e P "wait" 782 (.int 6 780)] 2 } ::
tu #[] ::
nf #[] ::
tu #[.str "self" 786,.str "number" 787,.str "sides" 788,.str "room" 789,.str "wait" 790] ::
tu #[] ::
fc "__init__" "House.__init__" (inCls (top 54) 0) ::
{ cls:=.type "code",data:=.fields #[.str "__init__" 783,.str "House.__init__" 784,.str "/claim/cut.py" 785,.int 210 0,.int 3 0,.int 0 0,.int 2 0,.int 3 0,.ref 464,.bool true,.int 181 0,.ref 465,.none,.ref 466,.ref 467,.ref 468,.int 791 0,.int 210 0,.str "/claim/cut.py" 792] } ::
⟨.type "function",none,.func (PySem.W.fnOf "__init__" "House.__init__" (L2.defArgs (inCls (top 54) 0)) (L2.defBody (inCls (top 54) 0)) (L2.defScope (inCls (top 54) 0)) .none (.ref 463) .none (.str "namewants.houses" 722) none (.ref 469) .none),#[]⟩ ::
tu #[] ::
nf #[] ::
tu #[.str "self" 797,.str "name" 798,.str "now" 799,.str "asker" 800] ::
tu #[] ::
fc "ask" "House.ask" (inCls (top 54) 1) ::
co "ask" "House.ask" 794 226 3 471 801 ::
fo (inCls (top 54) 1) "ask" "House.ask" "namewants.houses" 722 476 ::
tu #[] ::
nf #[] ::
tu #[.str "self" 807,.str "side" 808,.str "letter" 809,.str "now" 810,.str "name" 811] ::
tu #[] ::
fc "come" "House.come" (inCls (top 54) 2) ::
co "come" "House.come" 804 233 4 478 812 ::
fo (inCls (top 54) 2) "come" "House.come" "namewants.houses" 722 483 ::
tu #[] ::
nf #[] ::
fc "tick" "House.tick" (inCls (top 54) 3) ::
cp "tick" "House.tick" 815 248 2 485 ::
fo (inCls (top 54) 3) "tick" "House.tick" "namewants.houses" 722 488 ::
tu #[] ::
nf #[] ::
tu #[.str "self" 824,.str "name" 825,.str "value" 826,.str "life" 827] ::
tu #[] ::
fc "own" "House.own" (inCls (top 54) 4) ::
co "own" "House.own" 821 257 4 490 828 ::
fo (inCls (top 54) 4) "own" "House.own" "namewants.houses" 722 495 ::
tu #[] ::
nf #[] ::
tu #[.str "self" 834,.str "name" 835] ::
tu #[] ::
fc "disown" "House.disown" (inCls (top 54) 5) ::
co "disown" "House.disown" 831 263 2 497 836 ::
fo (inCls (top 54) 5) "disown" "House.disown" "namewants.houses" 722 502 ::
tu #[] ::
nf #[] ::
tu #[.str "self" 842,.str "beginning" 843,.str "sides" 844] ::
tu #[] ::
fc "teach" "House.teach" (inCls (top 54) 6) ::
co "teach" "House.teach" 839 269 3 504 845 ::
fo (inCls (top 54) 6) "teach" "House.teach" "namewants.houses" 722 509 ::
tu #[] ::
nf #[] ::
tu #[.str "self" 851,.str "beginning" 852] ::
tu #[] ::
fc "forget" "House.forget" (inCls (top 54) 7) ::
co "forget" "House.forget" 848 272 2 511 853 ::
fo (inCls (top 54) 7) "forget" "House.forget" "namewants.houses" 722 516 ::
tu #[] ::
nf #[] ::
tu #[.str "self" 859,.str "asker" 860] ::
tu #[] ::
fc "end" "House.end" (inCls (top 54) 8) ::
co "end" "House.end" 856 275 2 518 861 ::
fo (inCls (top 54) 8) "end" "House.end" "namewants.houses" 722 523 ::
tu #[] ::
nf #[] ::
tu #[.str "self" 867,.str "rows" 868,.str "name" 869,.str "wait" 870] ::
tu #[] ::
fc "waits" "House.waits" (inCls (top 54) 9) ::
co "waits" "House.waits" 864 280 1 525 871 ::
fo (inCls (top 54) 9) "waits" "House.waits" "namewants.houses" 722 530 ::
tu #[] ::
nf #[] ::
tu #[.str "self" 877] ::
tu #[] ::
fc "keeps" "House.keeps" (inCls (top 54) 10) ::
co "keeps" "House.keeps" 874 287 1 532 878 ::
fo (inCls (top 54) 10) "keeps" "House.keeps" "namewants.houses" 722 537 ::
tu #[] ::
nf #[] ::
tu #[.str "self" 884] ::
tu #[] ::
fc "owns" "House.owns" (inCls (top 54) 11) ::
co "owns" "House.owns" 881 290 1 539 885 ::
fo (inCls (top 54) 11) "owns" "House.owns" "namewants.houses" 722 544 ::
tu #[] ::
nf #[] ::
tu #[.str "self" 891] ::
tu #[] ::
fc "table" "House.table" (inCls (top 54) 12) ::
co "table" "House.table" 888 293 1 546 892 ::
fo (inCls (top 54) 12) "table" "House.table" "namewants.houses" 722 551 ::
tu #[] ::
nf #[] ::
tu #[.str "self" 898,.str "name" 899] ::
tu #[] ::
fc "has" "House.has" (inCls (top 54) 13) ::
co "has" "House.has" 895 296 2 553 900 ::
fo (inCls (top 54) 13) "has" "House.has" "namewants.houses" 722 558 ::
tu #[] ::
nf #[] ::
fc "toward" "House.toward" (inCls (top 54) 14) ::
cp "toward" "House.toward" 903 299 2 560 ::
fo (inCls (top 54) 14) "toward" "House.toward" "namewants.houses" 722 563 ::
tu #[] ::
nf #[] ::
tu #[.str "self" 912,.str "name" 913,.str "now" 914,.str "value" 915,.str "life" 916,.str "kept" 917] ::
tu #[] ::
fc "found" "House.found" (inCls (top 54) 15) ::
co "found" "House.found" 909 302 3 565 918 ::
fo (inCls (top 54) 15) "found" "House.found" "namewants.houses" 722 570 ::
tu #[] ::
nf #[] ::
fc "answered" "House.answered" (inCls (top 54) 16) ::
cp "answered" "House.answered" 921 311 4 572 ::
fo (inCls (top 54) 16) "answered" "House.answered" "namewants.houses" 722 575 ::
tu #[] ::
nf #[] ::
fc "told_thing" "House.told_thing" (inCls (top 54) 17) ::
cp "told_thing" "House.told_thing" 927 325 4 577 ::
fo (inCls (top 54) 17) "told_thing" "House.told_thing" "namewants.houses" 722 580 ::
tu #[] ::
nf #[] ::
tu #[.str "self" 936,.str "side" 937,.str "name" 938,.str "wait" 939] ::
tu #[] ::
fc "told_no" "House.told_no" (inCls (top 54) 18) ::
co "told_no" "House.told_no" 933 332 3 582 940 ::
fo (inCls (top 54) 18) "told_no" "House.told_no" "namewants.houses" 722 587 ::
tu #[] ::
nf #[] ::
tu #[.str "self" 946,.str "name" 947,.str "wait" 948] ::
tu #[] ::
fc "ended" "House.ended" (inCls (top 54) 19) ::
co "ended" "House.ended" 943 338 2 589 949 ::
fo (inCls (top 54) 19) "ended" "House.ended" "namewants.houses" 722 594 ::
tu #[] ::
nf #[] ::
tu #[.str "self" 955,.str "askers" 956,.str "letter" 957,.str "end" 958,.str "letters" 959,.str "asker" 960] ::
tu #[] ::
fc "told" "House.told" (inCls (top 54) 20) ::
co "told" "House.told" 952 342 3 596 961 ::
fo (inCls (top 54) 20) "told" "House.told" "namewants.houses" 722 601 ::
tu #[.str "beside" 964,.str "ends" 965,.str "heard" 966,.str "learned" 967,.str "number" 968,.str "patience" 969,.str "store" 970,.str "things" 971,.str "waiting" 972] ::
{ cls:=.type "dict",data:=.dict #[e P "__module__" 774 (.str "namewants.houses" 722),e P "__firstlineno__" 778 (.int 208 777),e P "__init__" 793 (.ref 470),e P "ask" 803 (.ref 477),e P "come" 814 (.ref 484),e P "tick" 820 (.ref 489),e P "own" 830 (.ref 496),e P "disown" 838 (.ref 503),e P "teach" 847 (.ref 510),e P "forget" 855 (.ref 517),e P "end" 863 (.ref 524),e P "waits" 873 (.ref 531),e P "keeps" 880 (.ref 538),e P "owns" 887 (.ref 545),e P "table" 894 (.ref 552),e P "has" 902 (.ref 559),e P "toward" 908 (.ref 564),e P "found" 920 (.ref 571),e P "answered" 926 (.ref 576),e P "told_thing" 932 (.ref 581),e P "told_no" 942 (.ref 588),e P "ended" 951 (.ref 595),e P "told" 963 (.ref 602),e P "__static_attributes__" 973 (.ref 603),e P "__dict__" 975 (.ref 606),e P "__weakref__" 977 (.ref 607),e P "__doc__" 978 (.none)] 4 } ::
{ cls:=.type "type",data:=.cls { name:="House",bases:=[.type "object"],mro:=[.ref 605,.type "object"],ns:=604,qualname:="House" },slots:=#[none,none,some (.str "House" 767),some (.str "House" 775),some (.builtin "object.__new__"),some (.bool true)] } ::
gs #[.str "__dict__" 974,.ref 605,.builtin "function.__dict__",.builtin "function.__dict__#set"] ::
gs #[.str "__weakref__" 976,.ref 605,.builtin "ExceptionGroup.__weakref__",.none] ::
{ cls:=.type "super",data:=.fields #[.ref 605,.ref 605,.ref 605] } ::
{ cls:=.type "builtin_function_or_method",data:=.fields #[.builtin "object.__init_subclass__",.ref 605] }::[])
end Q81
noncomputable def Q81.mid (P:PySem.Params)(os:PySem.OsState):PySem.W.SharedT:=⟨TreeRun.plant 0 .nil (Q81.midL P),nat_lit 610,{},#[],{},nat_lit 981,os⟩
noncomputable abbrev Q81.env:PySem.Env:={ scope:=(PySem.Challenge.pw_namewants_k81_refusals_apart).main.scope,locals:=PySem.mainNs,globals:=PySem.mainNs,cells:=[],code:=.ref 13,frame:=some 14 }
noncomputable abbrev Q81.bd:List PySem.Stmt:=(PySem.Challenge.pw_namewants_k81_refusals_apart).main.body
noncomputable abbrev Q81.hk:PySem.W.Hook:=PySem.W.kmHook Q81.Kf Q81.ads (fun _=>by kernel_rfl) [919]
noncomputable abbrev Q81.lk:PySem.Shared->Bool:=fun s=>PySem.W.xlAt Q81.vw [] s&&PySem.W.recOk (PySem.W.RowW.records (PySem.W.OpenRow.toRowW (PySem.W.OpenLaw.row PySem.Challenge.rw_namewants_k81_refusals_apart))) s
end
namespace Q81
open PySem PySem.W PyProof.Rows PySem.Calls TreeRun
theorem cut1 (w:World)(os:OsState):goN treeTable PySem.Challenge.pw_namewants_k81_refusals_apart w (m0 w) (an0 w) 12 (sT w.params os) (topStub PySem.Challenge.pw_namewants_k81_refusals_apart)=some (ahead PySem.Challenge.pw_namewants_k81_refusals_apart 12 w os,⟨denote treeTable (.body bd env),.body bd env,⟨0,0,0,0⟩,[topFrame ⟨0,0,0,0⟩]⟩):=by kernel_rfl
theorem cut2 (w:World)(os:OsState):segRunT treeTable PySem.Challenge.pw_namewants_k81_refusals_apart w (m0 w) (an0 w) 1 1 (ahead PySem.Challenge.pw_namewants_k81_refusals_apart 12 w os) (blockOf bd env (.body bd env) ⟨0,0,0,0⟩ [topFrame ⟨0,0,0,0⟩])=some (.next,ahead PySem.Challenge.pw_namewants_k81_refusals_apart 12 w os,.body bd env,⟨0,0,0,0⟩):=by kernel_rfl
theorem cut3 (w:World)(os:OsState):segRunT treeTable PySem.Challenge.pw_namewants_k81_refusals_apart w (m0 w) (an0 w) 1 6000 (ahead PySem.Challenge.pw_namewants_k81_refusals_apart 12 w os) (piecesOf (bd.take 55) env (.body bd env) ⟨0,0,0,0⟩ [topFrame ⟨0,0,0,0⟩])=some (.next,mid w.params os,.body bd env,⟨208,0,350,22⟩):=by kernel_rfl
noncomputable abbrev fw (b:Bool)(w:World):World:={ w with params:={ w.params with followText:=fun s=>if s == "special-get-raises" then b else w.params.followText s } }
theorem fw_at (w:World):fw (w.params.followText "special-get-raises") w=w:=by
 have e:(fun s=>if s == "special-get-raises" then w.params.followText "special-get-raises" else w.params.followText s)=w.params.followText:=by
  funext s
  by_cases h:s = "special-get-raises"
  ·subst h;simp
  ·simp [h]
 unfold fw
 rw [e]
theorem fw_all {q:World->Prop}(h1:∀w,q (fw true w))(h0:∀w,q (fw false w))(w:World):q w:=by
 rw [<-fw_at w]
 cases w.params.followText "special-get-raises" with
 | true=>exact h1 w
 | false=>exact h0 w
theorem run_fit_true (w:World)(os:OsState):(later PySem.Challenge.pw_namewants_k81_refusals_apart mid env bd (bd.drop 55) ⟨208,0,350,22⟩ ⟨0,0,0,0⟩ 4000 (fw true w) os).map (fit PySem.Challenge.pw_namewants_k81_refusals_apart (fw true w).params)=some true:=by kernel_rfl
theorem run_fit_false (w:World)(os:OsState):(later PySem.Challenge.pw_namewants_k81_refusals_apart mid env bd (bd.drop 55) ⟨208,0,350,22⟩ ⟨0,0,0,0⟩ 4000 (fw false w) os).map (fit PySem.Challenge.pw_namewants_k81_refusals_apart (fw false w).params)=some true:=by kernel_rfl
theorem run_fit (w:World)(os:OsState):(later PySem.Challenge.pw_namewants_k81_refusals_apart mid env bd (bd.drop 55) ⟨208,0,350,22⟩ ⟨0,0,0,0⟩ 4000 w os).map (fit PySem.Challenge.pw_namewants_k81_refusals_apart w.params)=some true:=fw_all (q:=fun w=>(later PySem.Challenge.pw_namewants_k81_refusals_apart mid env bd (bd.drop 55) ⟨208,0,350,22⟩ ⟨0,0,0,0⟩ 4000 w os).map (fit PySem.Challenge.pw_namewants_k81_refusals_apart w.params)=some true) (fun w=>run_fit_true w os) (fun w=>run_fit_false w os) w
theorem run_seen_true (w:World)(os:OsState):(later PySem.Challenge.pw_namewants_k81_refusals_apart mid env bd (bd.drop 55) ⟨208,0,350,22⟩ ⟨0,0,0,0⟩ 4000 (fw true w) os).map (fun s=>openSeen vw ["HOUSES_MOST","House","Net","PARTS"] (importedModules (PySem.Challenge.pw_namewants_k81_refusals_apart).main.body) lk true s.abs)=some (openGood vw ["HOUSES_MOST","House","Net","PARTS"]):=by kernel_rfl
theorem run_seen_false (w:World)(os:OsState):(later PySem.Challenge.pw_namewants_k81_refusals_apart mid env bd (bd.drop 55) ⟨208,0,350,22⟩ ⟨0,0,0,0⟩ 4000 (fw false w) os).map (fun s=>openSeen vw ["HOUSES_MOST","House","Net","PARTS"] (importedModules (PySem.Challenge.pw_namewants_k81_refusals_apart).main.body) lk true s.abs)=some (openGood vw ["HOUSES_MOST","House","Net","PARTS"]):=by kernel_rfl
theorem run_seen (w:World)(os:OsState):(later PySem.Challenge.pw_namewants_k81_refusals_apart mid env bd (bd.drop 55) ⟨208,0,350,22⟩ ⟨0,0,0,0⟩ 4000 w os).map (fun s=>openSeen vw ["HOUSES_MOST","House","Net","PARTS"] (importedModules (PySem.Challenge.pw_namewants_k81_refusals_apart).main.body) lk true s.abs)=some (openGood vw ["HOUSES_MOST","House","Net","PARTS"]):=fw_all (q:=fun w=>(later PySem.Challenge.pw_namewants_k81_refusals_apart mid env bd (bd.drop 55) ⟨208,0,350,22⟩ ⟨0,0,0,0⟩ 4000 w os).map (fun s=>openSeen vw ["HOUSES_MOST","House","Net","PARTS"] (importedModules (PySem.Challenge.pw_namewants_k81_refusals_apart).main.body) lk true s.abs)=some (openGood vw ["HOUSES_MOST","House","Net","PARTS"])) (fun w=>run_seen_true w os) (fun w=>run_seen_false w os) w
theorem run_has_true (w:World)(os:OsState):(later PySem.Challenge.pw_namewants_k81_refusals_apart mid env bd (bd.drop 55) ⟨208,0,350,22⟩ ⟨0,0,0,0⟩ 4000 (fw true w) os).map (fun s=>Hook.obs hk s.abs)=some (Hook.val hk (fw true w)):=by kernel_rfl
theorem run_has_false (w:World)(os:OsState):(later PySem.Challenge.pw_namewants_k81_refusals_apart mid env bd (bd.drop 55) ⟨208,0,350,22⟩ ⟨0,0,0,0⟩ 4000 (fw false w) os).map (fun s=>Hook.obs hk s.abs)=some (Hook.val hk (fw false w)):=by kernel_rfl
theorem run_has (w:World)(os:OsState):(later PySem.Challenge.pw_namewants_k81_refusals_apart mid env bd (bd.drop 55) ⟨208,0,350,22⟩ ⟨0,0,0,0⟩ 4000 w os).map (fun s=>Hook.obs hk s.abs)=some (Hook.val hk w):=fw_all (q:=fun w=>(later PySem.Challenge.pw_namewants_k81_refusals_apart mid env bd (bd.drop 55) ⟨208,0,350,22⟩ ⟨0,0,0,0⟩ 4000 w os).map (fun s=>Hook.obs hk s.abs)=some (Hook.val hk w)) (fun w=>run_has_true w os) (fun w=>run_has_false w os) w
end Q81
namespace L2
open PySem PySem.Spec PyProof.Rows
abbrev Key:=Sum Int Str
def keyIs:Key->Value->Bool
 | .inl k,v=>Value.isInt k v
 | .inr x,v=>Value.isStrOf x v
def keyH (w:World):Key->Int
 | .inl k=>hashInt k
 | .inr x=>hashStr w x
theorem keyIs_shape:∀{k:Key} {v:Value},keyIs k v=true->(∃i t,k=Sum.inl i/\v=Value.int i t)\/(∃x t,k=Sum.inr x/\v=Value.str x t)
 | .inl i,v,h=>by
  obtain⟨t,e⟩:=Value.isInt_shape (k:=i) (v:=v) h
  exact .inl ⟨i,t,rfl,e⟩
 | .inr x,v,h=>by
  obtain⟨t,e⟩:=Value.isStrOf_shape (x:=x) (v:=v) h
  exact .inr ⟨x,t,rfl,e⟩
theorem keyIs_int (i:Int)(t:Tok):keyIs (.inl i) (.int i t)=true:=by simp [keyIs,Value.isInt]
theorem keyIs_str (x:Str)(t:Tok):keyIs (.inr x) (.str x t)=true:=by simp [keyIs,Value.isStrOf]
theorem key_ll (a b:Int):decide ((Sum.inl a:Key)=Sum.inl b)=(a==b):=by
 by_cases e:a=b
 ·subst e;simp
 ·have h:¬(Sum.inl a:Key)=Sum.inl b:=fun q=>e (Sum.inl.inj q)
  rw [decide_eq_false h]
  exact (beq_eq_false_iff_ne.mpr e).symm
theorem key_rr (a b:Str):decide ((Sum.inr a:Key)=Sum.inr b)=decide (a=b):=by
 by_cases e:a=b
 ·subst e;simp
 ·have h:¬(Sum.inr a:Key)=Sum.inr b:=fun q=>e (Sum.inr.inj q)
  rw [decide_eq_false h,decide_eq_false e]
theorem key_lr (a:Int)(b:Str):decide ((Sum.inl a:Key)=Sum.inr b)=false:=decide_eq_false (fun q=>nomatch q)
theorem key_rl (a:Str)(b:Int):decide ((Sum.inr a:Key)=Sum.inl b)=false:=decide_eq_false (fun q=>nomatch q)
def mixKind (prog:Program)(w:World):PySem.KeyKind prog w Key where
 is:=keyIs
 hash:=keyH w
 inj:=fun v a b ha hb=>by
  rcases keyIs_shape ha with⟨i,t,rfl,rfl⟩|⟨x,t,rfl,rfl⟩
  ·rcases keyIs_shape hb with⟨j,u,rfl,e⟩|⟨y,u,rfl,e⟩
   ·injection e with e1 _;rw [e1]
   ·exact nomatch e
  ·rcases keyIs_shape hb with⟨j,u,rfl,e⟩|⟨y,u,rfl,e⟩
   ·exact nomatch e
   ·injection e with e1 _;rw [e1]
 byValue:=fun k v h=>by
  rcases keyIs_shape h with⟨i,t,rfl,rfl⟩|⟨x,t,rfl,rfl⟩<;>rfl
 pyHash:=fun hv h=>by
  rcases keyIs_shape hv with⟨i,t,rfl,rfl⟩|⟨x,t,rfl,rfl⟩
  ·exact wpAny_pyHash_int h
  ·exact wpAny_pyHash_str h
 eqBool:=fun hu hv h=>by
  rcases keyIs_shape hu with⟨i,t,rfl,rfl⟩|⟨x,t,rfl,rfl⟩
  ·rcases keyIs_shape hv with⟨j,u,rfl,rfl⟩|⟨y,u,rfl,rfl⟩
   ·rw [key_ll] at h;exact wpAny_eqBool_int h
   ·rw [key_lr] at h;exact SeqAt.EqAt.int_str i t y u _ _ _ _ h
  ·rcases keyIs_shape hv with⟨j,u,rfl,rfl⟩|⟨y,u,rfl,rfl⟩
   ·rw [key_rl] at h;exact SeqAt.EqAt.str_int x t j u _ _ _ _ h
   ·rw [key_rr] at h;exact wpAny_eqBool_str h
 «strs»:=fun k x t v h=>by
  rcases keyIs_shape h with⟨i,u,rfl,e⟩|⟨y,u,rfl,e⟩
  ·exact nomatch e
  ·injection e with e1 _
   subst e1
   cases v<;>rfl
theorem mixKind_int (prog:Program)(w:World)(i:Int)(t:Tok):(mixKind prog w).is (.inl i) (.int i t)=true:=keyIs_int i t
theorem mixKind_str (prog:Program)(w:World)(x:Str)(t:Tok):(mixKind prog w).is (.inr x) (.str x t)=true:=keyIs_str x t
inductive V where
 | non | bl (b:Bool) | int (i:Int) | str (x:Str) | byt (b:Array UInt8) | flt (b:UInt64) | ref (a:Addr) | ty (n:String)
 deriving DecidableEq
def RelV:V->Value->Prop
 | .non,u=>u=Value.none
 | .bl b,u=>u=Value.bool b
 | .int i,u=>∃t,u=Value.int i t
 | .str x,u=>∃t,u=Value.str x t
 | .byt b,u=>∃t,u=Value.bytes b t
 | .flt b,u=>∃t,u=Value.float b t
 | .ref a,u=>u=Value.ref a
 | .ty n,u=>u=Value.type n
abbrev Vals:List V->List Value->Prop:=Paired RelV
theorem Vals.length {xs:List V}{us:List Value}(r:Vals xs us):xs.length=us.length:=Paired.length r
theorem Vals.get:∀{xs:List V} {us:List Value} {i:Nat} {x:V},Vals xs us->xs[i]?=some x->∃u,us[i]?=some u/\RelV x u
 | _,_,_,_,.nil,e=>by simp at e
 | _,_,0,_,.cons r _,e=>by simp at e;subst e;exact⟨_,rfl,r⟩
 | _,_,i+1,x,.cons _ t,e=>by
  obtain⟨u,h1,h2⟩:=Vals.get (i:=i) (x:=x) t (by simpa using e)
  exact⟨u,by simpa using h1,h2⟩
theorem Vals.set {x:V}{u:Value}(r:RelV x u):∀{xs:List V} {us:List Value} (i:Nat),Vals xs us->Vals (xs.set i x) (us.set i u)
 | _,_,_,.nil=>.nil
 | _,_,0,.cons _ t=>.cons r t
 | _,_,i+1,.cons q t=>.cons q (Vals.set r i t)
theorem Vals.append:∀{xs ys:List V} {us ws:List Value},Vals xs us->Vals ys ws->Vals (xs++ys) (us++ws)
 | _,_,_,_,.nil,s=>s
 | _,_,_,_,.cons r t,s=>.cons r (Vals.append t s)
theorem Vals.take:∀{xs:List V} {us:List Value} (n:Nat),Vals xs us->Vals (xs.take n) (us.take n)
 | _,_,0,_=>.nil
 | _,_,_+1,.nil=>.nil
 | _,_,n+1,.cons r t=>.cons r (Vals.take n t)
theorem Vals.drop:∀{xs:List V} {us:List Value} (n:Nat),Vals xs us->Vals (xs.drop n) (us.drop n)
 | _,_,0,r=>r
 | _,_,_+1,.nil=>.nil
 | _,_,n+1,.cons _ t=>Vals.drop n t
def RelO:Option V->Option Value->Prop
 | some v,some u=>RelV v u
 | none,none=>True
 | _,_=>False
def KV {κ:Type}:List (κ×V)->List (κ×Value)->Prop:=Paired fun (p:κ×V) (q:κ×Value)=>p.1=q.1/\RelV p.2 q.2
def kV:Key->V
 | .inl i=>.int i
 | .inr x=>.str x
inductive HO where
 | lst (xs:List V)
 | tup (xs:List V)
 | dK (kvs:List (Key×V)) | dT (kvs:List (List Key×V))
 | set (S:Int->Bool) (n:Nat)
 | ins (C dx:Addr) (fs:List (Str×V))
 | own (x:Addr)
 | xd (fs:List (Str×V))
 | met (f x:Addr)
 | rng (lo hi:Int)
 | frz (o:Obj) (u:HO)
 | tbl (ps:Array Value)
 | ext (φ:Heap->Prop)
abbrev Hp:=Addr->Option HO
def upd (H:Hp)(a:Addr)(o:HO):Hp:=fun b=>if b=a then some o else H b
theorem upd_same {H:Hp}{a:Addr}{o:HO}:upd H a o a=some o:=by unfold upd;rw [if_pos rfl]
theorem upd_ne {H:Hp}{a b:Addr}{o:HO}(h:b≠a):upd H a o b=H b:=by unfold upd;rw [if_neg h]
theorem ne_of {H:Hp}{a b:Addr}{o u:HO}(h:H a=some o)(h':H b=some u)(d:o≠u):a≠b:=by
 intro e;subst e;rw [h] at h';exact d (Option.some.inj h')
theorem ne_of_none {H:Hp}{a b:Addr}{o:HO}(h:H a=some o)(h':H b=none):a≠b:=by
 intro e;subst e;rw [h] at h';cases h'
section
variable (P:Program)(w:World)
def ObjOk (H:Hp)(h:Heap)(a:Addr):HO->Prop
 | .lst xs=>xs.length<=sizeLine/\∃(its:List Value) (n:Nat),Vals xs its/\h.get? a=some { cls:=.type "list",data:=.seq its.toArray n }
 | .tup xs=>xs.length<=sizeLine/\∃its:List Value,Vals xs its/\IsTup h a its.toArray
 | .dK kvs=>kvs.length<=sizeLine/\(a==sysModules)=false/\∃vs,KV kvs vs/\h.DictOf (mixKind P w) a vs
 | .dT kvs=>kvs.length<=sizeLine/\(a==sysModules)=false/\∃xs:List (List Key×Addr×Value),
  Paired (fun (p:List Key×V) (q:List Key×Addr×Value)=>p.1=q.1/\H q.2.1=some (.tup (p.1.map kV))/\RelV p.2 q.2.2) kvs xs /\
  ∃o es ep,h.get? a=some o/\o.ExactDict/\o.data = .dict es ep/\es.toList=xs.map (entryOfKey (tupleKind (mixKind P w)))/\(xs.map (·.1)).Nodup
 | .set S n=>h.SetOf (intKind P w) a S n
 | .ins C dx fs=>H dx=some (.own a)/\fs.length<=1000/\dx≠a/\h.get? a=some (PySem.W.instObj C dx) /\
  ∃mA,h.Ns1 dx mA/\(∀f,RelO (fs.lookup f) (mA f))/\PySem.Within mA (fs.map (·.1))
 | .own _=>∃o,h.get? a=some o
 | .xd fs=>∃mA,h.Ns1 a mA/\∀f,RelO (fs.lookup f) (mA f)
 | .rng lo hi=>∃t u v,h.get? a=some { cls:=.type "range",data:=.fields #[.int lo t,.int hi u,.int 1 v] }
 | .frz o u=>h.get? a=some o/\ObjOk H h a u
 | .tbl ps=>h.get? a=some { cls:=.none,data:=.fields ps }
 | .met f x=>h.get? a=some (PySem.W.methodObj (.ref f) (.ref x))
 | .ext φ=>φ h/\(∃o,h.get? a=some o)/\∀h1 h2:Heap,φ h1->(∀o,h1.get? a=some o->h2.get? a=some o)->φ h2
def HOk (H:Hp)(h:Heap):Prop:=∀a o,H a=some o->ObjOk P w H h a o
end
section
variable {P:Program}{w:World}{H H':Hp}{h h':Heap}{a:Addr}{o:HO}
theorem ObjOk.lt (x:ObjOk P w H h a o):a<h.objs.size:=by
 cases o with
 | lst xs=>obtain⟨_,_,_,_,e⟩:=x;exact Heap.lt_size e
 | tup xs=>obtain⟨_,_,_,p⟩:=x;exact p.lt
 | dK kvs=>obtain⟨_,_,_,_,o,_,_,e,_⟩:=x;exact Heap.lt_size e
 | dT kvs=>obtain⟨_,_,_,_,o,_,_,e,_⟩:=x;exact Heap.lt_size e
 | set S n=>obtain⟨o,_,_,_,e,_⟩:=x;exact Heap.lt_size e
 | ins C dx fs=>obtain⟨_,_,_,e,_⟩:=x;exact Heap.lt_size e
 | own y=>obtain⟨_,e⟩:=x;exact Heap.lt_size e
 | xd fs=>obtain⟨_,⟨_,_,_,e,_⟩,_⟩:=x;exact Heap.lt_size e
 | rng lo hi=>obtain⟨_,_,_,e⟩:=x;exact Heap.lt_size e
 | frz ob u=>obtain⟨e,_⟩:=x;exact Heap.lt_size e
 | tbl ps=>exact Heap.lt_size (show h.get? a=some _ from x)
 | met f y=>exact Heap.lt_size (show h.get? a=some _ from x)
 | ext φ=>obtain⟨_,⟨_,e⟩,_⟩:=x;exact Heap.lt_size e
theorem Paired.mapP {α β:Type}{F G:α->β->Prop}:∀{l₁:List α} {l₂:List β},Paired F l₁ l₂->(∀a b,F a b->G a b)->Paired G l₁ l₂
 | _,_,.nil,_=>.nil
 | _,_,.cons r t,f=>.cons (f _ _ r) (Paired.mapP t f)
theorem ObjOk.stay (x:ObjOk P w H h a o)(k:∀b u,(b=a\/H b=some (.own a))->h.get? b=some u->h'.get? b=some u)
 (ho:∀b,H b=some (.own a)->H' b=some (.own a)) (ht:∀b xs,H b=some (.tup xs)->H' b=some (.tup xs)):ObjOk P w H' h' a o:=by
 induction o with
 | lst xs=>obtain⟨z,its,n,r,e⟩:=x;exact⟨z,its,n,r,k _ _ (.inl rfl) e⟩
 | tup xs=>obtain⟨z,its,r,ob,e,c⟩:=x;exact⟨z,its,r,ob,k _ _ (.inl rfl) e,c⟩
 | dK kvs=>obtain⟨z,y,vs,r,ob,es,ep,e,c⟩:=x;exact⟨z,y,vs,r,ob,es,ep,k _ _ (.inl rfl) e,c⟩
 | dT kvs=>
  obtain⟨z,y,xs,r,ob,es,ep,e,c⟩:=x
  exact⟨z,y,xs,Paired.mapP r fun p q z=>⟨z.1,ht _ _ z.2.1,z.2.2⟩,ob,es,ep,k _ _ (.inl rfl) e,c⟩
 | set S n=>obtain⟨ob,es,ep,t,e,c⟩:=x;exact⟨ob,es,ep,t,k _ _ (.inl rfl) e,c⟩
 | ins C dx fs=>
  obtain⟨d,z,ne,e,mA,⟨od,es,ep,e2,c⟩,r⟩:=x
  exact⟨ho _ d,z,ne,k _ _ (.inl rfl) e,mA,⟨od,es,ep,k _ _ (.inr d) e2,c⟩,r⟩
 | own y=>obtain⟨ob,e⟩:=x;exact⟨ob,k _ _ (.inl rfl) e⟩
 | xd fs=>obtain⟨mA,⟨od,es,ep,e,c⟩,r⟩:=x;exact⟨mA,⟨od,es,ep,k _ _ (.inl rfl) e,c⟩,r⟩
 | rng lo hi=>obtain⟨t,u,v,e⟩:=x;exact⟨t,u,v,k _ _ (.inl rfl) e⟩
 | frz ob u ih=>obtain⟨e,q⟩:=x;exact⟨k _ _ (.inl rfl) e,ih q⟩
 | tbl ps=>
  have e:h.get? a=some { cls:=.none,data:=.fields ps }:=x
  show h'.get? a=some { cls:=.none,data:=.fields ps }
  exact k a _ (.inl rfl) e
 | met f y=>
  have e:h.get? a=some (PySem.W.methodObj (.ref f) (.ref y)):=x
  show h'.get? a=some (PySem.W.methodObj (.ref f) (.ref y))
  exact k a _ (.inl rfl) e
 | ext φ=>obtain⟨p,⟨o,e⟩,st⟩:=x;exact⟨st _ _ p fun o q=>k _ _ (.inl rfl) q,⟨o,k _ _ (.inl rfl) e⟩,st⟩
theorem HOk.lt (x:HOk P w H h)(e:H a=some o):a<h.objs.size:=(x a o e).lt
theorem HOk.fresh (x:HOk P w H h)(e:h.objs.size<=a):H a=none:=by
 cases q:H a with
 | none=>rfl
 | some u=>exact absurd (Nat.lt_of_lt_of_le (x.lt q) e) (Nat.lt_irrefl _)
theorem HOk.kept (x:HOk P w H h)(k:∀b u,h.get? b=some u->h'.get? b=some u):HOk P w H h':=fun a o e=>
 (x a o e).stay (fun b u _ q=>k b u q) (fun _ q=>q) fun _ _ q=>q
theorem HOk.laid (x:HOk P w H h)(k:∀b u,h.get? b=some u->h'.get? b=some u)(hp:h.objs.size<=a)(new:ObjOk P w (upd H a o) h' a o):HOk P w (upd H a o) h':=fun b u e=>by
 have hn:=x.fresh hp
 by_cases hb:b=a
 ·subst hb;rw [upd_same] at e;cases e;exact new
 ·rw [upd_ne hb] at e
  exact (x b u e).stay (fun c v _ q=>k c v q) (fun c q=>by rw [upd_ne (ne_of_none q hn)];exact q) fun c xs q=>by rw [upd_ne (ne_of_none q hn)];exact q
end
def Rd (H:Hp)(a:Addr)(u:HO):Prop:=H a=some u\/∃o,H a=some (.frz o u)
theorem Rd.ok {P:Program}{w:World}{H:Hp}{h:Heap}{a:Addr}{u:HO}(r:Rd H a u)(x:HOk P w H h):ObjOk P w H h a u:=by
 rcases r with r | ⟨o,r⟩
 ·exact x a u r
 ·obtain⟨_,q⟩:=x a _ r
  exact q
def Mut:Option HO->Prop
 | some (.lst _)=>True
 | some (.dK _)=>True
 | some (.dT _)=>True
 | some (.set _ _)=>True
 | some (.ins _ _ _)=>True
 | some (.ext _)=>True
 | _=>False
section
variable {P:Program}{w:World}{H:Hp}{h h':Heap}{x e:Addr}{o':HO}
theorem HOk.write (ok:HOk P w H h)(mu:Mut (H x))(he:e=x\/H e=some (.own x))(k:∀b u,b≠e->h.get? b=some u->h'.get? b=some u)(heo:∃u,h'.get? e=some u)
 (new:ObjOk P w (upd H x o') h' x o'):HOk P w (upd H x o') h':=fun b u q=>by
 have nown:∀c y,H c=some (.own y)->c≠x:=fun c y r z=>by subst z;rw [r] at mu;exact mu
 have ntup:∀c xs,H c=some (.tup xs)->c≠x:=fun c xs r z=>by subst z;rw [r] at mu;exact mu
 by_cases hb:b=x
 ·subst hb;rw [upd_same] at q;cases q;exact new
 ·rw [upd_ne hb] at q
  by_cases hbe:b=e
  ·have q':H b=some (.own x):=by
    rcases he with z | z
    ·exact absurd (hbe.trans z) hb
    ·rw [hbe];exact z
   rw [q] at q';cases q'
   obtain⟨v,hv⟩:=heo
   exact⟨v,by rw [hbe];exact hv⟩
  ·refine (ok b u q).stay (fun c v hc r=>k c v ?_ r) (fun c r=>by rw [upd_ne (nown c b r)];exact r) fun c xs r=>by rw [upd_ne (ntup c xs r)];exact r
   rcases hc with rfl | hc
   ·exact hbe
   ·rintro rfl
    rcases he with z | z
    ·exact nown c b hc z
    ·rw [hc] at z;cases z;exact hb rfl
end
structure Un (fs ex:List Addr)(H H':Hp)(h h':Heap):Prop where
 keep:∀b o,h.get? b=some o->H b=none->b∉fs->b∉ex->h'.get? b=some o
 slot:∀b o,h.get? b=some o->H b=none->b∈fs->b∉ex->∃sl,h'.get? b=some { o with slots:=sl }
 free:∀b o,h.get? b=some o->H b=none->b∉ex->H' b=none
 there:∀b o,h.get? b=some o->b∉ex->∃o',h'.get? b=some o'
 tups:∀b xs,H b=some (.tup xs)->H' b=some (.tup xs)
 frzs:∀b o u,H b=some (.frz o u)->H' b=some (.frz o u)
 tbls:∀b ps,H b=some (.tbl ps)->∃more,H' b=some (.tbl (ps++more))
section
variable {fs fs' ex ex':List Addr}{H H1 H2:Hp}{h h1 h2 h':Heap}{a x e:Addr}{o:HO}
theorem Un.any (u:Un fs ex H H1 h h1){b:Addr}{ob:Obj}(q:h.get? b=some ob)(n:H b=none)(hx:b∉ex):∃sl,h1.get? b=some { ob with slots:=sl }:=by
 by_cases hb:b∈fs
 ·exact u.slot b ob q n hb hx
 ·exact⟨ob.slots,u.keep b ob q n hb hx⟩
theorem Un.kept (k:∀b u,h.get? b=some u->h'.get? b=some u):Un fs ex H H h h':=
 ⟨fun b ob q _ _ _=>k b ob q,fun b ob q _ _ _=>⟨ob.slots,k b ob q⟩,fun _ _ _ n _=>n,fun b ob q _=>⟨ob,k b ob q⟩,fun _ _ q=>q,fun _ _ _ q=>q,fun _ ps q=>⟨#[],by rw [q];simp⟩⟩
theorem Un.refl:Un fs ex H H h h:=Un.kept fun _ _ q=>q
theorem Un.laid (k:∀b u,h.get? b=some u->h'.get? b=some u)(hp:h.objs.size<=a)(hn:H a=none):Un fs ex H (upd H a o) h h' where
 keep:=fun b u q _ _ _=>k b u q
 slot:=fun b u q _ _ _=>⟨u.slots,k b u q⟩
 free:=fun b u q n _=>by rw [upd_ne (Nat.ne_of_lt (Nat.lt_of_lt_of_le (Heap.lt_size q) hp))];exact n
 there:=fun b u q _=>⟨u,k b u q⟩
 tups:=fun b xs q=>by rw [upd_ne (ne_of_none q hn)];exact q
 frzs:=fun b u xs q=>by rw [upd_ne (ne_of_none q hn)];exact q
 tbls:=fun b ps q=>⟨#[],by rw [upd_ne (ne_of_none q hn),q];simp⟩
theorem Un.write (mu:Mut (H x))(he:e=x\/H e=some (.own x))(k:∀b u,b≠e->h.get? b=some u->h'.get? b=some u)(heo:∃u,h'.get? e=some u):Un fs ex H (upd H x o) h h':=by
 have hx:∀b,H b=none->b≠x:=fun b n z=>by subst z;rw [n] at mu;exact mu
 have hb:∀b,H b=none->b≠e:=fun b n z=>by
  subst z
  rcases he with r | r
  ·exact hx b n r
  ·rw [n] at r;cases r
 have hm:∀b u,H b=some u->¬Mut (some u)->b≠x:=fun b u q nm z=>by subst z;rw [q] at mu;exact nm mu
 refine⟨fun b u q n _ _=>k b u (hb b n) q,fun b u q n _ _=>⟨u.slots,k b u (hb b n) q⟩,fun b u q n _=>by rw [upd_ne (hx b n)];exact n,fun b u q _=>?_,
  fun b xs q=>by rw [upd_ne (hm b _ q fun z=>z)];exact q,fun b u xs q=>by rw [upd_ne (hm b _ q fun z=>z)];exact q,fun b ps q=>⟨#[],by rw [upd_ne (hm b _ q fun z=>z),q];simp⟩⟩
 by_cases hbe:b=e
 ·subst hbe;exact heo
 ·exact⟨u,k b u hbe q⟩
end
def trk (h:Heap)(H:Hp):List Addr:=(List.range h.objs.size).filter fun a=>(H a).isSome
def hidT (h:Heap)(H:Hp):Heap:=PySem.W.hideAll h (trk h H)
theorem hidT_size (h:Heap)(H:Hp):(hidT h H).objs.size=h.objs.size:=PySem.W.hideAll_size _ _
theorem hidT_get {h:Heap}{H:Hp}{b:Addr}{o:Obj}(e:h.get? b=some o)(n:H b=none):(hidT h H).get? b=some o:=
 PySem.W.hideAll_get _ e fun hm=>by
  have q:(H b).isSome=true:=(List.mem_filter.mp hm).2
  rw [n] at q;simp at q
theorem of_hidT {h:Heap}{H:Hp}{b:Addr}{o:Obj}(e:(hidT h H).get? b=some o):h.get? b=some o/\H b=none:=by
 have e':h.get? b=some o:=PySem.W.of_hideAll (trk h H) e
 refine⟨e',?_⟩
 cases q:H b with
 | none=>rfl
 | some x=>
  have hm:b∈trk h H:=List.mem_filter.mpr ⟨List.mem_range.mpr (Heap.lt_size e'),by simp [q]⟩
  have z:(hidT h H).get? b=none:=PySem.W.hideAll_none (trk h H) hm
  rw [z] at e;cases e
def allNews (g h:Heap)(L:Addr):List (Addr×Obj):=(List.range h.objs.size).filterMap fun a=>if a=L\/(g.get? a).isSome=true then none else (h.get? a).map fun o=>(a,o)
def rest (g h:Heap)(L d:Addr):List (Addr×Obj):=(allNews g h L).filter fun p=>decide (p.1≠d)
structure Mod (K:PySem.W.Frag)(mg:Str->Option Value)(base:Heap):Prop where
 kin:K.In base
 glob:base.Ns mainGlobals mg
 blt:∃mb,base.Ns builtinsNs mb/\∀x:Str,x ≠ "__name__"->mb x=bootBuiltins x
 nolimit:base.NoLimit
structure Cx where
 prog:Program
 w:World
 K:PySem.W.Frag
 mg:Str->Option Value
 base:Heap
 A:Around
 N:List Str
 s₀:Shared
 H₀:Hp
 env:Env
 outer:List Env
 stack:List Env
 ex:List Addr
 fn:Str->Bool
 calm:Bool
 pn:List (Addr×Obj)
 xe:Value->Shared->Prop
def frs (l:List Env):List Addr:=l.filterMap (·.frame)
abbrev Cx.fs (X:Cx):List Addr:=frs X.outer
def Vis (sc:Scope)(x:Str):Prop:=sc.names.lookup x=some .local\/sc.names.lookup x=some .cell\/sc.names.lookup x=some .free
def Loc (sc:Scope)(x:Str):Prop:=sc.names.lookup x=some .local\/sc.names.lookup x=some .cell
def Look (env:Env)(h:Heap)(m:Str->Option Value)(x:Str)(u:Value):Prop:=
 (env.kindOf x=some .local/\m x=some u)\/((env.kindOf x=some .cell\/env.kindOf x=some .free)/\∃c,env.cells.lookup x=some c/\h.IsCell c (some u))
structure Cx.Ok (X:Cx):Prop where
 mod:Mod X.K X.mg X.base
 kind:X.env.scope.kind = .function
 glob:X.env.globals=mainGlobals
 blt:X.env.builtins=builtinsNs
 above:X.s₀.heap.objs.size<=X.env.locals
 inj:∀x y c,X.env.cells.lookup x=some c->X.env.cells.lookup y=some c->x=y
 has:∀x,(X.env.kindOf x=some .cell\/X.env.kindOf x=some .free)->∃c,X.env.cells.lookup x=some c
 cab:∀x c,X.fn x=true->X.env.cells.lookup x=some c->X.s₀.heap.objs.size<=c
 hd:X.calm=true->X.A.handled=none
 frames:X.A.frames=some X.stack
 stk:X.stack=X.outer\/(X.stack=X.env::X.outer/\X.env.frame=some X.env.locals)
 exf:∀b∈X.ex,b≠X.env.locals/\∀x c,X.env.cells.lookup x=some c->c≠b
 bs:∀b o,X.base.get? b=some o->X.s₀.heap.get? b=some o/\X.H₀ b=none
 bsz:X.base.objs.size<=X.s₀.heap.objs.size
 noex:∀b o,X.base.get? b=some o->b∉X.ex
 exfs:∀b∈X.ex,b∉X.fs
 funs:X.s₀.heap.FunFrames X.base X.outer
 frf:∀b∈X.fs,X.H₀ b=none
structure Inv (X:Cx)(pins:List (Addr×Obj))(σ:List (Option V))(H:Hp)(s:Shared):Prop where
 ok:X.Ok
 os:s.os=X.s₀.os
 bare:AllBare s.gens
 base:Un X.fs X.ex X.H₀ H X.s₀.heap s.heap
 loc:∃m,s.heap.Ns X.env.locals m/\∀(i:Nat) (x:Str) (v:V),X.N[i]?=some x->σ[i]?=some (some v)->Vis X.env.scope x->∃u,RelV v u/\Look X.env s.heap m x u
 cell:∀x c,X.env.cells.lookup x=some c->∃v,s.heap.IsCell c v
 free:H X.env.locals=none
 freeC:∀x c,X.env.cells.lookup x=some c->H c=none
 pin:∀p∈X.pn++pins,s.heap.get? p.1=some p.2/\H p.1=none/\p.1≠X.env.locals/\p.1∉X.fs/\∀v,p.2.data ≠ .cell v
 hok:HOk X.prog X.w H s.heap
 len:σ.length=X.N.length
section
variable {X:Cx}{pins:List (Addr×Obj)}{σ:List (Option V)}{H H':Hp}{s:Shared}{h':Heap}
theorem Cx.Ok.nofr (ok:X.Ok){b:Addr}{o:Obj}(e:X.base.get? b=some o):b∉X.fs:=fun hb=>by
 have:=(ok.funs.mem hb).1
 rw [e] at this;cases this
theorem Inv.bs (I:Inv X pins σ H s):∀b o,X.base.get? b=some o->s.heap.get? b=some o/\H b=none:=fun b o e=>
 ⟨I.base.keep b o (I.ok.bs b o e).1 (I.ok.bs b o e).2 (I.ok.nofr e) (I.ok.noex b o e),I.base.free b o (I.ok.bs b o e).1 (I.ok.bs b o e).2 (I.ok.noex b o e)⟩
theorem Inv.bk (I:Inv X pins σ H s):∀b o,X.base.get? b=some o->s.heap.get? b=some o:=fun b o e=>(I.bs b o e).1
theorem Inv.mod (I:Inv X pins σ H s):Mod X.K X.mg X.base:=I.ok.mod
theorem Inv.kIn (I:Inv X pins σ H s):X.K.In s.heap:=I.ok.mod.kin.keeps I.bk
theorem Inv.lt (I:Inv X pins σ H s):X.env.locals<s.heap.objs.size:=let ⟨_,hn,_⟩:=I.loc;hn.lt
theorem Inv.sz (I:Inv X pins σ H s):X.s₀.heap.objs.size<=s.heap.objs.size:=Nat.le_trans I.ok.above (Nat.le_of_lt I.lt)
theorem Inv.nofs (I:Inv X pins σ H s){a:Addr}(h:s.heap.objs.size<=a):a∉X.fs:=fun hb=>by
 obtain⟨_,o,ho,_⟩:=I.ok.funs.mem hb
 exact absurd (Nat.lt_of_lt_of_le (Heap.lt_size ho) (Nat.le_trans I.sz h)) (Nat.lt_irrefl _)
theorem Inv.cne (I:Inv X pins σ H s):∀x c,X.env.cells.lookup x=some c->c≠X.env.locals:=fun x c e z=>by
 obtain⟨v,o,ho,hd⟩:=I.cell x c e
 obtain⟨m,⟨o',es,ep,ho',hd',_⟩,_⟩:=I.loc
 rw [z,ho'] at ho;cases ho;rw [hd'] at hd;cases hd
theorem Inv.funs (I:Inv X pins σ H s):s.heap.FunFrames X.base X.outer:=by
 have all:∀(l:List Env),(∀b∈frs l,b∈X.fs)->X.s₀.heap.FunFrames X.base l->s.heap.FunFrames X.base l:=by
  intro l
  induction l with
  | nil=>intro _ _;trivial
  | cons env r ih=>
   intro hs hl
   obtain⟨hk,⟨L,o,hf,hn,ho,hd⟩,hr⟩:=hl
   have hL:L∈X.fs:=hs L (by unfold frs;rw [List.filterMap_cons,hf];exact List.mem_cons_self)
   obtain⟨sl,e⟩:=I.base.slot L o ho (I.ok.frf L hL) hL fun z=>I.ok.exfs L z hL
   exact⟨hk,⟨L,_,hf,hn,e,hd⟩,ih (fun b hb=>hs b (by unfold frs;rw [List.filterMap_cons,hf];exact List.mem_cons_of_mem _ hb)) hr⟩
 exact all X.outer (fun _ hb=>hb) I.ok.funs
theorem Inv.stack (I:Inv X pins σ H s):s.heap.FunFrames X.base X.stack:=by
 rcases I.ok.stk with e | ⟨e,hf⟩
 ·rw [e];exact I.funs
 ·rw [e]
  obtain⟨m,hn,_⟩:=I.loc
  refine .cons (by rw [I.ok.kind];decide) hf hn ?_ I.funs
  exact Heap.get?_none_of_le (Nat.le_trans I.ok.bsz I.ok.above)
theorem Inv.stkSub (I:Inv X pins σ H s):∀b∈frs X.stack,b∈X.env.locals::X.fs:=fun b hb=>by
 rcases I.ok.stk with e | ⟨e,hf⟩
 ·rw [e] at hb;exact List.mem_cons_of_mem _ hb
 ·rw [e] at hb
  unfold frs at hb
  rw [List.filterMap_cons,hf] at hb
  exact hb
theorem Inv.stkFree (I:Inv X pins σ H s):∀b∈frs X.stack,H b=none:=fun b hb=>by
 rcases List.mem_cons.mp (I.stkSub b hb) with e | hb
 ·rw [e];exact I.free
 ·obtain⟨_,o,ho,_⟩:=I.ok.funs.mem hb
  exact I.base.free b o ho (I.ok.frf b hb) fun z=>I.ok.exfs b z hb
theorem Inv.step {g':Array GenState}{t':Nat}{d':Drawn}{ch:List Addr}(I:Inv X pins σ H s)
 (hch:∀b∈ch,(b∈X.ex\/X.s₀.heap.objs.size<=b)/\b≠X.env.locals/\(∀x c,X.env.cells.lookup x=some c->c≠b)/\∀p∈X.pn++pins,p.1≠b)
 (keep:∀b o,b≠X.env.locals->b∉X.fs->b∉ch->s.heap.get? b=some o->H b=none->h'.get? b=some o)
 (slot:∀b o,b≠X.env.locals->b∈X.fs->b∉ch->s.heap.get? b=some o->H b=none->∃sl,h'.get? b=some { o with slots:=sl }) (free:∀b o,b∉ch->s.heap.get? b=some o->H b=none->H' b=none)
 (there:∀b o,b∉ch->s.heap.get? b=some o->∃o',h'.get? b=some o')
 (tups:∀b xs,H b=some (.tup xs)->H' b=some (.tup xs)) (frzs:∀b o u,H b=some (.frz o u)->H' b=some (.frz o u)) (tbls:∀b ps,H b=some (.tbl ps)->∃more,H' b=some (.tbl (ps++more)))
 (ns:∀m,s.heap.Ns X.env.locals m->h'.Ns X.env.locals m) (hok:HOk X.prog X.w H' h') (hg:AllBare g'):
 Inv X pins σ H' { s with heap:=h',gens:=g',drawn:=d',toks:=t' }:=by
 have neL:∀b o,X.s₀.heap.get? b=some o->b≠X.env.locals:=fun b o e=>Nat.ne_of_lt (Nat.lt_of_lt_of_le (Heap.lt_size e) I.ok.above)
 have neC:∀b o,X.s₀.heap.get? b=some o->b∉X.ex->b∉ch:=fun b o e hx hb=>by
  rcases (hch b hb).1 with z | z
  ·exact hx z
  ·exact absurd (Nat.lt_of_lt_of_le (Heap.lt_size e) z) (Nat.lt_irrefl _)
 have cellK:∀x c,X.env.cells.lookup x=some c->∀v,s.heap.IsCell c v->h'.IsCell c v:=fun x c e v ⟨o,ho,hd⟩=>by
  have nch:c∉ch:=fun z=>(hch c z).2.2.1 x c e rfl
  by_cases hc:c∈X.fs
  ·obtain⟨sl,q⟩:=slot c o (I.cne x c e) hc nch ho (I.freeC x c e)
   exact⟨_,q,hd⟩
  ·exact⟨o,keep c o (I.cne x c e) hc nch ho (I.freeC x c e),hd⟩
 refine⟨I.ok,I.os,hg,⟨fun b o e n hb hx=>?_,fun b o e n hb hx=>?_,fun b o e n hx=>?_,fun b o e hx=>?_,fun b xs e=>tups b xs (I.base.tups b xs e),fun b o xs e=>frzs b o xs (I.base.frzs b o xs e),fun b ps e=>?_⟩,?_,fun x c e=>?_,?_,fun x c e=>?_,fun p hp=>?_,hok,I.len⟩
 ·exact keep b o (neL b o e) hb (neC b o e hx) (I.base.keep b o e n hb hx) (I.base.free b o e n hx)
 ·obtain⟨sl,e1⟩:=I.base.slot b o e n hb hx
  obtain⟨sl',e2⟩:=slot b _ (neL b o e) hb (neC b o e hx) e1 (I.base.free b o e n hx)
  exact⟨sl',e2⟩
 ·obtain⟨o',e1⟩:=I.base.there b o e hx
  exact free b o' (neC b o e hx) e1 (I.base.free b o e n hx)
 ·obtain⟨o',e1⟩:=I.base.there b o e hx
  exact there b o' (neC b o e hx) e1
 ·obtain⟨m1,e1⟩:=I.base.tbls b ps e
  obtain⟨m2,e2⟩:=tbls b _ e1
  exact⟨m1++m2,by rw [e2,Array.append_assoc]⟩
 ·obtain⟨m,hn,hl⟩:=I.loc
  refine⟨m,ns m hn,fun i x v e1 e2 e3=>?_⟩
  obtain⟨u,r,l⟩:=hl i x v e1 e2 e3
  refine⟨u,r,?_⟩
  rcases l with l | ⟨k,c,e,z⟩
  ·exact .inl l
  ·exact .inr ⟨k,c,e,cellK x c e _ z⟩
 ·obtain⟨v,z⟩:=I.cell x c e
  exact⟨v,cellK x c e v z⟩
 ·obtain⟨m,⟨o,_,_,ho,_⟩,_⟩:=I.loc
  exact free _ o (fun z=>(hch _ z).2.1 rfl) ho I.free
 ·obtain⟨v,o,ho,hd⟩:=I.cell x c e
  exact free c o (fun z=>(hch c z).2.2.1 x c e rfl) ho (I.freeC x c e)
 ·obtain⟨e,n,ne,nf,d⟩:=I.pin p hp
  have nch:p.1∉ch:=fun z=>(hch p.1 z).2.2.2 p hp rfl
  exact⟨keep p.1 p.2 ne nf nch e n,free p.1 p.2 nch e n,ne,nf,d⟩
theorem Inv.un {t':Nat}(I:Inv X pins σ H s)(u:Un X.fs [] H H' s.heap h')(hok:HOk X.prog X.w H' h'):Inv X pins σ H' { s with heap:=h',toks:=t' }:=by
 obtain⟨m,⟨o,es,ep,ho,r⟩,_⟩:=id I.loc
 obtain⟨sl,hL⟩:=u.any ho I.free (by simp)
 exact I.step (g':=s.gens) (d':=s.drawn) (ch:=[]) (fun _ z=>nomatch z) (fun b o _ hb _ e n=>u.keep b o e n hb (by simp)) (fun b o _ hb _ e n=>u.slot b o e n hb (by simp)) (fun b o _ e n=>u.free b o e n (by simp)) (fun b o _ e=>u.there b o e (by simp)) u.tups u.frzs u.tbls (fun m' hm=>by
  obtain⟨o',es',ep',ho',r'⟩:=hm
  rw [ho] at ho';cases ho'
  exact⟨_,es',ep',hL,r'⟩) hok I.bare
theorem Inv.call {g':Array GenState}{t':Nat}{d':Drawn}{ch:List Addr}(I:Inv X pins σ H s)(u:Un (frs X.stack) ch H H' s.heap h')(hok:HOk X.prog X.w H' h')(hg:AllBare g')
 (hch:∀b∈ch,(b∈X.ex\/X.s₀.heap.objs.size<=b)/\b≠X.env.locals/\(∀x c,X.env.cells.lookup x=some c->c≠b)/\∀p∈X.pn++pins,p.1≠b):
 Inv X pins σ H' { s with heap:=h',gens:=g',drawn:=d',toks:=t' }:=by
 obtain⟨m,⟨o,es,ep,ho,r⟩,_⟩:=id I.loc
 obtain⟨sl,hL⟩:=u.any ho I.free fun z=>(hch _ z).2.1 rfl
 exact I.step (ch:=ch) hch (fun b o hL hb hc e n=>u.keep b o e n (fun z=>(List.mem_cons.mp (I.stkSub b z)).elim hL hb) hc) (fun b o _ _ hc e n=>u.any e n hc) (fun b o hc e n=>u.free b o e n hc) (fun b o hc e=>u.there b o e hc) u.tups u.frzs u.tbls (fun m' hm=>by
  obtain⟨o',es',ep',ho',r'⟩:=hm
  rw [ho] at ho';cases ho'
  exact⟨_,es',ep',hL,r'⟩) hok hg
theorem Inv.turned {t':Nat}{it:Addr}(I:Inv X pins σ H s)(k:∀b o,b≠it->s.heap.get? b=some o->h'.get? b=some o)(hn:H it=none)(hL:it≠X.env.locals)
 (h1:it∈X.ex\/X.s₀.heap.objs.size<=it) (h2:∀x c,X.env.cells.lookup x=some c->c≠it) (h3:∀p∈X.pn++pins,p.1≠it):Inv X pins σ H { s with heap:=h',toks:=t' }:=by
 have nit:∀b u,H b=some u->b≠it:=fun b u e z=>by rw [z,hn] at e;cases e
 refine I.step (g':=s.gens) (d':=s.drawn) (ch:=[it]) (fun b hb=>?_) (fun b o _ _ hc e _=>k b o (fun z=>hc (by simp [z])) e) (fun b o _ _ hc e _=>⟨o.slots,k b o (fun z=>hc (by simp [z])) e⟩) (fun _ _ _ _ n=>n)
  (fun b o hc e=>⟨o,k b o (fun z=>hc (by simp [z])) e⟩) (fun _ _ e=>e) (fun _ _ _ e=>e) (fun b ps e=>⟨#[],by rw [e];simp⟩) (fun m hm=>?_) (fun b u e=>?_) I.bare
 ·have e:b=it:=by simpa using hb
  subst e
  exact⟨h1,hL,h2,h3⟩
 ·obtain⟨o,es,ep,ho,r⟩:=hm
  exact⟨o,es,ep,k _ o (Ne.symm hL) ho,r⟩
 ·refine (I.hok b u e).stay (fun c v hc q=>k c v ?_ q) (fun _ q=>q) fun _ _ q=>q
  rcases hc with z | z
  ·rw [z];exact nit b u e
  ·exact nit c _ z
theorem Inv.tok (I:Inv X pins σ H s)(t:Nat):Inv X pins σ H { s with toks:=t }:=I.un (h':=s.heap) (t':=t) Un.refl I.hok
theorem Inv.kept {t':Nat}(I:Inv X pins σ H s)(k:∀b u,s.heap.get? b=some u->h'.get? b=some u):Inv X pins σ H { s with heap:=h',toks:=t' }:=I.un (Un.kept k) (I.hok.kept k)
theorem Inv.laid {a:Addr}{o:HO}{t':Nat}(I:Inv X pins σ H s)(k:∀b u,s.heap.get? b=some u->h'.get? b=some u)(hp:s.heap.objs.size<=a)(new:ObjOk X.prog X.w (upd H a o) h' a o):
 Inv X pins σ (upd H a o) { s with heap:=h',toks:=t' }:=I.un (Un.laid k hp (I.hok.fresh hp)) (I.hok.laid k hp new)
theorem Inv.write {x e:Addr}{o:HO}{t':Nat}(I:Inv X pins σ H s)(mu:Mut (H x))(he:e=x\/H e=some (.own x))(k:∀b u,b≠e->s.heap.get? b=some u->h'.get? b=some u)(heo:∃u,h'.get? e=some u)
 (new:ObjOk X.prog X.w (upd H x o) h' x o):Inv X pins σ (upd H x o) { s with heap:=h',toks:=t' }:=I.un (Un.write mu he k heo) (I.hok.write mu he k heo new)
theorem Inv.pins_of {pins':List (Addr×Obj)}(I:Inv X pins σ H s)(h:∀p∈pins',s.heap.get? p.1=some p.2/\H p.1=none/\p.1≠X.env.locals/\p.1∉X.fs/\∀v,p.2.data ≠ .cell v):Inv X pins' σ H s:=
 ⟨I.ok,I.os,I.bare,I.base,I.loc,I.cell,I.free,I.freeC,fun p hp=>(List.mem_append.mp hp).elim (fun z=>I.pin p (List.mem_append_left _ z)) (h p),I.hok,I.len⟩
theorem nodup_ix {N:List Str}(hN:N.Nodup){i j:Nat}{x:Str}(a:N[i]?=some x)(b:N[j]?=some x):i=j:=by
 obtain⟨h1,e1⟩:=List.getElem?_eq_some_iff.mp a
 obtain⟨h2,e2⟩:=List.getElem?_eq_some_iff.mp b
 exact (List.getElem_inj hN).mp (e1.trans e2.symm)
theorem store_ok2 {M:Model}{A:Around}{E:Value->Shared->Prop}{i:Nat}{x:Str}{v:V}{u:Value}{Q:Unit->Shared->Prop}(I:Inv X pins σ H s)(hN:X.N.Nodup)(hi:X.N[i]?=some x)(hx:Loc X.env.scope x)(r:RelV v u)
 (h:∀s',Inv X pins (σ.set i (some v)) H s'->(∃a,Heap.SameBut a s.heap s'.heap/\(a=X.env.locals\/X.env.cells.lookup x=some a))->Q () s') (hf:X.fn x=true\/X.env.scope.names.lookup x=some .local:=by first | exact .inl rfl | exact .inr rfl | assumption):wpAny M A (storeName X.env x u) Q E s:=by
 obtain⟨m,hn,hl⟩:=id I.loc
 have hcls:(X.env.scope.kind == .class||(X.env.scope.kind == .module&&X.env.locals != X.env.globals))=false:=by rw [I.ok.kind];rfl
 have hiσ:i<σ.length:=by rw [I.len];exact (List.getElem?_eq_some_iff.mp hi).1
 have cne:=I.cne
 have tracked:∀{a:Addr} {h':Heap},(∃o,s.heap.get? a=some o/\H a=none)->Heap.SameBut a s.heap h'->HOk X.prog X.w H h':=fun {a h'} ha hs b ob e=>by
  obtain⟨_,_,hfree⟩:=ha
  refine (I.hok b ob e).stay (fun c w' hc q=>(hs.2 c ?_).trans q) (fun _ q=>q) fun _ _ q=>q
  rintro rfl
  rcases hc with rfl | hc
  ·rw [hfree] at e;cases e
  ·rw [hfree] at hc;cases hc
 rcases hx with hk | hk
 ·refine wpAny_storeName_local hk hn (fun h' hn' hs=>?_) hcls
  obtain⟨oL,_,_,hoL,_⟩:=id hn
  refine h _ ⟨I.ok,I.os,I.bare,⟨fun b o e n hb hx=>?_,fun b o e n hb hx=>?_,I.base.free,fun b o e hx=>?_,I.base.tups,I.base.frzs,I.base.tbls⟩,⟨_,hn',fun j y v' e1 e2 e3=>?_⟩,fun y c e=>?_,I.free,I.freeC,fun p hp=>?_,tracked ⟨oL,hoL,I.free⟩ hs,by simpa using I.len⟩ ⟨_,hs,.inl rfl⟩
  ·exact (hs.2 b (Nat.ne_of_lt (Nat.lt_of_lt_of_le (Heap.lt_size e) I.ok.above))).trans (I.base.keep b o e n hb hx)
  ·obtain⟨sl,e1⟩:=I.base.slot b o e n hb hx
   exact⟨sl,(hs.2 b (Nat.ne_of_lt (Nat.lt_of_lt_of_le (Heap.lt_size e) I.ok.above))).trans e1⟩
  ·obtain⟨o',e1⟩:=I.base.there b o e hx
   exact⟨o',(hs.2 b (Nat.ne_of_lt (Nat.lt_of_lt_of_le (Heap.lt_size e) I.ok.above))).trans e1⟩
  ·by_cases hj:j=i
   ·subst hj
    rw [hi] at e1;cases e1
    rw [List.getElem?_set_self hiσ] at e2
    cases e2
    exact⟨u,r,.inl ⟨hk,by simp⟩⟩
   ·rw [List.getElem?_set_ne (Ne.symm hj)] at e2
    obtain⟨u',r',q⟩:=hl j y v' e1 e2 e3
    refine⟨u',r',?_⟩
    rcases q with⟨k,e⟩|⟨k,c,e,z⟩
    ·refine .inl ⟨k,?_⟩
     have:y≠x:=fun e=>hj (nodup_ix hN e1 (e ▸ hi))
     simp [this,e]
    ·exact .inr ⟨k,c,e,z.sameBut hs (cne y c e)⟩
  ·obtain⟨w',z⟩:=I.cell y c e
   exact⟨w',z.sameBut hs (cne y c e)⟩
  ·obtain⟨e,n,ne,nf,d⟩:=I.pin p hp
   exact⟨(hs.2 p.1 ne).trans e,n,ne,nf,d⟩
 ·have hfn:X.fn x=true:=by
   rcases hf with z | z
   ·exact z
   ·rw [z] at hk;cases hk
  obtain⟨c,hc⟩:=I.ok.has x (.inl hk)
  obtain⟨w',z⟩:=I.cell x c hc
  refine wpAny_storeName_cell I.ok.kind hk hc z (fun h' hc' hs=>?_)
  obtain⟨oc,hoc,hocd⟩:=id z
  refine h { s with heap:=h' } ⟨I.ok,I.os,I.bare,⟨fun b o e n hb hx=>?_,fun b o e n hb hx=>?_,I.base.free,fun b o e hx=>?_,I.base.tups,I.base.frzs,I.base.tbls⟩,⟨m,hn.sameBut hs (Ne.symm (cne x c hc)),fun j y v' e1 e2 e3=>?_⟩,fun y c' e=>?_,I.free,I.freeC,fun p hp=>?_,tracked ⟨oc,hoc,I.freeC x c hc⟩ hs,by simpa using I.len⟩ ⟨c,hs,.inr hc⟩
  ·exact (hs.2 b (Nat.ne_of_lt (Nat.lt_of_lt_of_le (Heap.lt_size e) (I.ok.cab x c hfn hc)))).trans (I.base.keep b o e n hb hx)
  ·obtain⟨sl,e1⟩:=I.base.slot b o e n hb hx
   exact⟨sl,(hs.2 b (Nat.ne_of_lt (Nat.lt_of_lt_of_le (Heap.lt_size e) (I.ok.cab x c hfn hc)))).trans e1⟩
  ·obtain⟨o',e1⟩:=I.base.there b o e hx
   exact⟨o',(hs.2 b (Nat.ne_of_lt (Nat.lt_of_lt_of_le (Heap.lt_size e) (I.ok.cab x c hfn hc)))).trans e1⟩
  ·by_cases hj:j=i
   ·subst hj
    rw [hi] at e1;cases e1
    rw [List.getElem?_set_self hiσ] at e2
    cases e2
    exact⟨u,r,.inr ⟨.inl hk,c,hc,hc'⟩⟩
   ·rw [List.getElem?_set_ne (Ne.symm hj)] at e2
    obtain⟨u',r',q⟩:=hl j y v' e1 e2 e3
    refine⟨u',r',?_⟩
    rcases q with q | ⟨k,c',e,z'⟩
    ·exact .inl q
    ·refine .inr ⟨k,c',e,z'.sameBut hs ?_⟩
     rintro rfl
     exact hj (nodup_ix hN e1 (I.ok.inj _ _ _ e hc ▸ hi))
  ·by_cases hcc:c'=c
   ·subst hcc;exact⟨_,hc'⟩
   ·obtain⟨w2,z2⟩:=I.cell y c' e
    exact⟨w2,z2.sameBut hs hcc⟩
  ·obtain⟨e,n,ne,nf,d⟩:=I.pin p hp
   refine⟨(hs.2 p.1 ?_).trans e,n,ne,nf,d⟩
   intro q
   rw [q,hoc] at e
   have q':oc=p.2:=Option.some.inj e
   exact d w' (by rw [<-q'];exact hocd)
theorem store_ok {M:Model}{A:Around}{E:Value->Shared->Prop}{i:Nat}{x:Str}{v:V}{u:Value}{Q:Unit->Shared->Prop}(I:Inv X pins σ H s)(hN:X.N.Nodup)(hi:X.N[i]?=some x)(hx:Loc X.env.scope x)(r:RelV v u)
 (h:∀s',Inv X pins (σ.set i (some v)) H s'->Q () s') (hf:X.fn x=true\/X.env.scope.names.lookup x=some .local:=by first | exact .inl rfl | exact .inr rfl | assumption):wpAny M A (storeName X.env x u) Q E s:=
 store_ok2 I hN hi hx r (fun s' I' _=>h s' I') hf
theorem Inv.call' {s':Shared}{ch:List Addr}(I:Inv X pins σ H s)(ho:s'.os=s.os)(u:Un (frs X.stack) ch H H' s.heap s'.heap)(hok:HOk X.prog X.w H' s'.heap)(hg:AllBare s'.gens)
 (hch:∀b∈ch,(b∈X.ex\/X.s₀.heap.objs.size<=b)/\b≠X.env.locals/\(∀x c,X.env.cells.lookup x=some c->c≠b)/\∀p∈X.pn++pins,p.1≠b):Inv X pins σ H' s':=by
 obtain⟨h',g',d',t',o'⟩:=s'
 have e:o'=s.os:=ho
 subst e
 exact I.call (g':=g') (t':=t') (d':=d') u hok hg hch
end
abbrev XK:=Value->Option Addr->Hp->Prop
abbrev St:=List (Option V)
abbrev VK:=V->Hp->Prop
abbrev TE:=St->Hp->VK->Prop
abbrev TT:=St->Hp->(Bool->Hp->Prop)->Prop
abbrev TA:=St->Hp->(List V->Hp->Prop)->Prop
structure Ends where
 nx:St->Hp->Prop
 rt:VK
 bk:St->Hp->Prop:=fun _ _=>False
 ct:St->Hp->Prop:=fun _ _=>False
abbrev TS:=Ends->St->Hp->Prop
def EP (X:Cx)(pins:List (Addr×Obj))(σ:St)(Q:VK)(u:Value)(s':Shared):Prop:=∃v H',Inv X pins σ H' s'/\RelV v u/\Q v H'
def TP (X:Cx)(pins:List (Addr×Obj))(σ:St)(Q:Bool->Hp->Prop)(b:Bool)(s':Shared):Prop:=∃H',Inv X pins σ H' s'/\Q b H'
def AP (X:Cx)(pins:List (Addr×Obj))(σ:St)(Q:List V->Hp->Prop)(us:List Value)(s':Shared):Prop:=∃vs H',Inv X pins σ H' s'/\Vals vs us/\Q vs H'
def SP (X:Cx)(pins:List (Addr×Obj))(D:Ends)(f:Flow)(s':Shared):Prop:=
 match f with
 | .next=>∃σ' H',Inv X pins σ' H' s'/\D.nx σ' H'
 | .brk=>∃σ' H',Inv X pins σ' H' s'/\D.bk σ' H'
 | .cont=>∃σ' H',Inv X pins σ' H' s'/\D.ct σ' H'
 | .ret u=>∃v σ' H',Inv X pins σ' H' s'/\RelV v u/\D.rt v H'
def PE (X:Cx)(e:Expr)(t:TE):Prop:=
 ∀(pins:List (Addr×Obj)) (s:Shared) (σ:St) (H:Hp) (Q:VK),Inv X pins σ H s->t σ H Q->wpAny (model X.prog X.w) X.A (eval e X.env) (EP X pins σ Q) X.xe s
def PT (X:Cx)(e:Expr)(t:TT):Prop:=
 ∀(pins:List (Addr×Obj)) (s:Shared) (σ:St) (H:Hp) (Q:Bool->Hp->Prop),Inv X pins σ H s->t σ H Q->wpAny (model X.prog X.w) X.A (isTrue e X.env (eval e X.env)) (TP X pins σ Q) X.xe s
def PW (X:Cx)(e:Expr)(t:TT):Prop:=
 ∀(whole:Sem Value) (pins:List (Addr×Obj)) (s:Shared) (σ:St) (H:Hp) (Q:Bool->Hp->Prop),Inv X pins σ H s->t σ H Q->wpAny (model X.prog X.w) X.A (isTrue e X.env whole) (TP X pins σ Q) X.xe s
theorem PW.pt {X:Cx}{e:Expr}{t:TT}(h:PW X e t):PT X e t:=h _
def PA (X:Cx)(es:List Expr)(t:TA):Prop:=
 ∀(pos:Pos) (pins:List (Addr×Obj)) (s:Shared) (σ:St) (H:Hp) (Q:List V->Hp->Prop),Inv X pins σ H s->t σ H Q->wpAny (model X.prog X.w) X.A (spliced (backTo pos (starEach es X.env))) (AP X pins σ Q) X.xe s
def PS (X:Cx)(st:Stmt)(t:TS):Prop:=
 ∀(pins:List (Addr×Obj)) (s:Shared) (σ:St) (H:Hp) (D:Ends),Inv X pins σ H s->t D σ H->wpAny (model X.prog X.w) X.A (exec st X.env) (SP X pins D) X.xe s
def PSs (X:Cx)(st:List Stmt)(t:TS):Prop:=
 ∀(pins:List (Addr×Obj)) (s:Shared) (σ:St) (H:Hp) (D:Ends),Inv X pins σ H s->t D σ H->wpAny (model X.prog X.w) X.A (execs st X.env) (SP X pins D) X.xe s
theorem thn {α:Type}{t:Sem α}{Q Q':α->Shared->Prop}{M:Model}{A:Around}{E:Value->Shared->Prop}{s:Shared}(h:wpAny M A t Q E s)(hQ:∀a s,Q a s->Q' a s):wpAny M A t Q' E s:=wpAny_mono h hQ fun _ _ x=>x
section
variable {X:Cx}
def tVar (i:Nat):TE:=fun σ H Q=>∃v,σ[i]?=some (some v)/\Q v H
def tC (v:V):TE:=fun _ H Q=>Q v H
theorem pe_var {i:Nat}{x:Str}{pos:Pos}(hN:X.N[i]?=some x)(hv:Vis X.env.scope x)(hd:(x==("__debug__":Str))=false:=by decide)(hcd:(x==("__classdict__":Str))=false:=by decide):PE X (.Name x pos) (tVar i):=by
 intro pins s σ H Q I h
 obtain⟨v,e,h⟩:=h
 obtain⟨m,hn,hl⟩:=I.loc
 obtain⟨u,r,l⟩:=hl i x v hN e hv
 have fin:EP X pins σ Q u s:=⟨v,H,I,r,h⟩
 rcases l with⟨hk,hm⟩|⟨hk,c,hc,hcell⟩
 ·exact wpAny_Name (wpAny_loadName_local I.ok.kind hk hn hm fin) hd
 ·rcases hk with hk | hk
  ·exact wpAny_Name (wpAny_loadName_cell I.ok.kind hk hc hcell fin) hd
  ·exact wpAny_Name (wpAny_loadName_free I.ok.kind hk hc hcell fin hcd) hd
theorem pe_int {i j pos}:PE X (.Constant (.int i) j pos) (tC (.int i)):=fun _ _ _ H _ I h=>wpAny_Constant_int ⟨.int i,H,I.tok _,⟨_,rfl⟩,h⟩
theorem pe_bl {b j pos}:PE X (.Constant (.bool b) j pos) (tC (.bl b)):=fun _ _ _ H _ I h=>Constant_bool ⟨.bl b,H,I,rfl,h⟩
theorem pe_non {j pos}:PE X (.Constant .none j pos) (tC .non):=fun _ _ _ H _ I h=>Constant_none ⟨.non,H,I,rfl,h⟩
theorem pe_str {x j pos}:PE X (.Constant (.str x) j pos) (tC (.str x)):=fun _ _ _ H _ I h=>Calls.Constant_str ⟨.str x,H,I.tok _,⟨_,rfl⟩,h⟩
def Gl (X:Cx)(x:Str):Prop:=X.env.kindOf x=some .globalImplicit
theorem ld_glob {E:Value->Shared->Prop}{pins:List (Addr×Obj)}{s:Shared}{σ:St}{H:Hp}{x:Str}{u:Value}{pos:Pos}{Q:Value->Shared->Prop}(I:Inv X pins σ H s)(hg:Gl X x)(hm:X.mg x=some u)(h:Q u s)
 (hd:(x==("__debug__":Str))=false:=by decide):wpAny (model X.prog X.w) X.A (eval (.Name x pos) X.env) Q E s:=
 Calls.Name_function_global I.ok.kind hg (Calls.loadGlobal_global (by rw [I.ok.glob];exact I.mod.glob.keeps I.bk) hm h) hd
theorem ld_blt {E:Value->Shared->Prop}{pins:List (Addr×Obj)}{s:Shared}{σ:St}{H:Hp}{x:Str}{u:Value}{pos:Pos}{Q:Value->Shared->Prop}(I:Inv X pins σ H s)(hg:Gl X x)(hm:X.mg x=none)(hv:bootBuiltins x=some u)(h:Q u s)
 (hn:x ≠ "__name__":=by decide) (hd:(x==("__debug__":Str))=false:=by decide):wpAny (model X.prog X.w) X.A (eval (.Name x pos) X.env) Q E s:=by
 obtain⟨mb,h1,h2⟩:=I.mod.blt
 exact Calls.Name_function_global I.ok.kind hg (Calls.loadGlobal_builtin (by rw [I.ok.glob];exact I.mod.glob.keeps I.bk) hm (by rw [I.ok.blt];exact h1.keeps I.bk) ((h2 x hn).trans hv) h) hd
theorem pe_glob {x:Str}{v:V}{u:Value}{pos:Pos}(hg:Gl X x)(hm:X.mg x=some u)(r:RelV v u)(hd:(x==("__debug__":Str))=false:=by decide):PE X (.Name x pos) (tC v):=
 fun _ _ _ H _ I h=>ld_glob I hg hm ⟨v,H,I,r,h⟩ hd
theorem pe_bltn {x:Str}{v:V}{u:Value}{pos:Pos}(hg:Gl X x)(hm:X.mg x=none)(hv:bootBuiltins x=some u)(r:RelV v u)(hn:x ≠ "__name__":=by decide)(hd:(x==("__debug__":Str))=false:=by decide):PE X (.Name x pos) (tC v):=
 fun _ _ _ H _ I h=>ld_blt I hg hm hv ⟨v,H,I,r,h⟩ hn hd
variable {a b:Expr}{ta tb:TE}{pos:Pos}
variable {tA tB':TT}{rest:List Expr}
def tAnd (t u:TT):TT:=fun σ H Q=>t σ H fun c H1=>if c=true then u σ H1 Q else Q false H1
def tOr (t u:TT):TT:=fun σ H Q=>t σ H fun c H1=>if c=true then Q true H1 else u σ H1 Q
def tNot (t:TT):TT:=fun σ H Q=>t σ H fun c H1=>Q (!c) H1
theorem pw_and1 (ha:PT X a tA):PW X (.BoolOp .And [a] pos) tA:=by
 intro wh pins s σ H Q I h
 refine isTrue_and (thn (ha pins s σ H Q I h) fun c s1 e=>?_)
 cases c with
 | true=>exact isTrue_and_nil e
 | false=>exact e
theorem pw_or1 (ha:PT X a tA):PW X (.BoolOp .Or [a] pos) tA:=by
 intro wh pins s σ H Q I h
 refine isTrue_or (thn (ha pins s σ H Q I h) fun c s1 e=>?_)
 cases c with
 | false=>exact isTrue_or_nil e
 | true=>exact e
theorem pw_and (ha:PT X a tA)(hb:PW X (.BoolOp .And (b::rest) pos) tB'):PW X (.BoolOp .And (a::b::rest) pos) (tAnd tA tB'):=by
 intro wh pins s σ H Q I h
 refine isTrue_and (thn (ha pins s σ H _ I h) fun c s1 ⟨H1,I1,q1⟩=>?_)
 cases c with
 | true=>exact hb wh pins s1 σ H1 Q I1 q1
 | false=>exact⟨H1,I1,q1⟩
theorem pw_or (ha:PT X a tA)(hb:PW X (.BoolOp .Or (b::rest) pos) tB'):PW X (.BoolOp .Or (a::b::rest) pos) (tOr tA tB'):=by
 intro wh pins s σ H Q I h
 refine isTrue_or (thn (ha pins s σ H _ I h) fun c s1 ⟨H1,I1,q1⟩=>?_)
 cases c with
 | true=>exact⟨H1,I1,q1⟩
 | false=>exact hb wh pins s1 σ H1 Q I1 q1
theorem pt_not (ha:PT X a tA):PT X (.UnaryOp .Not a pos) (tNot tA):=by
 intro pins s σ H Q I h
 exact isTrue_not (ha pins s σ H (fun c H1=>Q (!c) H1) I h)
def tAndV (ta tb:TE):TE:=fun σ H Q=>ta σ H fun x H1=>∃c,x = .bl c/\if c=true then tb σ H1 Q else Q (.bl false) H1
def tOrV (ta tb:TE):TE:=fun σ H Q=>ta σ H fun x H1=>∃c,x = .bl c/\if c=true then Q (.bl true) H1 else tb σ H1 Q
def tNotV (ta:TE):TE:=fun σ H Q=>ta σ H fun x H1=>∃c,x = .bl c/\Q (.bl (!c)) H1
theorem pe_one {op}{t:TE}(h:PE X a t):PE X (.BoolOp op [a] pos) t:=fun pins s σ H Q I hw=>BoolOp_one (h pins s σ H Q I hw)
theorem pe_and (ha:PE X a ta)(hb:PE X (.BoolOp .And (b::rest) pos) tb):PE X (.BoolOp .And (a::b::rest) pos) (tAndV ta tb):=by
 intro pins s σ H Q I h
 refine BoolOp_and (thn (ha pins s σ H _ I h) fun v s1 ⟨x,H1,I1,r1,q1⟩=>?_)
 obtain⟨c,rfl,q1⟩:=q1
 cases r1
 refine wpAny_truthy_bool ?_
 cases c with
 | true=>exact hb pins s1 σ H1 Q I1 q1
 | false=>exact⟨.bl false,H1,I1,rfl,q1⟩
theorem pe_or (ha:PE X a ta)(hb:PE X (.BoolOp .Or (b::rest) pos) tb):PE X (.BoolOp .Or (a::b::rest) pos) (tOrV ta tb):=by
 intro pins s σ H Q I h
 refine BoolOp_or (thn (ha pins s σ H _ I h) fun v s1 ⟨x,H1,I1,r1,q1⟩=>?_)
 obtain⟨c,rfl,q1⟩:=q1
 cases r1
 refine wpAny_truthy_bool ?_
 cases c with
 | false=>exact hb pins s1 σ H1 Q I1 q1
 | true=>exact⟨.bl true,H1,I1,rfl,q1⟩
theorem pe_not (ha:PE X a ta):PE X (.UnaryOp .Not a pos) (tNotV ta):=by
 intro pins s σ H Q I h
 refine UnaryOp_ (thn (ha pins s σ H _ I h) fun v s1 ⟨x,H1,I1,r1,q1⟩=>?_)
 obtain⟨c,rfl,q1⟩:=q1
 cases r1
 exact not_of (wpAny_truthy_bool ⟨.bl (!c),H1,I1,rfl,q1⟩)
end
def SqL (K:PySem.W.Frag)(H:Hp)(a:Addr)(xs:List V):Prop:=
 Rd H a (.lst xs) \/
  ∃(o:Obj) (its:Array Value) (n:Nat),K.lookup a=some o/\o.cls = .type "list"/\o.dict=none/\o.data = .seq its n/\its.size<=sizeLine/\Vals xs its.toList
def SqT (K:PySem.W.Frag)(H:Hp)(a:Addr)(xs:List V):Prop:=
 Rd H a (.tup xs) \/
  ∃(o:Obj) (its:Array Value) (n:Nat),K.lookup a=some o/\o.cls = .type "tuple"/\o.data = .seq its n/\its.size<=sizeLine/\Vals xs its.toList
def absV:Value->Option V
 | .none=>some .non
 | .bool b=>some (.bl b)
 | .int i _=>some (.int i)
 | .str x _=>some (.str x)
 | .bytes b _=>some (.byt b)
 | .float b _=>some (.flt b)
 | .ref a=>some (.ref a)
 | .type n=>some (.ty n)
 | _=>none
theorem RelV.abs {x:V}{u:Value}(r:RelV x u):absV u=some x:=by
 cases x with
 | non=>cases r;rfl
 | bl _=>cases r;rfl
 | int _=>obtain⟨t,rfl⟩:=r;rfl
 | str _=>obtain⟨t,rfl⟩:=r;rfl
 | byt _=>obtain⟨t,rfl⟩:=r;rfl
 | flt _=>obtain⟨t,rfl⟩:=r;rfl
 | ref _=>cases r;rfl
 | ty _=>cases r;rfl
theorem RelV.inj {x y:V}{u:Value}(r:RelV x u)(q:RelV y u):x=y:=Option.some.inj (r.abs.symm.trans q.abs)
theorem Vals.inj:∀{xs ys:List V} {us:List Value},Vals xs us->Vals ys us->xs=ys
 | _,_,_,.nil,.nil=>rfl
 | _,_,_,.cons r t,.cons r' t'=>by rw [r.inj r',Vals.inj t t']
section
variable {X:Cx}{pins:List (Addr×Obj)}{σ:St}{H:Hp}{s:Shared}{a:Addr}{xs ys:List V}
theorem SqL.of {K:PySem.W.Frag}(h:H a=some (.lst xs)):SqL K H a xs:=.inl (.inl h)
theorem SqT.of {K:PySem.W.Frag}(h:H a=some (.tup xs)):SqT K H a xs:=.inl (.inl h)
theorem Inv.list (I:Inv X pins σ H s)(h:SqL X.K H a xs):∃its:List Value,Vals xs its/\PlainL s.heap a its.toArray/\xs.length<=sizeLine:=by
 rcases h with h | ⟨o,its,n,hk,hc,hd,hs,hz,r⟩
 ·obtain⟨z,its,n,r,e⟩:=h.ok I.hok
  exact⟨its,r,⟨_,n,e,rfl,rfl,rfl⟩,z⟩
 ·refine⟨its.toList,r,⟨o,n,I.kIn a o hk,hc,hd,by simpa using hs⟩,?_⟩
  have e:=r.length
  simp only [Array.length_toList] at e
  omega
theorem Inv.tuple (I:Inv X pins σ H s)(h:SqT X.K H a xs):∃its:List Value,Vals xs its/\IsTup s.heap a its.toArray/\xs.length<=sizeLine:=by
 rcases h with h | ⟨o,its,n,hk,hc,hs,hz,r⟩
 ·obtain⟨z,its,r,p⟩:=h.ok I.hok
  exact⟨its,r,p,z⟩
 ·refine⟨its.toList,r,⟨o,I.kIn a o hk,hc,n,by simpa using hs⟩,?_⟩
  have e:=r.length
  simp only [Array.length_toList] at e
  omega
theorem Inv.list_inj (I:Inv X pins σ H s)(h:SqL X.K H a xs)(h':SqL X.K H a ys):xs=ys:=by
 obtain⟨its,r,⟨o,n,e,_,_,d⟩,_⟩:=I.list h
 obtain⟨its',r',⟨o',n',e',_,_,d'⟩,_⟩:=I.list h'
 rw [e] at e';cases e'
 rw [d] at d'
 injection d' with d1 _
 have:its=its':=by simpa using congrArg Array.toList d1
 subst this
 exact r.inj r'
theorem Inv.tuple_inj (I:Inv X pins σ H s)(h:SqT X.K H a xs)(h':SqT X.K H a ys):xs=ys:=by
 obtain⟨its,r,⟨o,e,_,n,d⟩,_⟩:=I.tuple h
 obtain⟨its',r',⟨o',e',_,n',d'⟩,_⟩:=I.tuple h'
 rw [e] at e';cases e'
 rw [d] at d'
 injection d' with d1 _
 have:its=its':=by simpa using congrArg Array.toList d1
 subst this
 exact r.inj r'
end
abbrev Cx.wish (X:Cx)(E:Value->Shared->Prop):Cx:={ X with xe:=E }
abbrev Cx.nox (X:Cx):Cx:=X.wish fun _ _=>False
theorem Cx.Ok.wish {X:Cx}(ok:X.Ok)(E:Value->Shared->Prop):(X.wish E).Ok:=
 ⟨ok.mod,ok.kind,ok.glob,ok.blt,ok.above,ok.inj,ok.has,ok.cab,ok.hd,ok.frames,ok.stk,ok.exf,ok.bs,ok.bsz,ok.noex,ok.exfs,ok.funs,ok.frf⟩
theorem Cx.Ok.unwish {X:Cx}{E:Value->Shared->Prop}(ok:(X.wish E).Ok):X.Ok:=
 ⟨ok.mod,ok.kind,ok.glob,ok.blt,ok.above,ok.inj,ok.has,ok.cab,ok.hd,ok.frames,ok.stk,ok.exf,ok.bs,ok.bsz,ok.noex,ok.exfs,ok.funs,ok.frf⟩
section
variable {X:Cx}{pins:List (Addr×Obj)}{σ:St}{H:Hp}{s:Shared}{E:Value->Shared->Prop}
theorem Inv.wish (I:Inv X pins σ H s)(E:Value->Shared->Prop):Inv (X.wish E) pins σ H s:=⟨I.ok.wish E,I.os,I.bare,I.base,I.loc,I.cell,I.free,I.freeC,I.pin,I.hok,I.len⟩
theorem Inv.unwish (I:Inv (X.wish E) pins σ H s):Inv X pins σ H s:=⟨I.ok.unwish,I.os,I.bare,I.base,I.loc,I.cell,I.free,I.freeC,I.pin,I.hok,I.len⟩
theorem SP.unwish {D:Ends}{f:Flow}{s':Shared}(h:SP (X.wish E) pins D f s'):SP X pins D f s':=by
 cases f with
 | next=>obtain⟨σ',H',I,q⟩:=h;exact⟨σ',H',I.unwish,q⟩
 | brk=>obtain⟨σ',H',I,q⟩:=h;exact⟨σ',H',I.unwish,q⟩
 | cont=>obtain⟨σ',H',I,q⟩:=h;exact⟨σ',H',I.unwish,q⟩
 | ret u=>obtain⟨v,σ',H',I,r,q⟩:=h;exact⟨v,σ',H',I.unwish,r,q⟩
end
section
variable {X:Cx}{st:Stmt}{rest:List Stmt}{t u:TS}{e:Expr}{te:TE}{pos:Pos}
def tNext:TS:=fun D σ H=>D.nx σ H
def tSeq (t u:TS):TS:=fun D σ H=>t { D with nx:=u D } σ H
theorem pss_nil:PSs X [] tNext:=fun _ _ σ H _ I h=>wpAny_execs_nil ⟨σ,H,I,h⟩
theorem pss_cons (h1:PS X st t)(h2:PSs X rest u):PSs X (st::rest) (tSeq t u):=by
 intro pins s σ H D I h
 refine wpAny_execs_cons (thn (h1 pins s σ H { D with nx:=u D } I h) fun f s1 q=>?_)
 cases f with
 | next=>
  obtain⟨σ',H',I',q⟩:=q
  exact h2 pins s1 σ' H' D I' q
 | ret v=>exact q
 | brk=>exact q
 | cont=>exact q
theorem pss_one (h1:PS X st t):PSs X [st] t:=by
 intro pins s σ H D I h
 refine wpAny_execs_cons (thn (h1 pins s σ H D I h) fun f s1 q=>?_)
 cases f with
 | next=>exact wpAny_execs_nil q
 | ret v=>exact q
 | brk=>exact q
 | cont=>exact q
theorem ps_pass:PS X (.Pass pos) tNext:=fun _ _ σ H _ I h=>wpAny_Pass ⟨σ,H,I,h⟩
theorem Inv.quiet {pins:List (Addr×Obj)}{σ:St}{H:Hp}{s:Shared}(I:Inv X pins σ H s):interactive X.env=false:=by simp [interactive,I.ok.kind]
def tDrop (te:TE):TS:=fun D σ H=>te σ H fun _ H1=>D.nx σ H1
theorem ps_expr (he:PE X e te)(hs:swapsWith e none pos.line X.env=pure false:=by rfl):PS X (.Expr e pos) (tDrop te):=by
 intro pins s σ H D I h
 exact wpAny_Expr_any (thn (he pins s σ H _ I h) fun v s1 ⟨x,H1,I1,r1,q1⟩=>⟨σ,H1,I1,q1⟩) I.quiet hs
def tRet (te:TE):TS:=fun D σ H=>te σ H D.rt
theorem ps_ret (he:PE X e te):PS X (.Return (some e) pos) (tRet te):=by
 intro pins s σ H D I h
 exact wpAny_Return_some (thn (he pins s σ H _ I h) fun v s1 ⟨x,H1,I1,r1,q1⟩=>⟨x,σ,H1,I1,r1,q1⟩)
def tIfS (c:TT)(t u:TS):TS:=fun D σ H=>c σ H fun b H1=>if b=true then t D σ H1 else u D σ H1
theorem ps_if {c:Expr}{a b:List Stmt}{tc:TT}(hc:PT X c tc)(ha:PSs X a t)(hb:PSs X b u):PS X (.If c a b pos) (tIfS tc t u):=by
 intro pins s σ H D I h
 refine wpAny_If (thn (hc pins s σ H _ I h) fun d s1 ⟨H1,I1,q1⟩=>?_)
 cases d with
 | true=>exact ha pins s1 σ H1 D I1 q1
 | false=>exact hb pins s1 σ H1 D I1 q1
end
abbrev TG:=V->St->Hp->(St->Hp->Prop)->Prop
abbrev TGs:=List V->St->Hp->(St->Hp->Prop)->Prop
def PG (X:Cx)(target:Expr)(t:TG):Prop:=
 ∀(pins:List (Addr×Obj)) (s:Shared) (σ:St) (H:Hp) (v:V) (u:Value) (Q:St->Hp->Prop),Inv X pins σ H s->RelV v u->t v σ H Q ->
  wpAny (model X.prog X.w) X.A (assign target X.env u) (fun _ s'=>∃σ' H',Inv X pins σ' H' s'/\Q σ' H') X.xe s
def PGs (X:Cx)(ts:List Expr)(t:TGs):Prop:=
 ∀(pins:List (Addr×Obj)) (s:Shared) (σ:St) (H:Hp) (vs:List V) (us:List Value) (Q:St->Hp->Prop),Inv X pins σ H s->Vals vs us->t vs σ H Q ->
  wpAny (model X.prog X.w) X.A (assignInOrder ((assignEach ts X.env).map (·.2)) us) (fun _ s'=>∃σ' H',Inv X pins σ' H' s'/\Q σ' H') X.xe s
abbrev TSet:=V->V->V->Hp->(Hp->Prop)->Prop
def PSet (X:Cx)(t:TSet):Prop:=
 ∀(pins:List (Addr×Obj)) (s:Shared) (σ:St) (H:Hp) (o i v:V) (ov iv u:Value) (Q:Hp->Prop),Inv X pins σ H s->RelV o ov->RelV i iv->RelV v u->t o i v H Q ->
  wpAny (model X.prog X.w) X.A (setItem ov iv u) (fun _ s'=>∃H',Inv X pins σ H' s'/\Q H') X.xe s
section
variable {X:Cx}{pos:Pos}
def gName (i:Nat):TG:=fun v σ H Q=>Q (σ.set i (some v)) H
theorem pg_name {i:Nat}{x:Str}(hN:X.N.Nodup)(hi:X.N[i]?=some x)(hx:Loc X.env.scope x)(hf:X.fn x=true\/X.env.scope.names.lookup x=some .local:=by first | exact .inl rfl | exact .inr rfl | assumption):PG X (.Name x pos) (gName i):=by
 intro pins s σ H v u Q I r h
 exact wpAny_assign_Name (store_ok I hN hi hx r (fun s' I'=>⟨_,H,I',h⟩) hf)
def gNil:TGs:=fun vs σ H Q=>vs=[]/\Q σ H
def gCons (t:TG)(u:TGs):TGs:=fun vs σ H Q=>∃v r,vs=v::r/\t v σ H fun σ' H'=>u r σ' H' Q
theorem pgs_nil:PGs X [] gNil:=by
 intro pins s σ H vs us Q I r h
 obtain⟨e,h⟩:=h
 subst e
 cases r
 exact assignInOrder_nil ⟨σ,H,I,h⟩
theorem pgs_cons {e:Expr}{es:List Expr}{t:TG}{u:TGs}(h1:PG X e t)(h2:PGs X es u)
 (hs:(assignEach (e::es) X.env).map (·.2)=assign e X.env::(assignEach es X.env).map (·.2):=by rfl):PGs X (e::es) (gCons t u):=by
 intro pins s σ H vs us Q I r h
 obtain⟨v,vr,e1,h⟩:=h
 subst e1
 cases r with
 | cons r rr=>
  rw [hs]
  refine assignInOrder_cons (thn (h1 pins s σ H _ _ _ I r h) fun _ s1 ⟨σ1,H1,I1,q1⟩=>?_)
  exact h2 pins s1 σ1 H1 _ _ Q I1 rr q1
def gTup (K:PySem.W.Frag)(n:Nat)(t:TGs):TG:=fun v σ H Q=>∃a xs,v = .ref a/\SqT K H a xs/\xs.length=n/\t xs σ H Q
theorem pg_tup {es:List Expr}{k:Nat}{t:TGs}{n:Nat}(hc:X.calm=true)(h:PGs X es t)
 (hn:(assignEach es X.env).length=n:=by rfl) (hst:(assignEach es X.env).findIdx? (·.1)=none:=by rfl):PG X (.Tuple es k pos) (gTup X.K n t):=by
 intro pins s σ H v u Q I r hw
 obtain⟨a,xs,e1,hq,hl,hw⟩:=hw
 subst e1
 cases r
 obtain⟨its,rv,ht,hz⟩:=I.tuple hq
 refine assign_Tuple_tuple (I.ok.hd hc) ht (by simp [hn,<-hl,rv.length]) hst fun h' hx=>?_
 have I1:Inv X pins σ H { s with heap:=h' }:=I.kept (t':=s.toks) fun b o e=>hx b o (Nat.ne_of_lt (Heap.lt_size e)) e
 exact h pins _ σ H xs _ Q I1 (by simpa using rv) hw
def gSub (to ti:TE)(t:TSet):TG:=fun v σ H Q=>to σ H fun o H1=>ti σ H1 fun i H2=>t o i v H2 fun H3=>Q σ H3
theorem pg_sub {o i:Expr}{to ti:TE}{t:TSet}(ho:PE X o to)(hi:PE X i ti)(hs:PSet X t)
 (ha:∀v,assign (.Subscript o i pos) X.env v=(do
   let ov <-holding [v] (eval o X.env)
   let iv <-holding [v,ov] (eval i X.env)
   standAt pos
   holding [v,ov,iv] (setItem ov iv v)
   release [v,ov,iv] []):=by intro _;rfl):PG X (.Subscript o i pos) (gSub to ti t):=by
 intro pins s σ H v u Q I r h
 rw [ha]
 refine wpAny_bind (wpAny_holding (thn (ho pins s σ H _ I h) fun ov s1 ⟨x,H1,I1,r1,q1⟩=>?_))
 refine wpAny_bind (wpAny_holding (thn (hi pins s1 σ H1 _ I1 q1) fun iv s2 ⟨y,H2,I2,r2,q2⟩=>?_))
 refine wpAny_bind (wpAny_standAt (wpAny_bind (wpAny_holding (thn (hs pins s2 σ H2 x y v ov iv u _ I2 r1 r2 r q2) fun _ s3 ⟨H3,I3,q3⟩=>?_))))
 exact wpAny_release ⟨σ,H3,I3,q3⟩
def tAsg (te:TE)(g:TG):TS:=fun D σ H=>te σ H fun x H1=>g x σ H1 D.nx
theorem ps_asg {tg e:Expr}{te:TE}{g:TG}(he:PE X e te)(hg:PG X tg g)(hs:swapsWithSole [tg] e pos.line X.env=pure false:=by rfl)(hw:swappedStores [tg] e X.env=pure none:=by rfl)
 (h1:(assignEach [tg] X.env).map (·.2)=[assign tg X.env]:=by rfl):PS X (.Assign [tg] e pos) (tAsg te g):=by
 intro pins s σ H D I h
 refine wpAny_Assign_stores (thn (he pins s σ H _ I h) fun v s1 ⟨x,H1,I1,r1,q1⟩=>?_) hs hw
 rw [h1]
 exact thn (hg pins s1 σ H1 x v _ I1 r1 q1) fun _ s2 q=>q
theorem ps_set {i:Nat}{x:Str}{e:Expr}{te:TE}{pos':Pos}(hN:X.N.Nodup)(hi:X.N[i]?=some x)(hx:Loc X.env.scope x)(he:PE X e te)(hs:swapsWith e (some (.Name x pos')) pos.line X.env=pure false:=by rfl)(hf:X.fn x=true\/X.env.scope.names.lookup x=some .local:=by first | exact .inl rfl | exact .inr rfl | assumption):
 PS X (.Assign [.Name x pos'] e pos) (tAsg te (gName i)):=by
 intro pins s σ H D I h
 refine wpAny_Assign_Name (thn (he pins s σ H _ I h) fun v s1 ⟨y,H1,I1,r1,q1⟩=>?_) hs
 exact store_ok I1 hN hi hx r1 (fun s2 I2=>⟨_,H1,I2,q1⟩) hf
end
section
variable {X:Cx}{pos:Pos}
end
structure It where
 go:Nat->Hp->Prop
 yld:Nat->Hp->V->Hp->Prop
 stop:Nat->Hp->Prop
def FpOk (X:Cx)(pins:List (Addr×Obj))(H:Hp)(b:Addr):Prop:=
 H b=none/\b≠X.env.locals/\b∉X.fs/\(b∈X.ex\/X.s₀.heap.objs.size<=b)/\(∀x c,X.env.cells.lookup x=some c->c≠b)/\∀p∈X.pn++pins,p.1≠b
theorem Inv.fpOk {X:Cx}{pins:List (Addr×Obj)}{σ:St}{H H':Hp}{s:Shared}{b:Addr}(I:Inv X pins σ H s)(hb:s.heap.objs.size<=b)(hn:H' b=none):FpOk X pins H' b:=by
 refine⟨hn,Nat.ne_of_gt (Nat.lt_of_lt_of_le I.lt hb),I.nofs hb,.inr (Nat.le_trans I.sz hb),fun x c e z=>?_,fun p hp z=>?_⟩
 ·obtain⟨v,q⟩:=I.cell x c e
  exact absurd (Nat.lt_of_lt_of_le q.lt (by rw [z];exact hb)) (Nat.lt_irrefl _)
 ·exact absurd (Nat.lt_of_lt_of_le (Heap.lt_size (I.pin p hp).1) (by rw [z];exact hb)) (Nat.lt_irrefl _)
structure Turn (P:Program)(w:World)(K:PySem.W.Frag)(tg:Expr)(J:It)(fp:List Addr)(it:Addr)(tn:Nat->Heap->Prop):Prop where
 mem:it∈fp
 obj:∀i h,tn i h->∀b∈fp,∃o,h.get? b=some o/\∀v,o.data ≠ .cell v
 keep:∀i h h',tn i h->(∀b∈fp,∀o,h.get? b=some o->h'.get? b=some o)->tn i h'
 item:∀(X:Cx),X.prog=P->X.w=w->X.K=K->X.calm=true->∀(i:Nat) (pins:List (Addr×Obj)) (s:Shared) (σ:St) (H:Hp) (E:Value->Shared->Prop),Inv X pins σ H s->(∀b∈fp,FpOk X pins H b)->tn i s.heap->J.go i H ->
  wpAny (model P w) X.A (pyNext (.ref it)) (fun r s1=>∃u,r=some u /\
   wpAny (model P w) X.A (letOwnedTupleGo tg (.ref it) u) (fun _ s2=>∃x H',Inv X pins σ H' s2/\RelV x u/\J.yld i H x H'/\tn (i+1) s2.heap/\∀b∈fp,H' b=none) E s1) E s
 done:∀(X:Cx),X.prog=P->X.w=w->X.K=K->X.calm=true->∀(i:Nat) (pins:List (Addr×Obj)) (s:Shared) (σ:St) (H:Hp) (E:Value->Shared->Prop),Inv X pins σ H s->(∀b∈fp,FpOk X pins H b)->tn i s.heap->J.stop i H ->
  wpAny (model P w) X.A (pyNext (.ref it)) (fun r s1=>r=none/\Inv X pins σ H s1) E s
 self:∀(A:Around) (i:Nat) (s:Shared) (Q:Value->Shared->Prop) (E:Value->Shared->Prop),tn i s.heap->Q (.ref it) s->wpAny (model P w) A (pyIter (.ref it)) Q E s
abbrev TI:=St->Hp->(It->Hp->Prop)->Prop
def PIE (X:Cx)(pins:List (Addr×Obj))(σ:St)(tg:Expr)(R:It->Hp->Prop)(itv:Value)(s2:Shared):Prop:=
 ∃(it:Addr) (fp:List Addr) (tn:Nat->Heap->Prop) (J:It) (H':Hp),itv = .ref it/\Inv X pins σ H' s2/\Turn X.prog X.w X.K tg J fp it tn/\tn 0 s2.heap/\(∀b∈fp,FpOk X pins H' b)/\R J H'
def PI (X:Cx)(tg iter:Expr)(wi:TI):Prop:=
 ∀(pins:List (Addr×Obj)) (s:Shared) (σ:St) (H:Hp) (R:It->Hp->Prop),Inv X pins σ H s->wi σ H R ->
  wpAny (model X.prog X.w) X.A (eval iter X.env) (fun v s1=>wpAny (model X.prog X.w) X.A (pyIter v) (PIE X pins σ tg R) X.xe s1) X.xe s
theorem go_of {M:Model}{A:Around}{E:Value->Shared->Prop}{s:Shared}{tg:Expr}{it:Addr}{u:Value}{o:Obj}{n:String}{vs:Array Value}{Q:Unit->Shared->Prop}(ho:s.heap.get? it=some o)(hc:o.cls = .type n)(hd:o.data = .fields vs)
 (hn:["enumerate","zip","dict_itemiterator","dict_reverseitemiterator","odict_iterator","itertools.zip_longest","itertools.pairwise"].contains n=false) (hQ:Q () s):wpAny M A (letOwnedTupleGo tg (.ref it) u) Q E s:=by
 unfold letOwnedTupleGo
 cases tg<;>first
  | exact wpAny_pure hQ
  | (cases u<;>first
      | exact wpAny_pure hQ
      | (refine wpAny_bind (wpAny_load ho ?_)
         rw [hc,hd]
         show wpAny M A (if (["enumerate","zip","dict_itemiterator","dict_reverseitemiterator","odict_iterator","itertools.zip_longest","itertools.pairwise"].contains n&&vs[0]?==some (rawInt _))=true then _ else _) Q E s
         rw [if_neg (by intro h;rw [hn,Bool.false_and] at h;cases h)]
         exact wpAny_pure hQ))
def Itl (K:PySem.W.Frag)(a:Addr):It:=
 ⟨fun i H=>∃xs x,SqL K H a xs/\xs[i]?=some x,fun i H x H'=>H'=H/\∀xs,SqL K H a xs->xs[i]?=some x,fun i H=>∃xs,SqL K H a xs/\xs.length<=i⟩
def Itr (lo:Int)(n:Nat):It:=⟨fun i _=>i<n,fun i H x H'=>H'=H/\x = .int (lo+i),fun i _=>n<=i⟩
theorem turn_list {P:Program}{w:World}{K:PySem.W.Frag}{tg:Expr}(a it:Addr):Turn P w K tg (Itl K a) [it] it (fun i h=>h.IsListIter it a i) where
 mem:=by simp
 obj:=fun i h st b hb=>by
  have e:b=it:=by simpa using hb
  subst e
  obtain⟨o,e,c,d⟩:=st
  exact⟨o,e,fun v z=>by rw [d] at z;cases z⟩
 keep:=fun i h h' st k=>st.at fun o e=>k it (by simp) o e
 item:=by
  intro X hP hw hK hc i pins s σ H E I hf st hg
  subst hP hw hK
  obtain⟨xs,x,hq,hx⟩:=hg
  obtain⟨its,rv,p,hz⟩:=I.list hq
  obtain⟨u,hu,ru⟩:=rv.get hx
  obtain⟨f0,f1,f2,f3,f4,f5⟩:=hf it (by simp)
  refine wpAny_pyNext_list_item st p.isList (x:=u) (by simpa using hu) fun h' st' sb=>?_
  have I1:Inv X pins σ H { s with heap:=h' }:=I.turned (t':=s.toks) (fun b o hb e=>(sb.2 b hb).trans e) f0 f1 f3 f4 f5
  obtain⟨o,e,c,d⟩:=id st'
  exact⟨u,rfl,go_of (s:={ s with heap:=h' }) e c d (by decide) ⟨x,H,I1,ru,⟨rfl,fun ys hy=>by rw [I.list_inj hy hq];exact hx⟩,st',fun b hb=>(hf b hb).1⟩⟩
 done:=by
  intro X hP hw hK hc i pins s σ H E I hf st hg
  subst hP hw hK
  obtain⟨xs,hq,hx⟩:=hg
  obtain⟨its,rv,p,hz⟩:=I.list hq
  obtain⟨f0,f1,f2,f3,f4,f5⟩:=hf it (by simp)
  have hl:=rv.length
  exact wpAny_pyNext_list_end (I.ok.hd hc) st p.isList (by simp;omega) fun h' eb=>⟨rfl,I.turned (t':=s.toks) (fun b o hb e=>eb b o hb e) f0 f1 f3 f4 f5⟩
 self:=fun _ _ _ _ _ st h=>wpAny_pyIter_listiter st h
theorem turn_range {P:Program}{w:World}{K:PySem.W.Frag}{tg:Expr}(it:Addr)(lo:Int)(n:Nat):Turn P w K tg (Itr lo n) [it] it (fun i h=>IsRangeIter h it (lo+(i:Nat)*1) ((n:Int)-(i:Nat)) 1) where
 mem:=by simp
 obj:=fun i h st b hb=>by
  have e:b=it:=by simpa using hb
  subst e
  exact⟨_,st,fun v z=>by
   have z':Data.fields _=Data.cell v:=z
   cases z'⟩
 keep:=fun i h h' st k=>k it (by simp) _ st
 item:=by
  intro X hP hw hK hc i pins s σ H E I hf st hg
  subst hP hw hK
  obtain⟨f0,f1,f2,f3,f4,f5⟩:=hf it (by simp)
  have W:=Walks.range (prog:=X.prog) (w:=X.w) (I.ok.hd hc) it lo 1 n
  refine W.item i s _ _ hg st fun v h' tk hv st' kk=>?_
  obtain⟨t,rfl⟩:=hv
  have I1:Inv X pins σ H { s with heap:=h',toks:=tk }:=I.turned (fun b o hb e=>kk b o (by simpa using hb) e) f0 f1 f3 f4 f5
  refine⟨_,rfl,go_of (s:={ s with heap:=h',toks:=tk }) (n:="range_iterator") st' rfl rfl (by decide) ⟨.int (lo+i),H,I1,⟨t,?_⟩,⟨rfl,rfl⟩,st',fun b hb=>(hf b hb).1⟩⟩
  rw [Int.mul_one]
 done:=by
  intro X hP hw hK hc i pins s σ H E I hf st hg
  subst hP hw hK
  obtain⟨f0,f1,f2,f3,f4,f5⟩:=hf it (by simp)
  exact wpAny_pyNext_range_end (I.ok.hd hc) st (by have:n<=i:=hg;omega) fun h' eb=>⟨rfl,I.turned (t':=s.toks) (fun b o hb e=>eb b o hb e) f0 f1 f3 f4 f5⟩
 self:=fun _ _ _ _ _ st h=>wpAny_pyIter_rangeiter st h
section
variable {X:Cx}{tg:Expr}
theorem range_it {pins:List (Addr×Obj)}{σ:St}{H:Hp}{s:Shared}{R:It->Hp->Prop}{E:Value->Shared->Prop}{lo hi:Int}{t u v:Tok}{tk:Nat}(I:Inv X pins σ H s)(h1:-(2 ^ 62)<=lo)(h2:lo<2 ^ 62)(h3:-(2 ^ 62)<=hi)(h4:hi<2 ^ 62)
 (q:R (Itr lo (hi-lo).toNat) H):wpAny (model X.prog X.w) X.A (pyIter (.ref s.heap.objs.size)) (PIE X pins σ tg R) E { s with heap:=s.heap.push { cls:=.type "range",data:=.fields #[.int lo t,.int hi u,.int 1 v] },toks:=tk }:=by
 refine wpAny_pyIter_range (IsRange.new ..) (small_one h1 h2 h3 h4) ?_
 have I1:Inv X pins σ H { s with heap:=s.heap.push { cls:=.type "range",data:=.fields #[.int lo t,.int hi u,.int 1 v] },toks:=tk }:=I.kept fun b o e=>Heap.get?_push_of_some _ e
 refine⟨(s.heap.push { cls:=.type "range",data:=.fields #[.int lo t,.int hi u,.int 1 v] }).objs.size,[(s.heap.push { cls:=.type "range",data:=.fields #[.int lo t,.int hi u,.int 1 v] }).objs.size],_,_,H,rfl,
  I1.kept (t':=tk) fun b o e=>Heap.get?_push_of_some _ e,turn_range _ lo (hi-lo).toNat,?_,fun b hb=>?_,q⟩
 ·have e1:lo+((0:Nat):Int)*1=lo:=by simp
  have e2:(((hi-lo).toNat:Nat):Int)-((0:Nat):Int)=Builtin.Range.rangeSize lo hi 1:=by rw [rangeSize_one];split<;>omega
  show IsRangeIter _ _ (lo+((0:Nat):Int)*1) ((((hi-lo).toNat:Nat):Int)-((0:Nat):Int)) 1
  rw [e1,e2]
  exact Heap.get?_push_size _ rfl
 ·have e:b=(s.heap.push { cls:=.type "range",data:=.fields #[.int lo t,.int hi u,.int 1 v] }).objs.size:=by simpa using hb
  subst e
  exact I1.fpOk (Nat.le_refl _) (I1.hok.fresh (Nat.le_refl _))
def iRng1 (ta:TA):TI:=fun σ H R=>ta σ H fun vs H1=>∃j:Int,vs=[.int j]/\-(2 ^ 62)<=j/\j<2 ^ 62/\R (Itr 0 j.toNat) H1
theorem pi_range1 {a:Expr}{ta:TA}{p pos:Pos}(hg:Gl X "range")(hm:X.mg "range" = none)(ha:PA X [a] ta)(hs:starEach [a] X.env=[(false,eval a X.env)]:=by rfl):PI X tg (.Call (.Name "range" p) [a] [] pos) (iRng1 ta):=by
 intro pins s σ H R I h
 refine Call_ (ld_blt I hg hm boot_range (PyProof.Rows.callWith_type1 (thn (ha pos pins s σ H _ I h) fun us s1 ⟨vs,H1,I1,r1,q1⟩=>?_) hs rfl))
 obtain⟨j,e,q1,q2,q⟩:=q1
 subst e
 cases r1 with
 | cons r rr=>
  cases rr
  obtain⟨t,rfl⟩:=r
  exact call_range_1 (range_it I1 (by omega) (by omega) q1 q2 (by simpa using q))
def tFor (wi:TI)(g:TG)(tb:TS):TS:=fun D σ H=>wi σ H fun J H1=>∃W:Nat->Nat->St->Hp->Prop,(∃m,W 0 m σ H1)/\∀i m σ H,W i m σ H ->
 (J.stop i H/\D.nx σ H)\/(J.go i H/\∃N:St->Hp->Prop,(∀σ' H',N σ' H'->∃m',m'<m/\W (i+1) m' σ' H')/\∀x H',J.yld i H x H'->g x σ H' fun σ2 H2=>tb { D with nx:=N,ct:=N,bk:=D.nx } σ2 H2)
def pinsAt (fp:List Addr)(h:Heap):List (Addr×Obj):=fp.filterMap fun b=>(h.get? b).map fun o=>(b,o)
theorem mem_pinsAt {fp:List Addr}{h:Heap}{b:Addr}{o:Obj}(hb:b∈fp)(e:h.get? b=some o):(b,o)∈pinsAt fp h:=List.mem_filterMap.mpr ⟨b,hb,by rw [e];rfl⟩
theorem of_pinsAt {fp:List Addr}{h:Heap}{p:Addr×Obj}(hp:p∈pinsAt fp h):p.1∈fp/\h.get? p.1=some p.2:=by
 obtain⟨b,hb,e⟩:=List.mem_filterMap.mp hp
 cases q:h.get? b with
 | none=>rw [q] at e;cases e
 | some o=>
  rw [q] at e
  have e':(b,o)=p:=Option.some.inj e
  subst e'
  exact⟨hb,q⟩
theorem Inv.pinned {pins:List (Addr×Obj)}{σ:St}{H:Hp}{s:Shared}{fp:List Addr}(I:Inv X pins σ H s)(hf:∀b∈fp,FpOk X pins H b)(ho:∀b∈fp,∃o,s.heap.get? b=some o/\∀v,o.data ≠ .cell v):Inv X (pins++pinsAt fp s.heap) σ H s:=
 I.pins_of fun p hp=>(List.mem_append.mp hp).elim (fun z=>I.pin p (List.mem_append_right _ z)) fun z=>by
  obtain⟨hb,e⟩:=of_pinsAt z
  obtain⟨f0,f1,f2,_⟩:=hf p.1 hb
  obtain⟨o,e',d⟩:=ho p.1 hb
  rw [e] at e';cases e'
  exact⟨e,f0,f1,f2,d⟩
theorem Inv.unpinned {pins pl:List (Addr×Obj)}{σ:St}{H:Hp}{s:Shared}(I:Inv X (pins++pl) σ H s):Inv X pins σ H s:=I.pins_of fun p hp=>I.pin p (List.mem_append_right _ (List.mem_append_left _ hp))
theorem ps_for {iter:Expr}{body:List Stmt}{wi:TI}{g:TG}{tb:TS}{pos:Pos}(hp:PassesOwn (model X.prog X.w) X.A X.env X.xe)(hc:X.calm=true)(hi:PI X tg iter wi)(hg:PG X tg g)(hb:PSs X body tb)
 (hs:∀x,foldedSetIterable iter X.env x=pure x:=by intro _;rfl):PS X (.For tg iter body [] pos) (tFor wi g tb):=by
 intro pins s σ H D I h
 refine wpAny_For (thn (hi pins s σ H _ I h) fun v s1 h1=>thn h1 fun itv s2 h2=>?_) hs
 obtain⟨it,fp,tn,J,H2,e,I2,T,st2,f2,W,⟨m0,w0⟩,turn⟩:=h2
 subst e
 have stat:∀{H':Hp},(∀b∈fp,H' b=none)->∀b∈fp,FpOk X pins H' b:=fun hn b hb=>⟨hn b hb,(f2 b hb).2⟩
 refine codeAny_forLoop_any (fun n s'=>∃i σ' H',Inv X pins σ' H' s'/\tn i s'.heap/\(∀b∈fp,H' b=none)/\W i n σ' H') ?_ m0 ⟨0,σ,H2,I2,st2,fun b hb=>(f2 b hb).1,w0⟩
 rintro n s3 ⟨i,σ3,H3,I3,st3,fr3,w3⟩
 rcases turn i n σ3 H3 w3 with⟨stop,qn⟩|⟨go,N,hN,step⟩
 ·refine wpAny_passesOwn hp (thn (T.done X rfl rfl rfl hc i pins s3 σ3 H3 X.xe I3 (stat fr3) st3 stop) fun r s4 ⟨hr,I4⟩=>?_)
  subst hr
  exact wpAny_execs_nil ⟨σ3,H3,I4,qn⟩
 ·refine wpAny_passesOwn hp (thn (T.item X rfl rfl rfl hc i pins s3 σ3 H3 X.xe I3 (stat fr3) st3 go) fun r s4 ⟨u,hr,h4⟩=>?_)
  subst hr
  refine wpAny_passesOwn hp (thn h4 fun _ s5 ⟨x,H5,I5,r5,y5,st5,fr5⟩=>?_)
  have I5':=I5.pinned (stat fr5) (T.obj _ _ st5)
  refine wpAny_passesOwn hp (thn (hg _ s5 σ3 H5 x u _ I5' r5 (step x H5 y5)) fun _ s6 ⟨σ6,H6,I6,q6⟩=>?_)
  refine wpAny_passesOwn hp (thn (hb _ s6 σ6 H6 _ I6 q6) fun f s7 q7=>?_)
  have again:∀{σ7:St} {H7:Hp},Inv X (pins++pinsAt fp s5.heap) σ7 H7 s7->N σ7 H7->∃m,m<n/\∃i σ' H',Inv X pins σ' H' s7/\tn i s7.heap/\(∀b∈fp,H' b=none)/\W i m σ' H':=fun {σ7 H7} I7 n7=>by
   obtain⟨m',hm,w7⟩:=hN σ7 H7 n7
   refine⟨m',hm,i+1,σ7,H7,I7.unpinned,T.keep _ _ _ st5 fun b hb o e=>(I7.pin (b,o) (List.mem_append_right _ (List.mem_append_right _ (mem_pinsAt hb e)))).1,fun b hb=>?_,w7⟩
   obtain⟨o,e,d⟩:=T.obj _ _ st5 b hb
   exact (I7.pin (b,o) (List.mem_append_right _ (List.mem_append_right _ (mem_pinsAt hb e)))).2.1
  cases f with
  | next=>obtain⟨σ7,H7,I7,n7⟩:=q7;exact again I7 n7
  | cont=>obtain⟨σ7,H7,I7,n7⟩:=q7;exact again I7 n7
  | brk=>obtain⟨σ7,H7,I7,q7⟩:=q7;exact⟨σ7,H7,I7.unpinned,q7⟩
  | ret v=>obtain⟨x7,σ7,H7,I7,r7,q7⟩:=q7;exact⟨x7,σ7,H7,I7.unpinned,r7,q7⟩
end
abbrev R2:=V->V->Hp->VK->Prop
def OpR (X:Cx)(f:Value->Value->Sem Value)(r:R2):Prop:=
 ∀(pins:List (Addr×Obj)) (s:Shared) (σ:St) (H:Hp) (x y:V) (v u:Value) (Q:VK),Inv X pins σ H s->RelV x v->RelV y u->r x y H Q ->
  wpAny (model X.prog X.w) X.A (f v u) (EP X pins σ Q) X.xe s
def CallR (X:Cx)(f:Value)(r:List V->Hp->VK->Prop):Prop:=
 ∀(pins:List (Addr×Obj)) (s:Shared) (σ:St) (H:Hp) (xs:List V) (us:List Value) (Q:VK),Inv X pins σ H s->Vals xs us->r xs H Q ->
  wpAny (model X.prog X.w) X.A (call f us) (EP X pins σ Q) X.xe s
def TruR (X:Cx)(r:V->Hp->(Bool->Hp->Prop)->Prop):Prop:=
 ∀(pins:List (Addr×Obj)) (s:Shared) (σ:St) (H:Hp) (x:V) (v:Value) (Q:Bool->Hp->Prop),Inv X pins σ H s->RelV x v->r x H Q ->
  wpAny (model X.prog X.w) X.A (truthy v) (TP X pins σ Q) X.xe s
def tOp (r:R2)(ta tb:TE):TE:=fun σ H Q=>ta σ H fun x H1=>tb σ H1 fun y H2=>r x y H2 Q
def rI (C:Int->Int->Prop)(g:Int->Int->V):R2:=fun x y H Q=>∃i j,x = .int i/\y = .int j/\C i j/\Q (g i j) H
def rI0 (g:Int->Int->V):R2:=fun x y H Q=>∃i j,x = .int i/\y = .int j/\Q (g i j) H
section
variable {X:Cx}{a b c:Expr}{ta tb tc:TE}{pos:Pos}
theorem binT (ha:PE X a ta)(hb:PE X b tb){pins:List (Addr×Obj)}{s:Shared}{σ:St}{H:Hp}{R:V->V->Hp->Prop}(I:Inv X pins σ H s)
 (h:ta σ H fun x H1=>tb σ H1 fun y H2=>R x y H2) {Q:Value->Shared->Prop} {f:Value->Value->Sem Value}
 (hf:∀v u s2 x y H2,Inv X pins σ H2 s2->RelV x v->RelV y u->R x y H2->wpAny (model X.prog X.w) X.A (f v u) Q X.xe s2):
 wpAny (model X.prog X.w) X.A (eval a X.env) (fun v s₁=>wpAny (model X.prog X.w) X.A (eval b X.env) (fun u s₂=>wpAny (model X.prog X.w) X.A (f v u) Q X.xe s₂) X.xe s₁) X.xe s:=by
 refine thn (ha pins s σ H _ I h) fun v s1 ⟨x,H1,I1,r1,q1⟩=>?_
 refine thn (hb pins s1 σ H1 _ I1 q1) fun u s2 ⟨y,H2,I2,r2,q2⟩=>?_
 exact hf v u s2 x y H2 I2 r1 r2 q2
theorem pe_op {op:Operator}{r:R2}(ho:OpR X (binaryOp op) r)(ha:PE X a ta)(hb:PE X b tb):PE X (.BinOp a op b pos) (tOp r ta tb):=by
 intro pins s σ H Q I h
 exact wpAny_BinOp (binT ha hb I h fun v u s2 x y H2 I2 rx ry q=>ho pins s2 σ H2 x y v u Q I2 rx ry q)
theorem opI {f:Value->Value->Sem Value}{C:Int->Int->Prop}{g:Int->Int->Int}
 (rule:∀(i j:Int) (t u:Tok) (s:Shared) (Q:Value->Shared->Prop) (E:Value->Shared->Prop),C i j->Q (.int (g i j) s.toks) { s with toks:=s.toks+1 }->wpAny (model X.prog X.w) X.A (f (.int i t) (.int j u)) Q E s):
 OpR X f (rI C fun i j=>.int (g i j)):=by
 intro pins s σ H x y v u Q I rx ry h
 obtain⟨i,j,rfl,rfl,hc,q⟩:=h
 obtain⟨t,rfl⟩:=rx
 obtain⟨t',rfl⟩:=ry
 exact rule i j t t' s _ _ hc ⟨.int (g i j),H,I.tok _,⟨_,rfl⟩,q⟩
theorem opI0 {f:Value->Value->Sem Value}{g:Int->Int->Int}
 (rule:∀(i j:Int) (t u:Tok) (s:Shared) (Q:Value->Shared->Prop) (E:Value->Shared->Prop),Q (.int (g i j) s.toks) { s with toks:=s.toks+1 }->wpAny (model X.prog X.w) X.A (f (.int i t) (.int j u)) Q E s):
 OpR X f (rI0 fun i j=>.int (g i j)):=by
 intro pins s σ H x y v u Q I rx ry h
 obtain⟨i,j,rfl,rfl,q⟩:=h
 obtain⟨t,rfl⟩:=rx
 obtain⟨t',rfl⟩:=ry
 exact rule i j t t' s _ _ ⟨.int (g i j),H,I.tok _,⟨_,rfl⟩,q⟩
theorem opB0 {f:Value->Value->Sem Value}{g:Int->Int->Bool}
 (rule:∀(i j:Int) (t u:Tok) (s:Shared) (Q:Value->Shared->Prop) (E:Value->Shared->Prop),Q (.bool (g i j)) s->wpAny (model X.prog X.w) X.A (f (.int i t) (.int j u)) Q E s):
 OpR X f (rI0 fun i j=>.bl (g i j)):=by
 intro pins s σ H x y v u Q I rx ry h
 obtain⟨i,j,rfl,rfl,q⟩:=h
 obtain⟨t,rfl⟩:=rx
 obtain⟨t',rfl⟩:=ry
 exact rule i j t t' s _ _ ⟨.bl (g i j),H,I,rfl,q⟩
def CPow (i j:Int):Prop:=0<=j/\j<=1000000/\i.natAbs<2 ^ 64
theorem op_add:OpR X (binaryOp .Add) (rI0 fun i j=>.int (i+j)):=opI0 fun _ _ _ _ _ _ _ q=>add_int q
theorem op_sub:OpR X (binaryOp .Sub) (rI0 fun i j=>.int (i-j)):=opI0 fun _ _ _ _ _ _ _ q=>sub_int q
theorem op_mod:OpR X (binaryOp .Mod) (rI (fun _ j=>0<j) fun i j=>.int (i%j)):=opI fun i j _ _ _ _ _ hc q=>by
 have h1:(0:Int)<j:=hc
 exact mod_int' (by omega) (by rw [Int.fmod_eq_emod_of_nonneg i (by omega)];exact q)
theorem op_pow:OpR X (binaryOp .Pow) (rI CPow fun i j=>.int (i ^ j.toNat)):=opI fun _ _ _ _ _ _ _ hc q=>pow_int_small hc.1 hc.2.1 hc.2.2 q
end
section
variable {X:Cx}{a b c:Expr}{ta tb tc:TE}{pos:Pos}
theorem fin_bl {pins:List (Addr×Obj)}{σ:St}{H:Hp}{s:Shared}{Q:VK}{k k':Bool}(I:Inv X pins σ H s)(q:Q (.bl k) H)(e:k=k'):EP X pins σ Q (.bool k') s:=by
 subst e
 exact⟨.bl k,H,I,rfl,q⟩
theorem op_lt:OpR X (compareOp .Lt) (rI0 fun i j=>.bl (decide (i<j))):=opB0 fun _ _ _ _ _ _ _ q=>lt_int q
theorem op_le:OpR X (compareOp .LtE) (rI0 fun i j=>.bl (decide (i<=j))):=opB0 fun _ _ _ _ _ _ _ q=>le_int q
theorem op_gt:OpR X (compareOp .Gt) (rI0 fun i j=>.bl (decide (j<i))):=opB0 fun _ _ _ _ _ _ _ q=>gt_int q
theorem op_ge:OpR X (compareOp .GtE) (rI0 fun i j=>.bl (decide (j<=i))):=opB0 fun _ _ _ _ _ _ _ q=>ge_int q
theorem op_in_str:OpR X (compareOp .In) (fun x y H Q=>∃i j,x = .str i/\y = .str j/\Q (.bl (!(Builtin.Str.occurrences j i 0 j.length 1).isEmpty)) H):=by
 intro pins s σ H x y v u Q I rx ry h
 obtain⟨i,j,rfl,rfl,q⟩:=h
 obtain⟨t,rfl⟩:=rx
 obtain⟨t',rfl⟩:=ry
 exact in_str (fin_bl I q rfl)
theorem OpR.or {f:Value->Value->Sem Value}{r r':R2}(h:OpR X f r)(h':OpR X f r'):OpR X f (fun x y H Q=>r x y H Q\/r' x y H Q):=by
 intro pins s σ H x y v u Q I rx ry q
 rcases q with q | q
 ·exact h pins s σ H x y v u Q I rx ry q
 ·exact h' pins s σ H x y v u Q I rx ry q
theorem pe_cmpR {op:CmpOp}{r:R2}(ho:OpR X (compareOp op) r)(ha:PE X a ta)(hb:PE X b tb)(hm:behindInMarks op b=false):PE X (.Compare a [op] [b] pos) (tOp r ta tb):=by
 intro pins s σ H Q I h
 exact wpAny_Compare1 (binT ha hb I h fun v u s2 x y H2 I2 rx ry q=>ho pins s2 σ H2 x y v u Q I2 rx ry q) hm
def tTest (t:TE):TT:=fun σ H Q=>t σ H fun x H'=>∃k,x = .bl k/\Q k H'
theorem pt_cmpR {op:CmpOp}{r:R2}(ho:OpR X (compareOp op) r)(ha:PE X a ta)(hb:PE X b tb)(hm:behindInMarks op b=false):PT X (.Compare a [op] [b] pos) (tTest (tOp r ta tb)):=by
 intro pins s σ H Q I h
 refine wpAny_isTrue_Compare1 (thn (ha pins s σ H _ I h) fun v s1 ⟨x,H1,I1,r1,q1⟩=>thn (hb pins s1 σ H1 _ I1 q1) fun u s2 ⟨y,H2,I2,r2,q2⟩=>
  thn (ho pins s2 σ H2 x y v u _ I2 r1 r2 q2) fun c s3 ⟨z,H3,I3,r3,k,e,q3⟩=>?_) hm
 subst e
 cases r3
 exact wpAny_truthy_bool ⟨H3,I3,q3⟩
def tChain (r r':R2)(ta tb tc:TE):TE:=fun σ H Q=>ta σ H fun x H1=>tb σ H1 fun y H2=>r x y H2 fun z H3=>∃k,z = .bl k /\
 (if k=true then tc σ H3 fun w' H4=>r' y w' H4 Q else Q (.bl false) H3)
theorem pe_chain {op op':CmpOp}{r r':R2}(ho:OpR X (compareOp op) r)(ho':OpR X (compareOp op') r')(ha:PE X a ta)(hb:PE X b tb)(hc:PE X c tc)
 (hm:lastMarks [op,op'] [b,c]=false:=by with_unfolding_all rfl):PE X (.Compare a [op,op'] [b,c] pos) (tChain r r' ta tb tc):=by
 intro pins s σ H Q I h
 refine Compare_chain (thn (ha pins s σ H _ I h) fun v s1 ⟨x,H1,I1,r1,q1⟩=>chain_link (thn (hb pins s1 σ H1 _ I1 q1) fun u s2 ⟨y,H2,I2,r2,q2⟩=>
  thn (ho pins s2 σ H2 x y v u _ I2 r1 r2 q2) fun d s3 ⟨z,H3,I3,r3,k,e,q3⟩=>?_)) hm
 subst e
 cases r3
 refine wpAny_truthy_bool ?_
 cases k with
 | false=>exact ite_ff ⟨.bl false,H3,I3,rfl,q3⟩
 | true=>exact ite_tt (chain_last (thn (hc pins s3 σ H3 _ I3 q3) fun w' s4 ⟨z',H4,I4,r4,q4⟩=>ho' pins s4 σ H4 y z' u w' Q I4 r2 r4 q4))
theorem pt_chain {op op':CmpOp}{r r':R2}(ho:OpR X (compareOp op) r)(ho':OpR X (compareOp op') r')(ha:PE X a ta)(hb:PE X b tb)(hc:PE X c tc)
 (hm:lastMarks [op,op'] [b,c]=false:=by with_unfolding_all rfl):PT X (.Compare a [op,op'] [b,c] pos) (tTest (tChain r r' ta tb tc)):=by
 intro pins s σ H Q I h
 refine isTrue_chain (thn (ha pins s σ H _ I h) fun v s1 ⟨x,H1,I1,r1,q1⟩=>test_link (thn (hb pins s1 σ H1 _ I1 q1) fun u s2 ⟨y,H2,I2,r2,q2⟩=>
  thn (ho pins s2 σ H2 x y v u _ I2 r1 r2 q2) fun d s3 ⟨z,H3,I3,r3,k,e,q3⟩=>?_)) hm
 subst e
 cases r3
 refine wpAny_truthy_bool ?_
 cases k with
 | false=>
  obtain⟨k',e',q'⟩:=q3
  cases e'
  exact ite_ff ⟨H3,I3,q'⟩
 | true=>
  refine ite_tt (test_last (thn (hc pins s3 σ H3 _ I3 q3) fun w' s4 ⟨z',H4,I4,r4,q4⟩=>thn (ho' pins s4 σ H4 y z' u w' _ I4 r2 r4 q4) fun d' s5 ⟨z2,H5,I5,r5,k2,e2,q5⟩=>?_))
  subst e2
  cases r5
  exact wpAny_truthy_bool ⟨H5,I5,q5⟩
def TruV (K:PySem.W.Frag)(x:V)(H:Hp)(k:Bool):Prop:=
 match x with
 | .non=>k=false
 | .bl b=>k=b
 | .int i=>k=(i != 0)
 | .str y=>y.length<=sizeLine/\k=((y.length:Int) != 0)
 | .byt y=>y.size<=sizeLine/\k=((y.size:Int) != 0)
 | .ref p=>(∃xs,SqL K H p xs/\k = !xs.isEmpty)\/(∃xs,SqT K H p xs/\k = !xs.isEmpty)\/∃kvs,H p=some (.dK kvs)/\k = !kvs.isEmpty
 | _=>False
theorem isEmpty_kv {κ:Type}{kvs:List (κ×V)}{vs:List (κ×Value)}(r:KV kvs vs):(!vs.isEmpty) = !kvs.isEmpty:=by
 cases r<;>rfl
theorem isEmpty_of {xs:List V}{its:List Value}(r:Vals xs its):(!its.toArray.isEmpty) = !xs.isEmpty:=by
 cases r<;>simp
theorem line63:(sizeLine:Nat)<2 ^ 63:=by rw [sizeLine_eq];decide
theorem tru_ok:TruR X (fun x H Q=>∃k,TruV X.K x H k/\Q k H):=by
 intro pins s σ H x v Q I rx h
 obtain⟨k,e,q⟩:=h
 have hl:=line63
 have hs:sizeLine=16777216:=sizeLine_eq
 cases x with
 | non=>
  cases rx
  have e':k=false:=e
  subst e'
  exact truthy_none ⟨H,I,q⟩
 | bl b=>
  cases rx
  have e':k=b:=e
  subst e'
  exact wpAny_truthy_bool ⟨H,I,q⟩
 | int i=>
  obtain⟨t,rfl⟩:=rx
  have e':k=(i != 0):=e
  subst e'
  exact PySem.P.truthy_int ⟨H,I,q⟩
 | str y=>
  obtain⟨t,rfl⟩:=rx
  obtain⟨hy,e'⟩:y.length<=sizeLine/\k=((y.length:Int) != 0):=e
  subst e'
  exact PySem.P.truthy_str (by omega) ⟨H,I.tok _,q⟩
 | byt y=>
  obtain⟨t,rfl⟩:=rx
  obtain⟨hy,e'⟩:y.size<=sizeLine/\k=((y.size:Int) != 0):=e
  subst e'
  exact PySem.W.truthy_bytes (by omega) ⟨H,I.tok _,q⟩
 | ref p=>
  cases rx
  have e':(∃xs,SqL X.K H p xs/\k = !xs.isEmpty)\/(∃xs,SqT X.K H p xs/\k = !xs.isEmpty)\/∃kvs,H p=some (.dK kvs)/\k = !kvs.isEmpty:=e
  rcases e' with⟨xs,hx,e'⟩|⟨xs,hx,e'⟩|⟨kvs,hx,e'⟩
  ·subst e'
   obtain⟨its,r,pl,hz⟩:=I.list hx
   have hlen:=r.length
   exact wpAny_truthy_list pl.isList (by simp only [List.size_toArray];omega) ⟨H,I.tok _,by rw [isEmpty_of r];exact q⟩
  ·subst e'
   obtain⟨its,r,pl,hz⟩:=I.tuple hx
   have hlen:=r.length
   exact truthy_tuple pl (by simp only [List.size_toArray];omega) ⟨H,I.tok _,by rw [isEmpty_of r];exact q⟩
  ·subst e'
   obtain⟨hz,hS,vs,r,m⟩:kvs.length<=sizeLine/\(p==sysModules)=false/\∃vs,KV kvs vs/\s.heap.DictOf (mixKind X.prog X.w) p vs:=I.hok p _ hx
   have hlen:kvs.length=vs.length:=Paired.length r
   exact wpAny_truthy_dict hS m (by omega) ⟨H,I.tok _,by rw [isEmpty_kv r];exact q⟩
 | _=>exact (show False from e).elim
theorem pt_truth (ha:PE X a ta)(he:∀whole,isTrue a X.env whole=(do let v <-whole;standAt a.pos;holding [v] (truthy v))):
 PT X a (fun σ H Q=>ta σ H fun x H'=>∃k,TruV X.K x H' k/\Q k H'):=by
 intro pins s σ H Q I h
 exact isTrue_plain (thn (ha pins s σ H _ I h) fun v s1 ⟨x,H1,I1,r1,q1⟩=>tru_ok pins s1 σ H1 x v Q I1 r1 q1) (he _)
theorem vals1 {x:V}{us:List Value}(r:Vals [x] us):∃u,us=[u]/\RelV x u:=by
 cases r with
 | cons r1 r2=>cases r2;exact⟨_,rfl,r1⟩
theorem vals2 {x y:V}{us:List Value}(r:Vals [x,y] us):∃u w',us=[u,w']/\RelV x u/\RelV y w':=by
 cases r with
 | cons r1 r2=>
  cases r2 with
  | cons r3 r4=>cases r4;exact⟨_,_,rfl,r1,r3⟩
theorem call_max2 (hc:X.calm=true):CallR X (.builtin "max") (fun xs H Q=>∃i j,xs=[.int i,.int j]/\Q (.int (if j > i then j else i)) H):=by
 intro pins s σ H xs us Q I r h
 obtain⟨i,j,rfl,q⟩:=h
 obtain⟨u,w',rfl,⟨t,rfl⟩,⟨t',rfl⟩⟩:=vals2 r
 refine max_two_ints (I.ok.hd hc) fun h' tk k=>⟨_,H,I.kept k,?_,q⟩
 by_cases hj:j > i
 ·rw [if_pos hj,if_pos hj];exact⟨_,rfl⟩
 ·rw [if_neg hj,if_neg hj];exact⟨_,rfl⟩
theorem call_min2 (hc:X.calm=true):CallR X (.builtin "min") (fun xs H Q=>∃i j,xs=[.int i,.int j]/\Q (.int (if j<i then j else i)) H):=by
 intro pins s σ H xs us Q I r h
 obtain⟨i,j,rfl,q⟩:=h
 obtain⟨u,w',rfl,⟨t,rfl⟩,⟨t',rfl⟩⟩:=vals2 r
 refine min_two_ints (I.ok.hd hc) fun h' tk k=>⟨_,H,I.kept k,?_,q⟩
 by_cases hj:j<i
 ·rw [if_pos hj,if_pos hj];exact⟨_,rfl⟩
 ·rw [if_neg hj,if_neg hj];exact⟨_,rfl⟩
def LenV (K:PySem.W.Frag)(x:V)(H:Hp)(n:Nat):Prop:=
 match x with
 | .str y=>y.length<=sizeLine/\n=y.length
 | .byt y=>y.size<=sizeLine/\n=y.size
 | .ref p=>(∃xs,SqL K H p xs/\n=xs.length)\/∃xs,SqT K H p xs/\n=xs.length
 | _=>False
theorem call_len:CallR X (.builtin "len") (fun xs H Q=>∃x n,xs=[x]/\LenV X.K x H n/\Q (.int n) H):=by
 intro pins s σ H xs us Q I r h
 obtain⟨x,n,rfl,e,q⟩:=h
 obtain⟨u,rfl,rx⟩:=vals1 r
 have hl:=line63
 have hs:sizeLine=16777216:=sizeLine_eq
 cases x with
 | str y=>
  obtain⟨t,rfl⟩:=rx
  obtain⟨hy,e'⟩:y.length<=sizeLine/\n=y.length:=e
  subst e'
  exact len_str (by omega) ⟨.int _,H,I.tok _,⟨_,rfl⟩,q⟩
 | byt y=>
  obtain⟨t,rfl⟩:=rx
  obtain⟨hy,e'⟩:y.size<=sizeLine/\n=y.size:=e
  subst e'
  exact PySem.W.len_bytes (by omega) ⟨.int _,H,I.tok _,⟨_,rfl⟩,q⟩
 | ref p=>
  cases rx
  have e':(∃xs,SqL X.K H p xs/\n=xs.length)\/∃xs,SqT X.K H p xs/\n=xs.length:=e
  rcases e' with⟨xs,hx,e'⟩|⟨xs,hx,e'⟩
  ·subst e'
   obtain⟨its,r',pl,hz⟩:=I.list hx
   have hlen:=r'.length
   exact Calls.call_len_list pl.isList (by simp only [List.size_toArray];omega) ⟨.int xs.length,H,I.tok _,⟨_,by simp only [List.size_toArray];rw [hlen]⟩,q⟩
  ·subst e'
   obtain⟨its,r',pl,hz⟩:=I.tuple hx
   have hlen:=r'.length
   exact len_tuple pl (by simp only [List.size_toArray];omega) ⟨.int xs.length,H,I.tok _,⟨_,by simp only [List.size_toArray];rw [hlen]⟩,q⟩
 | _=>exact (show False from e).elim
end
structure ObjM (h:Heap)(x dx C:Addr)(mA:Str->Option Value):Prop where
 obj:h.get? x=some (PySem.W.instObj C dx)
 ns:h.Ns1 dx mA
 ne:dx≠x
theorem lookIn_ns {h:Heap}{dx:Addr}{mA:Str->Option Value}(n:h.Ns1 dx mA):∃od,h.get? dx=some od/\∀name,PySem.W.lookIn name od=some (mA name):=by
 obtain⟨o,es,ep,ho,hd,hk,_,hm⟩:=n
 refine⟨o,ho,fun name=>?_⟩
 have e:=hm name
 unfold nsFind findBy at e
 rw [<-Array.find?_toList] at e
 unfold PySem.W.lookIn
 rw [hd]
 dsimp only
 split
 ·rename_i y q
  rw [q] at e
  exact congrArg some e
 ·rename_i q
  rw [q] at e
  have a:es.toList.any (·.refKey)=false:=by
   rw [List.any_eq_false]
   intro y hy
   obtain⟨z,t,hkey⟩:=hk y (Array.mem_toList_iff.mp hy)
   simp [DictEntry.refKey,hkey]
  have a':¬es.toList.any (·.refKey)=true:=by rw [a];exact Bool.false_ne_true
  rw [if_neg a']
  exact congrArg some e
theorem ObjM.look {h:Heap}{x dx C:Addr}{mA:Str->Option Value}(I:ObjM h x dx C mA):∃od,PySem.W.InstAt h x (PySem.W.instObj C dx) C (some od)/\∀name,PySem.W.lookIn name od=some (mA name):=
 let ⟨od,ho,hl⟩:=lookIn_ns I.ns
 ⟨od,⟨I.obj,rfl,rfl,ho⟩,hl⟩
section
variable {prog:Program}{w:World}{A:Around}{E:Value->Shared->Prop}{s:Shared}{K:PySem.W.Frag}{x dx C f:Addr}{mA:Str->Option Value}{name:Str}{v:Value}
theorem get_map {expr:Bool}{Q:Value->Shared->Prop}(X:K.In s.heap)(I:ObjM s.heap x dx C mA)(hg:PySem.W.plainGet K C name=true)(hh:PySem.W.hasDictIn K C=true)
 (ha:PySem.W.findIn K (.ref C) name=some none) (hv:mA name=some v) (hv':PySem.W.handedIn v=true) (h:Q v { s with toks:=s.toks+1 }):
 wpAny (model prog w) A (getAttr (.ref x) name expr) Q E s:=by
 obtain⟨od,J,hl⟩:=I.look
 exact PySem.W.get_value X J (PySem.W.plainGet_of hg).1 (PySem.W.findObj_own hh ha rfl (by rw [hl,hv])) hv' h
theorem get_meth {pl:Sem Bool}{Q:Value×List Value->Shared->Prop}(X:K.In s.heap)(I:ObjM s.heap x dx C mA)(hg:PySem.W.plainGet K C name=true)
 (hf:PySem.W.findIn K (.ref C) name=some (some (.ref f))) (ht:PySem.W.isFn K (.ref f)=true) (hv:mA name=none) (h:Q (.ref f,[.ref x]) s):
 wpAny (model prog w) A (getMethod (.ref x) name pl) Q E s:=by
 obtain⟨od,J,hl⟩:=I.look
 exact PySem.W.method_fn X J (PySem.W.plainGet_of hg).1 (PySem.W.plainGet_of hg).2 hf (beq_iff_eq.mp ht) (by show (PySem.W.lookIn name od).map (·.isSome)=some false;rw [hl,hv];rfl) h
theorem set_map {ns:List Str}{Q:Unit->Shared->Prop}(X:K.In s.heap)(I:ObjM s.heap x dx C mA)
 (hs:PySem.W.findIn K (.ref C) "__setattr__" = some (some (.builtin "object.__setattr__"))) (hp:PySem.W.plainOver K C=true) (ht:PySem.W.takerIn K C name=some none) (hh:PySem.W.hasDictIn K C=true)
 (hw:PySem.Within mA ns) (hsz:ns.length<=sizeLine)
 (h:∀h',ObjM h' x dx C (fun y=>if y=name then some v else mA y)->Heap.SameBut dx s.heap h'->Q () { s with heap:=h',toks:=s.toks+2 }):
 wpAny (model prog w) A (setAttr (.ref x) name v) Q E s:=by
 obtain⟨od,J,hl⟩:=I.look
 refine PySem.W.set_plain X J hs (PySem.W.osa_open (s:={ s with toks:=s.toks+1 }) (r:=none) X J hp ht fun b=>?_)
 obtain⟨cd,hc,hd'⟩:=PySem.W.any_some hh
 have hx:s.heap.get? x=some ⟨.ref C,some dx,.plain,#[]⟩:=I.obj
 refine wpAny_bind (wpAny_pure (wpAny_bind (wpAny_bind (wpAny_loadPart hx (wpAny_bind (PySem.W.Looks.here (s:={ s with toks:=s.toks+1 }) (PySem.W.looks_clsIn X hc) ?_))))))
 rw [hd']
 refine wpAny_pure (a:=some dx) (wpAny_bind (wpAny_pure (wpAny_bind ?_)))
 refine wpAny_nsSet1 (s:={ s with toks:=s.toks+1 }) I.ns fun h' hn2 hs2=>?_
 obtain⟨oD,esD,epD,hoD,hdD,hcD⟩:=hn2.count (PySem.Within.cons name v hw)
 refine wpAny_bind (wpAny_lookBehind hoD (by rw [hdD];exact pastItsLine_dict (Nat.le_trans hcD (by rw [List.length_cons];omega))) ?_)
 exact wpAny_pure (h _ ⟨(hs2.2 _ (Ne.symm I.ne)).trans I.obj,hn2,I.ne⟩ hs2)
theorem make_map {R:Result->Shared->Prop}{vs:List Value}{kw:List (Str×Value)}(X:K.In s.heap)(hm:PySem.W.makesIn K C=true)
 (hi:PySem.W.findIn K (.ref C) "__init__" = some (some (.ref f))) (hf:PySem.W.typeIn K (.ref f)=some (.type "function"))
 (h:codeAny (model prog w) (A.under (.builtin "type.__call__" ⟨.ref C::vs,kw⟩)) (.call (.ref f) ⟨.ref (s.heap.objs.size+1)::vs,kw⟩) (PySem.W.InitBack (s.heap.objs.size+1) R)
   { s with heap:=(s.heap.push PySem.W.emptyDict).push (PySem.W.instObj C s.heap.objs.size) }):
 codeAny (model prog w) A (.call (.ref C) ⟨vs,kw⟩) R s:=by
 obtain⟨hh,g,d,t,os⟩:=s
 exact PySem.W.make_core (PySem.W.makes_of X hm) (PySem.W.looks_findIn X hi) (fun self=>PySem.W.bind_fn X self hf) (.inl rfl) h
end
def putF (f:Str)(v:V):List (Str×V)->List (Str×V)
 | []=>[(f,v)]
 | (g,x)::r=>if g=f then (g,v)::r else (g,x)::putF f v r
theorem lookup_putF (f g:Str)(v:V):∀fs:List (Str×V),(putF f v fs).lookup g=if g=f then some v else fs.lookup g
 | []=>by
  show List.lookup g [(f,v)]=_
  by_cases h:g=f
  ·have hb:(g==f)=true:=beq_iff_eq.mpr h
   simp only [List.lookup,hb,if_pos h]
  ·have hb:(g==f)=false:=beq_eq_false_iff_ne.mpr h
   simp only [List.lookup,hb,if_neg h]
 | (k,x)::r=>by
  have ih:=lookup_putF f g v r
  rw [show putF f v ((k,x)::r)=(if k=f then (k,v)::r else (k,x)::putF f v r) from rfl]
  by_cases hk:k=f
  ·rw [if_pos hk]
   by_cases h:g=k
   ·have hb:(g==k)=true:=beq_iff_eq.mpr h
    simp only [List.lookup,hb,if_pos (h.trans hk)]
   ·have hb:(g==k)=false:=beq_eq_false_iff_ne.mpr h
    simp only [List.lookup,hb,if_neg (fun e:g=f=>h (e.trans hk.symm))]
  ·rw [if_neg hk]
   by_cases h:g=k
   ·have hb:(g==k)=true:=beq_iff_eq.mpr h
    simp only [List.lookup,hb,if_neg (fun e:g=f=>hk (h.symm.trans e))]
   ·have hb:(g==k)=false:=beq_eq_false_iff_ne.mpr h
    simp only [List.lookup,hb]
    exact ih
theorem keys_putF (f:Str)(v:V):∀fs:List (Str×V),f∈(putF f v fs).map (·.1)/\∀g,g∈fs.map (·.1)->g∈(putF f v fs).map (·.1)
 | []=>⟨by simp [putF],fun g h=>by simp at h⟩
 | (k,x)::r=>by
  obtain⟨i1,i2⟩:=keys_putF f v r
  rw [show putF f v ((k,x)::r)=(if k=f then (k,v)::r else (k,x)::putF f v r) from rfl]
  by_cases hk:k=f
  ·rw [if_pos hk]
   subst hk
   exact⟨by simp,fun g h=>by simpa using h⟩
  ·rw [if_neg hk]
   refine⟨?_,fun g h=>?_⟩
   ·rw [List.map_cons]
    exact List.mem_cons_of_mem _ i1
   ·rw [List.map_cons] at h ⊢
    rcases List.mem_cons.mp h with e | e
    ·exact List.mem_cons.mpr (.inl e)
    ·exact List.mem_cons_of_mem _ (i2 g e)
theorem length_putF (f:Str)(v:V):∀fs:List (Str×V),(putF f v fs).length<=fs.length+1
 | []=>by simp [putF]
 | (k,x)::r=>by
  have ih:=length_putF f v r
  rw [show putF f v ((k,x)::r)=(if k=f then (k,v)::r else (k,x)::putF f v r) from rfl]
  by_cases hk:k=f
  ·rw [if_pos hk,List.length_cons,List.length_cons];omega
  ·rw [if_neg hk,List.length_cons,List.length_cons];omega
theorem RelO.some_of {v:V}{o:Option Value}(r:RelO (some v) o):∃u,o=some u/\RelV v u:=by
 cases o with
 | none=>exact (show False from r).elim
 | some u=>exact⟨u,rfl,r⟩
theorem RelO.none_of {o:Option Value}(r:RelO none o):o=none:=by
 cases o with
 | none=>rfl
 | some u=>exact (show False from r).elim
theorem handed_of {v:V}{u:Value}(r:RelV v u):PySem.W.handedIn u=true:=by
 cases v with
 | non=>cases (show u=Value.none from r);rfl
 | bl b=>cases (show u=Value.bool b from r);rfl
 | int i=>obtain⟨t,e⟩:=(show ∃t,u=Value.int i t from r);cases e;rfl
 | str x=>obtain⟨t,e⟩:=(show ∃t,u=Value.str x t from r);cases e;rfl
 | byt b=>obtain⟨t,e⟩:=(show ∃t,u=Value.bytes b t from r);cases e;rfl
 | flt b=>obtain⟨t,e⟩:=(show ∃t,u=Value.float b t from r);cases e;rfl
 | ref a=>cases (show u=Value.ref a from r);rfl
 | ty n=>cases (show u=Value.type n from r);rfl
section
variable {P:Program}{w:World}{H H':Hp}{h h':Heap}{a C dx:Addr}{fs fs':List (Str×V)}
theorem ins_get (hok:HOk P w H h)(e:H a=some (.ins C dx fs)):∃mA,ObjM h a dx C mA/\(∀f,RelO (fs.lookup f) (mA f))/\PySem.Within mA (fs.map (·.1))/\fs.length<=1000/\H dx=some (.own a):=by
 obtain⟨d,z,ne,ob,mA,n,r,q⟩:=(show ObjOk P w H h a (.ins C dx fs) from hok a _ e)
 exact⟨mA,⟨ob,n,ne⟩,r,q,z,d⟩
end
structure Cls (K:PySem.W.Frag)(C:Addr):Prop where
 pg:PySem.W.plainGet K C Str.empty=true
 hd:PySem.W.hasDictIn K C=true
 po:PySem.W.plainOver K C=true
 sa:PySem.W.findIn K (.ref C) "__setattr__" = some (some (.builtin "object.__setattr__"))
theorem Cls.get {K:PySem.W.Frag}{C:Addr}(c:Cls K C)(f:Str):PySem.W.plainGet K C f=true:=c.pg
def NoAttr (K:PySem.W.Frag)(C:Addr)(f:Str):Prop:=PySem.W.findIn K (.ref C) f=some none
theorem NoAttr.taker {K:PySem.W.Frag}{C:Addr}{f:Str}(n:NoAttr K C f):PySem.W.takerIn K C f=some none:=by
 unfold PySem.W.takerIn
 rw [show PySem.W.findIn K (.ref C) f=some none from n]
 rfl
structure Meth (K:PySem.W.Frag)(C:Addr)(m:Str)(f:Addr):Prop where
 at_:PySem.W.findIn K (.ref C) m=some (some (.ref f))
 fn:PySem.W.isFn K (.ref f)=true
 kp:PySem.W.keepIn K (.ref f)=true
section
variable {X:Cx}{pins:List (Addr×Obj)}{σ:St}{H:Hp}{s:Shared}{a C dx:Addr}{fs:List (Str×V)}{f:Str}{v:V}{A:Around}{E:Value->Shared->Prop}
theorem getattr_ok {b:Bool}{Q:Value->Shared->Prop}(I:Inv X pins σ H s)(e:H a=some (.ins C dx fs))(c:Cls X.K C)(n:NoAttr X.K C f)(l:fs.lookup f=some v)
 (h:∀u s',Inv X pins σ H s'->RelV v u->Q u s'):wpAny (model X.prog X.w) A (getAttr (.ref a) f b) Q E s:=by
 obtain⟨mA,O,r,_,_,_⟩:=ins_get I.hok e
 obtain⟨u,hu,ru⟩:=RelO.some_of (v:=v) (o:=mA f) (by rw [<-l];exact r f)
 exact get_map I.kIn O (c.get f) c.hd n hu (handed_of ru) (h u _ (I.tok _) ru)
theorem getmeth_ok {m:Str}{g:Addr}{pl:Sem Bool}{Q:Value×List Value->Shared->Prop}(I:Inv X pins σ H s)(e:H a=some (.ins C dx fs))(c:Cls X.K C)(k:Meth X.K C m g)(l:fs.lookup m=none)
 (h:Q (.ref g,[.ref a]) s):wpAny (model X.prog X.w) A (getMethod (.ref a) m pl) Q E s:=by
 obtain⟨mA,O,r,_,_,_⟩:=ins_get I.hok e
 have hn:mA m=none:=RelO.none_of (by rw [<-l];exact r m)
 exact get_meth I.kIn O (c.get m) k.at_ k.fn hn h
theorem setattr_ok {y:V}{u:Value}{Q:Unit->Shared->Prop}(I:Inv X pins σ H s)(e:H a=some (.ins C dx fs))(c:Cls X.K C)(n:NoAttr X.K C f)(hl:fs.length<1000)(ry:RelV y u)
 (h:∀s',Inv X pins σ (upd H a (.ins C dx (putF f y fs))) s'->Q () s'):wpAny (model X.prog X.w) A (setAttr (.ref a) f u) Q E s:=by
 obtain⟨mA,O,r,wi,_,ho⟩:=ins_get I.hok e
 have hz:(fs.map (·.1)).length<=sizeLine:=by rw [List.length_map,sizeLine_eq];omega
 refine set_map I.kIn O c.sa c.po n.taker c.hd wi hz fun h' O' sb=>h _ ?_
 have hd:∃o,h'.get? dx=some o:=let ⟨o,_,_,e',_⟩:=O'.ns;⟨o,e'⟩
 refine I.write (x:=a) (e:=dx) (by rw [e];exact True.intro) (.inr ho) (fun b q hb z=>(sb.2 b hb).trans z) hd ?_
 refine⟨by rw [upd_ne O.ne];exact ho,?_,O.ne,O'.obj,_,O'.ns,fun g=>?_,fun g hg=>?_⟩
 ·have:=length_putF f y fs;omega
 ·show RelO ((putF f y fs).lookup g) (if g=f then some u else mA g)
  rw [lookup_putF]
  by_cases q:g=f
  ·rw [if_pos q,if_pos q];exact ry
  ·rw [if_neg q,if_neg q];exact r g
 ·by_cases q:g=f
  ·rw [q];exact (keys_putF f y fs).1
  ·refine (keys_putF f y fs).2 g (wi g fun z=>hg ?_)
   show (if g=f then some u else mA g)=none
   rw [if_neg q];exact z
theorem Inv.made (I:Inv X pins σ H s):Inv X pins σ (upd (upd H s.heap.objs.size (.own (s.heap.objs.size+1))) (s.heap.objs.size+1) (.ins C s.heap.objs.size []))
 { s with heap:=(s.heap.push PySem.W.emptyDict).push (PySem.W.instObj C s.heap.objs.size) }:=by
 have e1:(s.heap.push PySem.W.emptyDict).get? s.heap.objs.size=some PySem.W.emptyDict:=Heap.get?_push_size s.heap rfl
 have e2:((s.heap.push PySem.W.emptyDict).push (PySem.W.instObj C s.heap.objs.size)).get? (s.heap.objs.size+1)=some (PySem.W.instObj C s.heap.objs.size):=by
  have:=Heap.get?_push_size (s.heap.push PySem.W.emptyDict) (o:=PySem.W.instObj C s.heap.objs.size) rfl
  rwa [Heap.size_push] at this
 have e3:(s.heap.push PySem.W.emptyDict).Ns s.heap.objs.size (fun _=>none):=⟨PySem.W.emptyDict,#[],_,e1,rfl,(fun e he=>absurd he (by simp)),fun _=>rfl⟩
 have I1:=I.laid (a:=s.heap.objs.size) (o:=.own (s.heap.objs.size+1)) (h':=s.heap.push PySem.W.emptyDict) (t':=s.toks) (fun b u q=>Heap.get?_push_of_some _ q) (Nat.le_refl _) ⟨_,e1⟩
 refine I1.laid (a:=s.heap.objs.size+1) (o:=.ins C s.heap.objs.size []) (t':=s.toks) (fun b u q=>Heap.get?_push_of_some _ q) (Nat.le_of_eq (Heap.size_push _ _)) ?_
 have ne:s.heap.objs.size≠s.heap.objs.size+1:=Nat.ne_of_lt (Nat.lt_succ_self _)
 refine⟨by rw [upd_ne ne,upd_same],Nat.zero_le _,ne,e2,fun _=>none,(Heap.Ns1.of_empty e3).at fun o q=>Heap.get?_push_of_some _ q,fun _=>True.intro,fun y hy=>absurd rfl hy⟩
theorem attr_of {prog:Program}{w:World}{env:Env}{e:Expr}{f:Str}{pos:Pos}{s:Shared}{Q:Value->Shared->Prop}(hb:attributeBase e f env (eval e env)=eval e env)
 (h:wpAny (model prog w) A (eval e env) (fun o s₁=>wpAny (model prog w) A (getAttr o f true) Q E s₁) E s):wpAny (model prog w) A (eval (.Attribute e f pos) env) Q E s:=
 Attribute_any_ h (by rw [arm_eval_Attribute,hb])
end
def tFld (K:PySem.W.Frag)(ta:TE)(f:Str):TE:=fun σ H Q=>ta σ H fun x H1=>∃a C dx fs v,x = .ref a/\H1 a=some (.ins C dx fs)/\Cls K C/\NoAttr K C f/\fs.lookup f=some v/\Q v H1
def sFld (K:PySem.W.Frag)(ta tv:TE)(f:Str):TS:=fun D σ H=>tv σ H fun y H1=>ta σ H1 fun x H2=>∃a C dx fs,x = .ref a/\H2 a=some (.ins C dx fs)/\Cls K C/\NoAttr K C f/\fs.length<1000 /\
 D.nx σ (upd H2 a (.ins C dx (putF f y fs)))
section
variable {X:Cx}{o e value:Expr}{f:Str}{pos pos' tpos:Pos}{ta tv:TE}
theorem pe_fld (he:PE X e ta)(hb:attributeBase e f X.env (eval e X.env)=eval e X.env):PE X (.Attribute e f pos) (tFld X.K ta f):=by
 intro pins s σ H Q I h
 refine attr_of hb (thn (he pins s σ H _ I h) fun u s1 ⟨x,H1,I1,rx,a,C,dx,fs,v,ex,ea,c,n,l,q⟩=>?_)
 subst ex
 obtain rfl:u=Value.ref a:=rx
 exact getattr_ok I1 ea c n l fun u' s2 I2 ru=>⟨v,H1,I2,ru,q⟩
theorem ps_fld (ha:PE X o ta)(hv:PE X value tv)(hs:swapsWith value (some (.Attribute o f pos')) pos.line X.env=pure false):PS X (.Assign [.Attribute o f pos'] value pos) (sFld X.K ta tv f):=by
 intro pins s σ H D I h
 refine plainObj_wpAny_Assign_Attribute (thn (hv pins s σ H _ I h) fun u s1 ⟨y,H1,I1,ry,q⟩=>thn (ha pins s1 σ H1 _ I1 q) fun ov s2 ⟨x,H2,I2,rx,a,C,dx,fs,ex,ea,c,n,l,q2⟩=>?_) hs
 subst ex
 obtain rfl:ov=Value.ref a:=rx
 exact setattr_ok I2 ea c n l ry fun s3 I3=>⟨σ,_,I3,q2⟩
end
section
variable {X:Cx}{pins:List (Addr×Obj)}{σ:St}{H:Hp}{s:Shared}{A:Around}{E:Value->Shared->Prop}{Q:Value->Shared->Prop}{c:Value}{b:Bool}
inductive TyOf (K:PySem.W.Frag) (H:Hp):V->Value->Prop where
 | non:TyOf K H .non (.type "NoneType")
 | bl (x:Bool):TyOf K H (.bl x) (.type "bool")
 | int (i:Int):TyOf K H (.int i) (.type "int")
 | str (x:Str):TyOf K H (.str x) (.type "str")
 | flt (x:UInt64):TyOf K H (.flt x) (.type "float")
 | lst {a:Addr} {xs:List V} (e:H a=some (.lst xs)):TyOf K H (.ref a) (.type "list")
 | frz {a:Addr} {o:Obj} {xs:List V} (e:H a=some (.frz o (.lst xs))):TyOf K H (.ref a) (.type "list")
 | tup {a:Addr} {xs:List V} (e:H a=some (.tup xs)):TyOf K H (.ref a) (.type "tuple")
 | dK {a:Addr} {kvs:List (Key×V)} (e:H a=some (.dK kvs)):TyOf K H (.ref a) (.type "dict")
 | dT {a:Addr} {kvs:List (List Key×V)} (e:H a=some (.dT kvs)):TyOf K H (.ref a) (.type "dict")
 | ins {a C dx:Addr} {fs:List (Str×V)} (e:H a=some (.ins C dx fs)) (cl:Cls K C) (ha:PySem.W.findIn K (.ref C) "__class__" = some (some (.builtin "object.__class__")))
  (hn:PySem.W.specialIn K (.builtin "object.__class__") "__get__" = some (some (.builtin "getset_descriptor.__get__"))) (htk:PySem.W.takesIn K (.builtin "object.__class__")=some true)
  (hm:PySem.W.mroIn K C (.type "object")=some true):TyOf K H (.ref a) (.ref C)
theorem isinst_ok {x:V}{u t:Value}(I:Inv X pins σ H s)(rx:RelV x u)(ty:TyOf X.K H x t)(e:PySem.W.kitOne X.K t c=some b)(h:∀tk,Q (.bool b) { s with toks:=tk }):
 wpAny (model X.prog X.w) A (call (.builtin "isinstance") [u,c]) Q E s:=by
 cases ty with
 | non=>cases (show u=Value.none from rx);exact PySem.W.kia_one PySem.W.kitx_none I.kIn True.intro e (fun z=>nomatch z) h
 | bl y=>cases (show u=Value.bool y from rx);exact PySem.W.kia_one PySem.W.kitx_bool I.kIn True.intro e (fun z=>nomatch z) h
 | int i=>obtain⟨t,q⟩:=(show ∃t,u=Value.int i t from rx);cases q;exact PySem.W.kia_one PySem.W.kitx_int I.kIn True.intro e (fun z=>nomatch z) h
 | str y=>obtain⟨t,q⟩:=(show ∃t,u=Value.str y t from rx);cases q;exact PySem.W.kia_one PySem.W.kitx_str I.kIn True.intro e (fun z=>nomatch z) h
 | flt y=>obtain⟨t,q⟩:=(show ∃t,u=Value.float y t from rx);cases q;exact PySem.W.kia_one PySem.W.kitx_float I.kIn True.intro e (fun z=>nomatch z) h
 | @lst a xs ea=>
  cases (show u=Value.ref a from rx)
  obtain⟨_,_,n,_,h1⟩:=(show ObjOk X.prog X.w H s.heap a (.lst xs) from I.hok a _ ea)
  exact PySem.W.kia_one PySem.W.kitx_list I.kIn ⟨_,h1,rfl⟩ e (fun z=>nomatch z) h
 | @frz a ob xs ea=>
  cases (show u=Value.ref a from rx)
  obtain⟨_,_,_,n,_,h1⟩:=(show ObjOk X.prog X.w H s.heap a (.frz ob (.lst xs)) from I.hok a _ ea)
  exact PySem.W.kia_one PySem.W.kitx_list I.kIn ⟨_,h1,rfl⟩ e (fun z=>nomatch z) h
 | @tup a xs ea=>
  cases (show u=Value.ref a from rx)
  obtain⟨_,_,_,p⟩:=(show ObjOk X.prog X.w H s.heap a (.tup xs) from I.hok a _ ea)
  obtain⟨o,h1,h2,_⟩:=p
  exact PySem.W.kia_one PySem.W.kitx_tuple I.kIn ⟨o,h1,h2⟩ e (fun z=>nomatch z) h
 | @dK a kvs ea=>
  cases (show u=Value.ref a from rx)
  obtain⟨_,_,vs,_,p⟩:=(show ObjOk X.prog X.w H s.heap a (.dK kvs) from I.hok a _ ea)
  obtain⟨o,es,ep,h1,h2,_⟩:=p
  exact PySem.W.kia_one PySem.W.kitx_dict I.kIn ⟨o,h1,h2.1⟩ e (fun z=>nomatch z) h
 | @dT a kvs ea=>
  cases (show u=Value.ref a from rx)
  obtain⟨_,_,xs,_,o,es,ep,h1,h2,_⟩:=(show ObjOk X.prog X.w H s.heap a (.dT kvs) from I.hok a _ ea)
  exact PySem.W.kia_one PySem.W.kitx_dict I.kIn ⟨o,h1,h2.1⟩ e (fun z=>nomatch z) h
 | @ins a C dx fs ea cl ha hn htk hm=>
  cases (show u=Value.ref a from rx)
  obtain⟨mA,O,_⟩:=ins_get I.hok ea
  obtain⟨od,J,_⟩:=O.look
  exact PySem.W.kia_one (PySem.W.kitx_own (cl.get _) cl.hd ha hn htk hm) I.kIn J e (fun z=>nomatch z) h
end
structure Room (k:Nat)(A:Around):Prop where
 hd:A.handled=none
 dp:A.depth+3*k+5<recursionLimit
 un:A.units+16*k+200<cLine
theorem Room.mono {j k:Nat}{A:Around}(r:Room k A)(h:j<=k):Room j A:=⟨r.hd,by have:=r.dp;omega,by have:=r.un;omega⟩
theorem Room.deeper {k:Nat}{A:Around}(r:Room (k+1) A)(env:Env):Room k (A.deeper env):=
 ⟨r.hd,by have:=r.dp;show A.depth+1+3*k+5<_;omega,by have:=r.un;show A.units+3+16*k+200<_;omega⟩
theorem make_depth {A:Around}{C:Addr}{us:List Value}{kw:List (Str×Value)}:(A.under (.builtin "type.__call__" ⟨.ref C::us,kw⟩)).depth=A.depth+1:=by
 first | rfl | simp [Around.under,Code.weight,Code.isCreation,Code.isGuard,Code.isCaller,Code.frames,Code.isFrame,guardIds]
theorem make_units {A:Around}{C:Addr}{us:List Value}{kw:List (Str×Value)}:(A.under (.builtin "type.__call__" ⟨.ref C::us,kw⟩)).units=A.units+1:=by
 first | rfl | simp [Around.under,Code.cUnits,Code.frames,Code.isFrame]
theorem Room.make {k:Nat}{A:Around}(r:Room (k+1) A)(C:Addr)(us:List Value)(kw:List (Str×Value)):Room k (A.under (.builtin "type.__call__" ⟨.ref C::us,kw⟩)):=
 ⟨r.hd,by have:=r.dp;rw [make_depth];omega,by have:=r.un;rw [make_units];omega⟩
theorem Room.depth {k:Nat}{A:Around}(r:Room k A):A.depth<recursionLimit:=by have:=r.dp;omega
theorem Room.units {k:Nat}{A:Around}(r:Room k A):A.units+64<cLine:=by have:=r.un;omega
def tNil:TA:=fun _ H Q=>Q [] H
def tCons (ta:TE)(tr:TA):TA:=fun σ H Q=>ta σ H fun x H1=>tr σ H1 fun xs H2=>Q (x::xs) H2
section
variable {X:Cx}{e:Expr}{es:List Expr}{te:TE}{t:TA}{pos:Pos}
theorem pa_nil:PA X [] tNil:=fun _ _ _ _ H Q I h=>Calls.spliced_nil ⟨[],H,I,.nil,h⟩
theorem pa_cons (ha:PE X e te)(hr:PA X es t)(hs:starEach (e::es) X.env=(false,eval e X.env)::starEach es X.env:=by rfl):PA X (e::es) (tCons te t):=by
 intro pos pins s σ H Q I h
 rw [hs]
 show wpAny _ _ (spliced ((false,eval e X.env)::backTo pos (starEach es X.env))) _ _ s
 refine Calls.spliced_cons (thn (ha pins s σ H _ I h) fun u s1 ⟨x,H1,I1,r1,q1⟩=>?_)
 exact thn (hr pos pins s1 σ H1 _ I1 q1) fun us s2 ⟨xs,H2,I2,r2,q2⟩=>⟨x::xs,H2,I2,.cons r1 r2,q2⟩
def tTup (t:TA):TE:=fun σ H Q=>t σ H fun xs H1=>xs.length<=sizeLine/\∀p,H1 p=none->Q (.ref p) (upd H1 p (.tup xs))
def tLst (t:TA):TE:=fun σ H Q=>t σ H fun xs H1=>xs.length<=sizeLine/\∀p,H1 p=none->Q (.ref p) (upd H1 p (.lst xs))
theorem pe_tup {x1}(h:PA X es t):PE X (.Tuple es x1 pos) (tTup t):=by
 intro pins s σ H Q I hq
 refine wpAny_Tuple_spliced (thn (h pos pins s σ H _ I hq) fun us s1 ⟨xs,H1,I1,r,z,q⟩=>⟨by rw [<-r.length];exact z,?_⟩)
 have hf:H1 s1.heap.objs.size=none:=I1.hok.fresh (Nat.le_refl _)
 refine⟨.ref s1.heap.objs.size,upd H1 s1.heap.objs.size (.tup xs),I1.laid (t':=s1.toks) (fun b u e=>Heap.get?_push_of_some _ e) (Nat.le_refl _) ?_,rfl,q _ hf⟩
 exact⟨z,us,r,⟨_,Heap.get?_push_size _ rfl,rfl,_,rfl⟩⟩
theorem pe_lst (h:PA X es t):PE X (.List es pos) (tLst t):=by
 intro pins s σ H Q I hq
 refine wpAny_List_spliced (thn (h pos pins s σ H _ I hq) fun us s1 ⟨xs,H1,I1,r,z,q⟩=>⟨by rw [<-r.length];exact z,?_⟩)
 have hf:H1 s1.heap.objs.size=none:=I1.hok.fresh (Nat.le_refl _)
 refine⟨.ref s1.heap.objs.size,upd H1 s1.heap.objs.size (.lst xs),I1.laid (t':=s1.toks) (fun b u e=>Heap.get?_push_of_some _ e) (Nat.le_refl _) ?_,rfl,q _ hf⟩
 exact⟨z,us,0,r,Heap.get?_push_size _ rfl⟩
end
abbrev Sp:=List V->Hp->VK->XK->Prop
abbrev CXT:=List Env->Hp->Shared->XK->Value->Shared->Prop
structure Env0 (P:Program)(w:World)(K:PySem.W.Frag)(mg:Str->Option Value)(base:Heap)(A:Around)(outer:List Env)(s:Shared)(H:Hp):Prop where
 frames:A.frames=some outer
 mod:Mod K mg base
 bs:∀b o,base.get? b=some o->s.heap.get? b=some o/\H b=none
 bsz:base.objs.size<=s.heap.objs.size
 funs:s.heap.FunFrames base outer
 frf:∀b∈frs outer,H b=none
 hok:HOk P w H s.heap
 bare:AllBare s.gens
def CE (outer:List Env)(P:Program)(w:World)(H:Hp)(s:Shared)(Q:VK)(u:Value)(s':Shared):Prop:=
 ∃v H',s'.os=s.os/\AllBare s'.gens/\Un (frs outer) [] H H' s.heap s'.heap/\HOk P w H' s'.heap/\RelV v u/\Q v H'
def CR (CX:CXT)(outer:List Env)(P:Program)(w:World)(H:Hp)(s:Shared)(Q:VK)(E:XK)(r:Result)(s':Shared):Prop:=
 match r with
 | .ok (.ret u)=>CE outer P w H s Q u s'
 | .ok _=>False
 | .error e=>CX outer H s E e s'
structure FnOk (P:Program)(w:World)(K:PySem.W.Frag)(mg:Str->Option Value)(base:Heap)(CX:CXT)(k:Nat)(f:Addr)(fd:FuncData)(ps:List Str)(sp:Sp):Prop where
 len:∀vs H Q E,sp vs H Q E->vs.length=ps.length
 run:∀(A:Around) (outer:List Env) (s:Shared) (H:Hp) (args:Args) (us:List Value) (vs:List V) (Q:VK) (E:XK),Room k A->Env0 P w K mg base A outer s H->BindsTo s fd args (ps.zip us)->Vals vs us->sp vs H Q E ->
  codeAny (model P w) A (.call (.ref f) args) (CR CX outer P w H s Q E) s
theorem FnOk.imp {P:Program}{w:World}{K:PySem.W.Frag}{mg:Str->Option Value}{base:Heap}{CX:CXT}{k:Nat}{f:Addr}{fd:FuncData}{ps:List Str}{sp sp':Sp}(F:FnOk P w K mg base CX k f fd ps sp)
 (h:∀vs H Q E,sp' vs H Q E->sp vs H Q E):FnOk P w K mg base CX k f fd ps sp':=
 ⟨fun vs H Q E q=>F.len vs H Q E (h _ _ _ _ q),fun A outer s H args us vs Q E hr he hb hv hs=>F.run A outer s H args us vs Q E hr he hb hv (h _ _ _ _ hs)⟩
theorem Env0.make {P:Program}{w:World}{K:PySem.W.Frag}{mg:Str->Option Value}{base:Heap}{A:Around}{outer:List Env}{s:Shared}{H:Hp}(e:Env0 P w K mg base A outer s H)(C:Addr)(us:List Value)(kw:List (Str×Value)):
 Env0 P w K mg base (A.under (.builtin "type.__call__" ⟨.ref C::us,kw⟩)) outer s H:=⟨by first | exact e.frames | (simpa [Around.under,Code.envs,Code.isFrame,pushEnvs] using e.frames),e.mod,e.bs,e.bsz,e.funs,e.frf,e.hok,e.bare⟩
section
variable {X:Cx}{pins:List (Addr×Obj)}{σ:St}{H:Hp}{s s':Shared}
theorem Inv.env0 (I:Inv X pins σ H s):Env0 X.prog X.w X.K X.mg X.base X.A X.stack s H:=
 ⟨I.ok.frames,I.ok.mod,I.bs,Nat.le_trans I.ok.bsz I.sz,I.stack,I.stkFree,I.hok,I.bare⟩
theorem Inv.after {Q:VK}{u:Value}(I:Inv X pins σ H s)(h:CE X.stack X.prog X.w H s Q u s'):EP X pins σ Q u s':=by
 obtain⟨v,H',os,bare,un,hok,r,q⟩:=h
 obtain⟨hh,g,d,t,os'⟩:=s'
 obtain rfl:os'=s.os:=os
 exact⟨v,H',I.call (h':=hh) (g':=g) (d':=d) (t':=t) (ch:=[]) un hok bare (fun b z=>absurd z (by simp)),r,q⟩
end
def tCall (sp:Sp)(dvs:List V)(E:XK)(t:TA):TE:=fun σ H Q=>t σ H fun vs H1=>sp (vs++dvs) H1 Q E
def tMeth (C:Addr)(m:Str)(sp:Sp)(dvs:List V)(E:XK)(ta:TE)(t:TA):TE:=fun σ H Q=>ta σ H fun x H1=>∃a dx fs,x = .ref a/\H1 a=some (.ins C dx fs)/\fs.lookup m=none /\
 t σ H1 fun vs H2=>sp (x::(vs++dvs)) H2 Q E
def tMake (C:Addr)(sp:Sp)(dvs:List V)(E:XK)(t:TA):TE:=fun σ H Q=>t σ H fun vs H1=>∀x dx,H1 x=none->H1 dx=none->dx≠x ->
 sp (.ref x::(vs++dvs)) (upd (upd H1 dx (.own x)) x (.ins C dx [])) (fun v H2=>v = .non/\Q (.ref x) H2) E
def Binds (K:PySem.W.Frag)(fd:FuncData)(ps:List Str)(ds:List Value):Prop:=
 ∀(s:Shared) (us:List Value),K.In s.heap->(us++ds).length=ps.length->BindsTo s fd ⟨us,[]⟩ (ps.zip (us++ds))
theorem Binds.all {K:PySem.W.Frag}{fd:FuncData}{ps:List Str}(h:∀us:List Value,us.length=ps.length->bindArgs fd ⟨us,[]⟩=pure (ps.zip us)):Binds K fd ps []:=fun s us _ hl=>by
 rw [List.append_nil] at hl ⊢
 exact .of_eq (h us hl)
def Passes (CX:CXT)(X:Cx)(E:XK):Prop:=∀(pins:List (Addr×Obj)) (σ:St) (H:Hp) (s:Shared) (e:Value) (s':Shared),Inv X pins σ H s->CX X.stack H s E e s'->X.xe e s'
section
variable {X:Cx}{CX:CXT}{k:Nat}{f C:Addr}{fd:FuncData}{ps:List Str}{sp:Sp}{dvs:List V}{ds:List Value}{E:XK}{x m:Str}{p pos apos:Pos}{e o:Expr}{es:List Expr}{ta:TE}{t:TA}
theorem run_fn {pins:List (Addr×Obj)}{σ:St}{H:Hp}{s:Shared}{Q:VK}{us:List Value}{vs:List V}(F:FnOk X.prog X.w X.K X.mg X.base CX k f fd ps sp)(hr:Room k X.A)(hb:Binds X.K fd ps ds)(hd:Vals dvs ds)(hx:Passes CX X E)
 (I:Inv X pins σ H s) (r:Vals vs us) (h:sp (vs++dvs) H Q E):wpAny (model X.prog X.w) X.A (call (.ref f) us) (EP X pins σ Q) X.xe s:=by
 have r2:Vals (vs++dvs) (us++ds):=r.append hd
 have hl:(us++ds).length=ps.length:=by rw [<-r2.length];exact F.len _ _ _ _ h
 refine wpAny_call (codeAny_mono (F.run X.A X.stack s H ⟨us,[]⟩ (us++ds) (vs++dvs) Q E hr I.env0 (hb s us I.kIn hl) r2 h) fun r s' hq=>?_)
 cases r with
 | error e=>exact hx pins σ H s e s' I hq
 | ok fl=>
  cases fl with
  | ret u=>exact I.after hq
  | next=>exact False.elim hq
  | brk=>exact False.elim hq
  | cont=>exact False.elim hq
theorem pe_call (F:FnOk X.prog X.w X.K X.mg X.base CX k f fd ps sp)(hr:Room k X.A)(hg:Gl X x)(hm:X.mg x=some (.ref f))(hk:PySem.W.keepIn X.K (.ref f)=true)(hb:Binds X.K fd ps ds)(hd:Vals dvs ds)(hx:Passes CX X E)
 (ha:PA X (e::es) t) (hdb:(x==("__debug__":Str))=false:=by decide) (he:starEach (e::es) X.env=(false,eval e X.env)::starEach es X.env:=by rfl) (hpl:(backTo pos (starEach es X.env)).any (·.1)=false:=by rfl):
 PE X (.Call (.Name x p) (e::es) [] pos) (tCall sp dvs E t):=by
 intro pins s σ H Q I h
 refine wpAny_Call_Name_kw (ld_glob I hg hm ?_ hdb)
 refine PySem.W.callWith_K (h₀:=X.base) I.ok.mod.kin hk (thn (ha pos pins s σ H _ I h) fun us s1 ⟨vs,H1,I1,r,q⟩=>⟨I1.kIn,?_⟩) he hpl
 exact run_fn F hr hb hd hx I1 r q
theorem pe_call0 (F:FnOk X.prog X.w X.K X.mg X.base CX k f fd ps sp)(hr:Room k X.A)(hg:Gl X x)(hm:X.mg x=some (.ref f))(hk:PySem.W.keepIn X.K (.ref f)=true)(hb:Binds X.K fd ps ds)(hd:Vals dvs ds)(hx:Passes CX X E)
 (hdb:(x==("__debug__":Str))=false:=by decide):PE X (.Call (.Name x p) [] [] pos) (tCall sp dvs E tNil):=by
 intro pins s σ H Q I h
 refine wpAny_Call_Name_kw (ld_glob I hg hm ?_ hdb)
 exact PySem.W.callWith_K0 I.kIn hk (run_fn (us:=[]) F hr hb hd hx I .nil h)
theorem pe_meth {pl:Sem Bool}(he:PE X o ta)(c:Cls X.K C)(hm:Meth X.K C m f)(F:FnOk X.prog X.w X.K X.mg X.base CX k f fd ps sp)(hr:Room k X.A)(hb:Binds X.K fd ps ds)(hd:Vals dvs ds)(hx:Passes CX X E)(ha:PA X (e::es) t)
 (hst:starEach (e::es) X.env=(false,eval e X.env)::starEach es X.env:=by rfl) (hpl:(backTo pos (starEach es X.env)).any (·.1)=false:=by rfl)
 (ht:eval (.Call (.Attribute o m apos) (e::es) [] pos) X.env=(do
   let ov <-eval o X.env
   standAt apos.atName
   let (f,first) <-holding [ov] (getMethod ov m pl)
   callWith pos f first (backTo pos (starEach (e::es) X.env)) (backToKw pos (keywordEach [] X.env))):=by rfl):
 PE X (.Call (.Attribute o m apos) (e::es) [] pos) (tMeth C m sp dvs E ta t):=by
 intro pins s σ H Q I h
 refine PySem.W.methodCall_KW (pl:=pl) (thn (he pins s σ H _ I h) fun u s1 ⟨x,H1,I1,rx,a,dx,fs,ex,ea,l,q⟩=>?_) ht
 subst ex
 obtain rfl:u=Value.ref a:=rx
 refine getmeth_ok I1 ea c hm l ?_
 refine PySem.W.callWith_K (first:=[.ref a]) (h₀:=X.base) I.ok.mod.kin hm.kp (thn (ha pos pins s1 σ H1 _ I1 q) fun us s2 ⟨vs,H2,I2,r,q2⟩=>⟨I2.kIn,?_⟩) hst hpl
 exact run_fn (us:=.ref a::us) (vs:=.ref a::vs) F hr hb hd hx I2 (.cons rfl r) q2
theorem pe_meth0 {pl:Sem Bool}(he:PE X o ta)(c:Cls X.K C)(hm:Meth X.K C m f)(F:FnOk X.prog X.w X.K X.mg X.base CX k f fd ps sp)(hr:Room k X.A)(hb:Binds X.K fd ps ds)(hd:Vals dvs ds)(hx:Passes CX X E)
 (ht:eval (.Call (.Attribute o m apos) [] [] pos) X.env=(do
   let ov <-eval o X.env
   standAt apos.atName
   let (f,first) <-holding [ov] (getMethod ov m pl)
   callWith pos f first (backTo pos (starEach [] X.env)) (backToKw pos (keywordEach [] X.env))):=by rfl):
 PE X (.Call (.Attribute o m apos) [] [] pos) (tMeth C m sp dvs E ta tNil):=by
 intro pins s σ H Q I h
 refine PySem.W.methodCall_KW (pl:=pl) (thn (he pins s σ H _ I h) fun u s1 ⟨x,H1,I1,rx,a,dx,fs,ex,ea,l,q⟩=>?_) ht
 subst ex
 obtain rfl:u=Value.ref a:=rx
 refine getmeth_ok I1 ea c hm l ?_
 exact PySem.W.callWith_K0 (first:=[.ref a]) I1.kIn hm.kp (run_fn (us:=[.ref a]) (vs:=[.ref a]) F hr hb hd hx I1 (.cons rfl .nil) q)
structure Mk (K:PySem.W.Frag)(C f:Addr):Prop where
 makes:PySem.W.makesIn K C=true
 init:PySem.W.findIn K (.ref C) "__init__" = some (some (.ref f))
 fn:PySem.W.isFn K (.ref f)=true
 kp:PySem.W.keepIn K (.ref C)=true
theorem run_make {pins:List (Addr×Obj)}{σ:St}{H:Hp}{s:Shared}{Q:VK}{us:List Value}{vs:List V}(M:Mk X.K C f)(F:FnOk X.prog X.w X.K X.mg X.base CX k f fd ps sp)(hr:Room (k+1) X.A)(hb:Binds X.K fd ps ds)(hd:Vals dvs ds)
 (hx:Passes CX X E) (I:Inv X pins σ H s) (r:Vals vs us)
 (h:∀x dx,H x=none->H dx=none->dx≠x->sp (.ref x::(vs++dvs)) (upd (upd H dx (.own x)) x (.ins C dx [])) (fun v H2=>v = .non/\Q (.ref x) H2) E):
 wpAny (model X.prog X.w) X.A (call (.ref C) us) (EP X pins σ Q) X.xe s:=by
 have hq:=h (s.heap.objs.size+1) s.heap.objs.size (I.hok.fresh (Nat.le_succ _)) (I.hok.fresh (Nat.le_refl _)) (Nat.ne_of_lt (Nat.lt_succ_self _))
 have I2:=Inv.made (C:=C) I
 have r2:Vals (V.ref (s.heap.objs.size+1)::(vs++dvs)) (Value.ref (s.heap.objs.size+1)::(us++ds)):=.cons rfl (r.append hd)
 have hl:(Value.ref (s.heap.objs.size+1)::us++ds).length=ps.length:=by
  have e:=r2.length
  rw [F.len _ _ _ _ hq] at e
  exact e.symm
 refine wpAny_call (make_map (f:=f) I.kIn M.makes M.init (beq_iff_eq.mp M.fn) (codeAny_mono (F.run _ X.stack _ _ ⟨Value.ref (s.heap.objs.size+1)::us,[]⟩ (Value.ref (s.heap.objs.size+1)::(us++ds)) _ _ E (hr.make C us [])
  (I2.env0.make C us []) (hb _ (Value.ref (s.heap.objs.size+1)::us) I2.kIn hl) r2 hq) fun r s' hq'=>?_))
 cases r with
 | error e=>exact hx pins σ _ _ e s' I2 hq'
 | ok fl=>
  cases fl with
  | ret u=>
   obtain⟨v,H',I3,rv,ev,q3⟩:=I2.after hq'
   subst ev
   exact⟨rv,⟨V.ref (s.heap.objs.size+1),H',I3,rfl,q3⟩⟩
  | next=>exact False.elim hq'
  | brk=>exact False.elim hq'
  | cont=>exact False.elim hq'
theorem pe_make (M:Mk X.K C f)(F:FnOk X.prog X.w X.K X.mg X.base CX k f fd ps sp)(hr:Room (k+1) X.A)(hg:Gl X x)(hm:X.mg x=some (.ref C))(hb:Binds X.K fd ps ds)(hd:Vals dvs ds)(hx:Passes CX X E)
 (ha:PA X (e::es) t) (hdb:(x==("__debug__":Str))=false:=by decide) (he:starEach (e::es) X.env=(false,eval e X.env)::starEach es X.env:=by rfl) (hpl:(backTo pos (starEach es X.env)).any (·.1)=false:=by rfl):
 PE X (.Call (.Name x p) (e::es) [] pos) (tMake C sp dvs E t):=by
 intro pins s σ H Q I h
 refine wpAny_Call_Name_kw (ld_glob I hg hm ?_ hdb)
 refine PySem.W.callWith_K (h₀:=X.base) I.ok.mod.kin M.kp (thn (ha pos pins s σ H _ I h) fun us s1 ⟨vs,H1,I1,r,q⟩=>⟨I1.kIn,?_⟩) he hpl
 exact run_make M F hr hb hd hx I1 r q
theorem pe_make0 (M:Mk X.K C f)(F:FnOk X.prog X.w X.K X.mg X.base CX k f fd ps sp)(hr:Room (k+1) X.A)(hg:Gl X x)(hm:X.mg x=some (.ref C))(hb:Binds X.K fd ps ds)(hd:Vals dvs ds)(hx:Passes CX X E)
 (hdb:(x==("__debug__":Str))=false:=by decide):PE X (.Call (.Name x p) [] [] pos) (tMake C sp dvs E tNil):=by
 intro pins s σ H Q I h
 refine wpAny_Call_Name_kw (ld_glob I hg hm ?_ hdb)
 exact PySem.W.callWith_K0 I.kIn M.kp (run_make (us:=[]) M F hr hb hd hx I .nil h)
end
def PK (X:Cx)(kws:List Keyword)(t:TA):Prop:=
 ∀(pos:Pos) (pins:List (Addr×Obj)) (s:Shared) (σ:St) (H:Hp) (Q:List V->Hp->Prop),Inv X pins σ H s->t σ H Q->wpAny (model X.prog X.w) X.A (evalAll ((backToKw pos (keywordEach kws X.env)).map (·.2))) (AP X pins σ Q) X.xe s
section
variable {X:Cx}{CX:CXT}{k:Nat}{f C:Addr}{fd:FuncData}{ps ks:List Str}{sp:Sp}{E:XK}{x m:Str}{p pos apos kpos:Pos}{e o:Expr}{es:List Expr}{kws:List Keyword}{te ta:TE}{t tk:TA}{nm:Option Str}
theorem pk_nil:PK X [] tNil:=fun _ _ _ _ H Q I h=>wpAny_evalAll_nil ⟨[],H,I,.nil,h⟩
theorem pk_cons (ha:PE X e te)(hr:PK X kws t):PK X (⟨nm,e,kpos⟩::kws) (tCons te t):=by
 intro pos pins s σ H Q I h
 show wpAny _ _ (evalAll ((do let v <-eval e X.env;standAt pos;pure v)::(backToKw pos (keywordEach kws X.env)).map (·.2))) _ _ s
 refine wpAny_evalAll_cons (wpAny_bind (thn (ha pins s σ H _ I h) fun u s1 ⟨x,H1,I1,r1,q1⟩=>wpAny_bind (wpAny_standAt (wpAny_pure ?_))))
 exact thn (hr pos pins s1 σ H1 _ I1 q1) fun us s2 ⟨xs,H2,I2,r2,q2⟩=>⟨x::xs,H2,I2,.cons r1 r2,q2⟩
structure KBinds (K:PySem.W.Frag)(fd:FuncData)(ps ks:List Str)(g:List Value->List Value->List Value)(gV:List V->List V->List V):Prop where
 to:∀(s:Shared) (us ws:List Value),K.In s.heap->(g us ws).length=ps.length->BindsTo s fd ⟨us,ks.zip ws⟩ (ps.zip (g us ws))
 rel:∀{vs:List V} {us:List Value} {zs:List V} {ws:List Value},Vals vs us->Vals zs ws->Vals (gV vs zs) (g us ws)
variable {g:List Value->List Value->List Value}{gV:List V->List V->List V}
end
structure FnScope (N P:List Str)(sc:Scope):Prop where
 kind:sc.kind = .function
 co:sc.isCoroutine=false
 gen:sc.isGenerator=false
 nd:N.Nodup
 pre:N.take P.length=P
 par:∀x∈P,sc.names.lookup x=some .local\/sc.names.lookup x=some .cell
 nofree:∀y∈sc.names,y.2 ≠ .free
theorem bindL_out {kindOf:Str->Option NameKind}{x:Str}:∀{binds:List (Str×Value)} {m:Str->Option Value},(∀v,(x,v)∉binds)->bindL kindOf binds m x=m x
 | [],_,_=>rfl
 | (n,v)::r,m,h=>by
  unfold bindL
  rw [bindL_out fun w hw=>h w (List.mem_cons_of_mem _ hw)]
  split
  ·have:x≠n:=by rintro rfl;exact h v List.mem_cons_self
   simp [this]
  ·rfl
theorem bindC_out {kindOf:Str->Option NameKind}{x:Str}:∀{binds:List (Str×Value)} {m:Str->Option Value},(∀v,(x,v)∉binds)->bindC kindOf binds m x=m x
 | [],_,_=>rfl
 | (n,v)::r,m,h=>by
  unfold bindC
  rw [bindC_out fun w hw=>h w (List.mem_cons_of_mem _ hw)]
  split
  ·rfl
  ·have:x≠n:=by rintro rfl;exact h v List.mem_cons_self
   simp [this]
theorem bindL_get {kindOf:Str->Option NameKind}{x:Str}{v:Value}:∀{P:List Str} {vs:List Value} {i:Nat} {m:Str->Option Value},P.Nodup->P[i]?=some x->vs[i]?=some v->kindOf x=some .local ->
 bindL kindOf (P.zip vs) m x=some v
 | [],_,_,_,_,h,_,_=>by simp at h
 | _::_,[],_,_,_,_,h,_=>by simp at h
 | p::P,w::vs,0,m,nd,h1,h2,hk=>by
  simp at h1 h2;subst h1;subst h2
  show bindL kindOf ((p,w)::P.zip vs) m p=_
  unfold bindL
  rw [bindL_out fun v hv=>(List.nodup_cons.mp nd).1 (List.of_mem_zip hv).1,if_pos hk]
  simp
 | p::P,w::vs,i+1,m,nd,h1,h2,hk=>by
  show bindL kindOf ((p,w)::P.zip vs) m x=_
  unfold bindL
  exact bindL_get (i:=i) (List.nodup_cons.mp nd).2 (by simpa using h1) (by simpa using h2) hk
theorem bindC_get {kindOf:Str->Option NameKind}{x:Str}{v:Value}:∀{P:List Str} {vs:List Value} {i:Nat} {m:Str->Option Value},P.Nodup->P[i]?=some x->vs[i]?=some v->kindOf x≠some .local ->
 bindC kindOf (P.zip vs) m x=some v
 | [],_,_,_,_,h,_,_=>by simp at h
 | _::_,[],_,_,_,_,h,_=>by simp at h
 | p::P,w::vs,0,m,nd,h1,h2,hk=>by
  simp at h1 h2;subst h1;subst h2
  show bindC kindOf ((p,w)::P.zip vs) m p=_
  unfold bindC
  rw [bindC_out fun v hv=>(List.nodup_cons.mp nd).1 (List.of_mem_zip hv).1,if_neg hk]
  simp
 | p::P,w::vs,i+1,m,nd,h1,h2,hk=>by
  show bindC kindOf ((p,w)::P.zip vs) m x=_
  unfold bindC
  exact bindC_get (i:=i) (List.nodup_cons.mp nd).2 (by simpa using h1) (by simpa using h2) hk
def start (N:List Str)(vs:List V):St:=vs.map some++List.replicate (N.length-vs.length) none
def cxOf (CX:CXT)(P:Program)(w:World)(K:PySem.W.Frag)(mg:Str->Option Value)(base:Heap)(N:List Str)(qual:Str)(scope:Scope)(f:Addr)(cd:Value)(A:Around)(outer:List Env)(s:Shared)(H:Hp)(E:XK):Cx where
 prog:=P
 w:=w
 K:=K
 mg:=mg
 base:=base
 A:=A.deeper (envOfC qual scope s.heap.objs.size f cd)
 N:=N
 s₀:=s
 H₀:=H
 env:=envOfC qual scope s.heap.objs.size f cd
 outer:=outer
 stack:=envOfC qual scope s.heap.objs.size f cd::outer
 ex:=[]
 calm:=true
 fn:=fun _=>true
 pn:=[]
 xe:=fun e s'=>wpAny (model P w) (A.deeper (envOfC qual scope s.heap.objs.size f cd)) (leaving (envOfC qual scope s.heap.objs.size f cd) e) (fun _ s''=>CX outer H s E e s'') (fun e' s''=>CX outer H s E e' s'') s'
theorem cell_has {sc:Scope}{n:Nat}{x:Str}(h:sc.names.lookup x=some .cell):∃c,(cellsFrom n sc.names []).lookup x=some c:=by
 have q:=PySem.W.cellsFrom_some sc.names n [] (.inl h)
 exact Option.isSome_iff_exists.mp q
theorem inv_start {CX:CXT}{P:Program}{w:World}{K:PySem.W.Frag}{mg:Str->Option Value}{base:Heap}{N ps:List Str}{qual:Str}{scope:Scope}{f:Addr}{cd:Value}{A:Around}{outer:List Env}{s s1:Shared}{H:Hp}{E:XK}{us:List Value}{vs:List V}
 (S:FnScope N ps scope) (hd:A.handled=none) (e0:Env0 P w K mg base A outer s H) (hl:vs.length=ps.length) (r:Vals vs us)
 (x:InCallC s s.heap.objs.size (bindL (envOfC qual scope s.heap.objs.size f cd).kindOf (ps.zip us) fun _=>none) (cellsFrom (s.heap.objs.size+1) scope.names []) (bindC (envOfC qual scope s.heap.objs.size f cd).kindOf (ps.zip us) fun _=>none) s1):
 Inv (cxOf CX P w K mg base N qual scope f cd A outer s H E) [] (start N vs) H s1:=by
 have hpl:ps.length<=N.length:=by have:=congrArg List.length S.pre;rw [List.length_take] at this;omega
 obtain⟨h1,tk,rfl,hk⟩:=x.done
 have noA:∀b:Addr,b∉(cxOf CX P w K mg base N qual scope f cd A outer s H E).ex:=fun b z=>absurd (show b∈([]:List Addr) from z) (by simp)
 refine⟨⟨e0.mod,S.kind,rfl,rfl,Nat.le_refl _,fun y z c h1 h2=>?_,fun y hy=>?_,fun y c _ h=>?_,fun _=>hd,Around.frames_deeper e0.frames,.inr ⟨rfl,rfl⟩,fun b z=>absurd z (noA b),e0.bs,e0.bsz,fun b _ _=>noA b,fun b z=>absurd z (noA b),e0.funs,e0.frf⟩,
  rfl,e0.bare,Un.kept hk,⟨_,x.toInCall.ns,fun i y v h1 h2 h3=>?_⟩,fun y c h=>⟨_,x.cell y c h⟩,e0.hok.fresh (Nat.le_refl _),fun y c h=>?_,fun p hp=>absurd (show p∈([]:List (Addr×Obj)) from hp) (by simp),e0.hok.kept hk,?_⟩
 ·exact name_of_addr x.apart (PySem.mem_of_lookup h1) (PySem.mem_of_lookup h2)
 ·have hy:scope.names.lookup y=some .cell\/scope.names.lookup y=some .free:=hy
  rcases hy with hy | hy
  ·exact cell_has hy
  ·exact absurd rfl (S.nofree _ (PySem.mem_of_lookup hy))
 ·exact Nat.le_of_lt (x.above y c (PySem.mem_of_lookup h))
 ·have hi:i<vs.length:=by
   unfold start at h2
   by_cases hi:i<vs.length
   ·exact hi
   ·rw [List.getElem?_append_right (by simpa using hi)] at h2
    rw [List.getElem?_replicate] at h2
    split at h2<;>cases h2
  have ha:vs[i]?=some v:=by
   unfold start at h2
   rw [List.getElem?_append_left (by simpa using hi),List.getElem?_map] at h2
   cases e:vs[i]? with
   | none=>rw [e] at h2;cases h2
   | some a=>rw [e] at h2;cases h2;rfl
  obtain⟨u,hu,rv⟩:=r.get ha
  have hp:ps[i]?=some y:=by
   rw [<-S.pre,List.getElem?_take_of_lt (by omega)];exact h1
  have ndP:ps.Nodup:=by rw [<-S.pre];exact S.nd.sublist (List.take_sublist _ _)
  refine⟨u,rv,?_⟩
  rcases S.par y (List.mem_of_getElem? hp) with k | k
  ·exact .inl ⟨k,bindL_get ndP hp hu k⟩
  ·obtain⟨c,e⟩:=cell_has (n:=s.heap.objs.size+1) k
   refine .inr ⟨.inl k,c,e,?_⟩
   have q:=x.cell y c e
   rw [bindC_get ndP hp hu (by show scope.names.lookup y≠_;rw [k];decide)] at q
   exact q
 ·exact e0.hok.fresh (Nat.le_of_lt (x.above y c (PySem.mem_of_lookup h)))
 ·unfold start
  show _=N.length
  rw [List.length_append,List.length_map,List.length_replicate]
  omega
theorem fn_of {CX:CXT}{P:Program}{w:World}{K:PySem.W.Frag}{mg:Str->Option Value}{base:Heap}{k:Nat}{f:Addr}{name qual:Str}{params:Arguments}{body:List Stmt}{scope:Scope}{dV kV doc pm cdv ct oc:Value}{an od:Option Addr}
 {osl:Array (Option Value)} {N ps:List Str} {sp:Sp} (lk:K.lookup f=some ⟨oc,od,.func (PySem.W.fnOf name qual params body scope dV kV doc pm an cdv ct),osl⟩) (hcd:PySem.W.codeIn K cdv qual=true) (S:FnScope N ps scope)
 (len:∀vs H Q E,sp vs H Q E->vs.length=ps.length)
 (hbody:∀(A:Around) (outer:List Env) (s:Shared) (H:Hp) (vs:List V) (Q:VK) (E:XK),Room k (A.deeper (envOfC qual scope s.heap.objs.size f cdv))->sp vs H Q E ->
   ∃t,PSs (cxOf CX P w K mg base N qual scope f cdv A outer s H E) body t/\t { nx:=fun _ H'=>Q .non H',rt:=Q } (start N vs) H):
 FnOk P w K mg base CX (k+1) f (PySem.W.fnOf name qual params body scope dV kV doc pm an cdv ct) ps sp:=by
 refine⟨len,fun A outer s H args us vs Q E hr e0 hb r hsp=>?_⟩
 have hl:=len _ _ _ _ hsp
 have KX:K.In s.heap:=e0.mod.kin.keeps fun b o e=>(e0.bs b o e).1
 have lim:s.heap.NoLimit:=e0.mod.nolimit.keeps fun b o e=>(e0.bs b o e).1
 have hkind:∀y∈ps.zip us,scope.names.lookup y.1=some .local\/(scope.names.lookup y.1=some .cell/\((cellsFrom (s.heap.objs.size+1) scope.names []).lookup y.1).isSome=true):=fun ⟨n,v⟩ hy=>by
  rcases S.par n (List.of_mem_zip hy).1 with q | q
  ·exact .inl q
  ·exact .inr ⟨q,PySem.W.cellsFrom_some _ _ _ (.inl q)⟩
 refine codeAny_call_function hr.depth (KX _ _ lk) rfl S.co S.gen rfl (PySem.W.codeRec_of KX hcd) (hb _ _ _ _ ?_)
 refine wpAny_newFunctionEnv_cells S.kind hkind fun env he s1 x=>?_
 subst he
 refine⟨lim.keeps x.toInCall.keep,codeAny_func ?_⟩
 obtain⟨t,ht,hq⟩:=hbody A outer s H vs Q E (hr.deeper _) hsp
 have I:Inv (cxOf CX P w K mg base N qual scope f cdv A outer s H E) [] (start N vs) H s1:=inv_start S hr.hd e0 hl r x
 refine wpAny_mono (ht [] s1 (start N vs) H _ I hq) (fun fl s' hs=>?_) fun e s' hs=>hs
 have fin:∀{σ':St} {H':Hp} {v:V} {u:Value},Inv (cxOf CX P w K mg base N qual scope f cdv A outer s H E) [] σ' H' s'->RelV v u->Q v H'->CE outer P w H s Q u s':=
  fun {σ' H' v u} J rv q=>⟨v,H',J.os,J.bare,J.base,J.hok,rv,q⟩
 cases fl with
 | ret u=>
  obtain⟨v,σ',H',J,rv,q⟩:=hs
  exact fin J rv q
 | next=>
  obtain⟨σ',H',J,q⟩:=hs
  exact fin (v:=V.non) (u:=Value.none) J rfl q
 | brk=>
  obtain⟨_,_,_,q⟩:=hs
  exact False.elim q
 | cont=>
  obtain⟨_,_,_,q⟩:=hs
  exact False.elim q
section
variable {X:Cx}{x:Str}{p pos:Pos}{e:Expr}{es:List Expr}{t:TA}{id T:String}{r:List V->Hp->VK->Prop}
def tCB (r:List V->Hp->VK->Prop)(t:TA):TE:=fun σ H Q=>t σ H fun vs H1=>r vs H1 Q
theorem pe_callB (hc:CallR X (.builtin id) r)(hg:Gl X x)(hm:X.mg x=none)(hv:bootBuiltins x=some (.builtin id))(ha:PA X (e::es) t)(hn:x ≠ "__name__":=by decide)(hdb:(x==("__debug__":Str))=false:=by decide)
 (he:starEach (e::es) X.env=(false,eval e X.env)::starEach es X.env:=by rfl) (hpl:(backTo pos (starEach es X.env)).any (·.1)=false:=by rfl):PE X (.Call (.Name x p) (e::es) [] pos) (tCB r t):=by
 intro pins s σ H Q I h
 refine wpAny_Call_Name_kw (ld_blt I hg hm hv ?_ hn hdb)
 exact PyProof.Rows.callWith_builtin1 (thn (ha pos pins s σ H _ I h) fun us s1 ⟨vs,H1,I1,r1,q1⟩=>hc pins s1 σ H1 vs us Q I1 r1 q1) he hpl
theorem pe_callTy (hc:CallR X (.type T) r)(hg:Gl X x)(hm:X.mg x=none)(hv:bootBuiltins x=some (.type T))(ha:PA X (e::es) t)(hn:x ≠ "__name__":=by decide)(hdb:(x==("__debug__":Str))=false:=by decide)
 (he:starEach (e::es) X.env=(false,eval e X.env)::starEach es X.env:=by rfl) (hpl:(backTo pos (starEach es X.env)).any (·.1)=false:=by rfl):PE X (.Call (.Name x p) (e::es) [] pos) (tCB r t):=by
 intro pins s σ H Q I h
 refine wpAny_Call_Name_kw (ld_blt I hg hm hv ?_ hn hdb)
 exact PyProof.Rows.callWith_type1 (thn (ha pos pins s σ H _ I h) fun us s1 ⟨vs,H1,I1,r1,q1⟩=>hc pins s1 σ H1 vs us Q I1 r1 q1) he hpl
end
end L2
namespace HT
open PySem PyProof.Rows
def lexLt:List Int->List Int->Bool
 | [],[]=>false
 | [],_::_=>true
 | _::_,[]=>false
 | x::xs,y::ys=>if x=y then lexLt xs ys else decide (x<y)
theorem lexLt_cons (x y:Int)(xs ys:List Int):lexLt (x::xs) (y::ys)=if x=y then lexLt xs ys else decide (x<y):=rfl
theorem lexLt_nil_nil:lexLt [] []=false:=rfl
theorem lexLt_nil_cons (y:Int)(ys:List Int):lexLt [] (y::ys)=true:=rfl
theorem lexLt_cons_nil (x:Int)(xs:List Int):lexLt (x::xs) []=false:=rfl
theorem eqAt_int (A:Around)(s:Shared)(a:Int)(t:Tok)(c:Int)(u:Tok):∃e,SeqAt.EqAt A s (.int a t) (.int c u) e/\(e=true↔a=c):=
 ⟨(a==c),SeqAt.EqAt.int_int a t c u,by simp⟩
theorem rcLt_int (A:Around)(s:Shared)(a:Int)(t:Tok)(c:Int)(u:Tok)(prog:Program)(w:World)(E:Value->Shared->Prop)(Q:Value->Shared->Prop)(h:Q (.bool (decide (a<c))) s):
 wpAny (model prog w) A (richCompare .Lt (.int a t) (.int c u)) Q E s:=
 (PyProof.Rows.lt_int h:wpAny (model prog w) A (compareOp .Lt (.int a t) (.int c u)) Q E s)
section
open PySem.SeqAt
open PySem.AutoSeq1 (wpAny_loadPart')
open PySem.MeetsSeq PySem.MeetsSeq2 PySem.MeetsSeq3
theorem tuple_lt_ints (l b:Addr)(items items2:Array Value)(n n2:Nat)(dd dd2:Option Addr)(sl sl2:Array (Option Value))(ns ms:List Int)(hi:IntsAre items.toList ns)(hj:IntsAre items2.toList ms):
 Meets (Builtin.«tuple.__lt__» ⟨[.ref l,.ref b],[]⟩)
  (fun _ R s=>s.heap.get? l=some { cls:=.type "tuple",dict:=dd,data:=.seq items n,slots:=sl }/\s.heap.get? b=some { cls:=.type "tuple",dict:=dd2,data:=.seq items2 n2,slots:=sl2 } /\
    R (.ok (.ret (.bool (lexLt ns ms)))) s):=
 .of_wp fun prog w A R s h=>by
  obtain⟨hp,g,d,tk,os⟩:=s;obtain⟨hl,hb,h⟩:=h
  have f2:=AutoSeq1.sub_tuple_tuple
  have z1:items.size=ns.length:=by rw [<-hi.length];simp
  have z2:items2.size=ms.length:=by rw [<-hj.length];simp
  wp_walk using wpAny_loadPart' hl,wpAny_loadPart' hb,wpAny_forIn_list _ (fun rest b s'=>b.1=none/\s'=⟨hp,g,d,tk,os⟩/\∃(vs ws:List Value) (ns' ms':List Int),rest=vs.zip ws /\
   IntsAre vs ns'/\IntsAre ws ms'/\ns'.length+items2.size=ms'.length+items.size/\R (.ok (.ret (.bool (lexLt ns' ms')))) ⟨hp,g,d,tk,os⟩) _
  case turn=>
   rintro⟨y,x⟩ rest b s' ⟨hb',rfl,vs,ws,ns',ms',hz,hvi,hwi,hlen,hR⟩
   cases hvi with
   | nil=>rw [List.zip_nil_left] at hz;cases hz
   | cons a t hvi'=>
    cases hwi with
    | nil=>rw [List.zip_nil_right] at hz;cases hz
    | cons c u hwi'=>
     rw [List.zip_cons_cons] at hz
     injection hz with hyx hrest
     injection hyx with hy hx
     subst hy hx
     rw [lexLt_cons] at hR
     simp only [List.length_cons] at hlen
     obtain⟨e,he,hiff⟩:=eqAt_int A.in1 ⟨hp,g,d,tk,os⟩ a t c u
     refine wpAny_bind (he prog w _ _ ?_)
     cases e with
     | true=>
      rw [if_pos (hiff.mp rfl)] at hR
      wp_walk
      exact⟨rfl,rfl,_,_,_,_,hrest,hvi',hwi',by omega,hR⟩
     | false=>
      rw [if_neg (fun q=>absurd (hiff.mpr q) Bool.false_ne_true)] at hR
      have hri:=rcLt_int A.in1 ⟨hp,g,d,tk,os⟩ a t c u prog w
      wp_walk using hri
      exact⟨_,rfl,by simpa using hR⟩
  case fin=>
   rintro⟨b1,b2⟩ s' ⟨hb',rfl,vs,ws,ns',ms',hz,hvi,hwi,hlen,hR⟩
   simp only at hb'
   subst hb'
   have hv:lexLt ns' ms'=decide (items.size<items2.size):=by
    cases hvi with
    | nil=>
     cases hwi with
     | nil=>
      simp only [List.length_nil] at hlen
      rw [lexLt_nil_nil]
      exact (decide_eq_false (by omega)).symm
     | cons c u hw=>
      simp only [List.length_nil,List.length_cons] at hlen
      rw [lexLt_nil_cons]
      exact (decide_eq_true (by omega)).symm
    | cons a t hv=>
     cases hwi with
     | nil=>
      simp only [List.length_nil,List.length_cons] at hlen
      rw [lexLt_cons_nil]
      exact (decide_eq_false (by omega)).symm
     | cons c u hw=>
      rw [List.zip_cons_cons] at hz
      cases hz
   rw [hv] at hR
   wp_walk
   exact⟨_,rfl,by simpa [Builtin.Tuple.tupleCompareSizes] using hR⟩
  case h=>
   exact⟨rfl,rfl,items.toList,items2.toList,ns,ms,rfl,hi,hj,by omega,h⟩
end
section
variable {prog:Program}{w:World}{A:Around}{E:Value->Shared->Prop}{s:Shared}
theorem lt_tupInts {l b:Addr}{items items2:Array Value}{ns ms:List Int}{Q:Value->Shared->Prop}(hl:IsTup s.heap l items)(hb:IsTup s.heap b items2)(hi:IntsAre items.toList ns)(hj:IntsAre items2.toList ms)
 (hu:A.units<cLine) (h:Q (.bool (lexLt ns ms)) s):wpAny (model prog w) A (compareOp .Lt (.ref l) (.ref b)) Q E s:=by
 obtain⟨⟨cls,dd,data,sl⟩,ho,hc,n,hd⟩:=id hl
 obtain⟨⟨cls2,dd2,data2,sl2⟩,ho2,hc2,n2,hd2⟩:=id hb
 simp only at hc hd hc2 hd2
 subst hc hd hc2 hd2
 exact richCompare_meets_room (op:=.Lt) ⟨_,ho,rfl⟩ ⟨_,ho2,rfl⟩ PySem.F.slot_tuple_lt PySem.F.entry_tuple_lt (PySem.F.args_tuple_lt_2 _ _) (tuple_lt_ints l b items items2 n n2 dd dd2 sl sl2 ns ms hi hj)
  ⟨ho,ho2,show Value.bool (lexLt ns ms)≠Value.notImplemented/\Q (.bool (lexLt ns ms)) s from ⟨(fun x=>nomatch x),h⟩⟩ hu
def sIx (n d:Nat):Option Int->Nat
 | none=>d
 | some v=>if v<0 then (v+(n:Int)).toNat else min v.toNat n
theorem sIx_le (n d:Nat)(hd:d<=n)(o:Option Int):sIx n d o<=n:=by
 cases o with
 | none=>exact hd
 | some v=>
  show (if v<0 then (v+(n:Int)).toNat else min v.toNat n)<=n
  by_cases hv:v<0
  ·rw [if_pos hv];omega
  ·rw [if_neg hv];exact Nat.min_le_right _ _
theorem clip_eq (v:Int)(n d:Nat):(if v<0 then max (v+(n:Int)) 0 else min v (n:Int))=((sIx n d (some v):Nat):Int):=by
 show (if v<0 then max (v+(n:Int)) 0 else min v (n:Int))=(((if v<0 then (v+(n:Int)).toNat else min v.toNat n):Nat):Int)
 by_cases hv:v<0
 ·simp only [if_pos hv];omega
 ·simp only [if_neg hv];omega
theorem adjust_gen (lo hi:Option Int)(n:Nat):Builtin.Slice.sliceAdjust lo hi 1 (n:Int)=(((sIx n 0 lo:Nat):Int),((sIx n n hi:Nat):Int)):=by
 have h1:¬((1:Int)<0):=by omega
 unfold Builtin.Slice.sliceAdjust
 simp only [h1,if_false]
 refine Prod.ext ?_ ?_
 ·cases lo with
  | none=>rfl
  | some v=>exact clip_eq v n 0
 ·cases hi with
  | none=>rfl
  | some v=>exact clip_eq v n n
theorem places_gen (i j:Nat):Builtin.Slice.slicePlaces (i:Int) (j:Int) 1=j-i:=by
 unfold Builtin.Slice.slicePlaces
 have h1:(1:Int) > 0:=by omega
 simp only [h1,if_true,Int.ediv_one]
 split<;>omega
theorem slicePart_ {v:Value}{o:Option Int}{Q:Option Int->Shared->Prop}(p:IsPart v o)(h:Q o s):wpAny (model prog w) A (Builtin.Slice.slicePartIndex v) Q E s:=by
 cases p with
 | none=>exact slicePart_none h
 | int i t=>exact slicePart_int h
theorem sliceApplied_gen {sl:Addr}{vl vu:Value}{lo hi:Option Int}{n:Nat}{Q:Int×Int×Nat->Shared->Prop}(hs:s.heap.IsSliceOf sl vl vu .none)(pl:IsPart vl lo)(pu:IsPart vu hi)
 (h:Q (((sIx n 0 lo:Nat):Int),1,sIx n n hi-sIx n 0 lo) s):wpAny (model prog w) A (Builtin.Slice.sliceApplied (.ref sl) (pure (n:Int))) Q E s:=by
 obtain⟨os,hos,hcs,hds⟩:=id hs
 unfold Builtin.Slice.sliceApplied Builtin.Slice.sliceFields
 refine wpAny_bind (wpAny_bind (wpAny_field hos hds (x:=vl) rfl (wpAny_bind (wpAny_field hos hds (x:=vu) rfl (wpAny_bind (wpAny_field hos hds (x:=.none) rfl (wpAny_pure ?_)))))))
 refine wpAny_bind (slicePart_none ?_)
 show wpAny _ _ (if ((1:Int)==0)=true then _ else _) _ _ s
 rw [if_neg (by decide)]
 refine wpAny_bind (slicePart_ pl (wpAny_bind (slicePart_ pu (wpAny_bind (wpAny_pure ?_)))))
 show wpAny _ _ (match Builtin.Slice.sliceAdjust lo hi 1 (n:Int) with | (lo,hi)=>pure (lo,(1:Int),Builtin.Slice.slicePlaces lo hi 1)) _ _ s
 rw [adjust_gen lo hi n]
 show wpAny _ _ (pure (((sIx n 0 lo:Nat):Int),(1:Int),Builtin.Slice.slicePlaces ((sIx n 0 lo:Nat):Int) ((sIx n n hi:Nat):Int) 1)) _ _ s
 rw [places_gen]
 exact wpAny_pure h
theorem pick_gen (xs:Array Value)(i k:Nat):((List.range k).filterMap fun (m:Nat)=>xs[((i:Int)+(m:Int)*1).toNat]?).toArray=((xs.toList.drop i).take k).toArray:=by
 have e:(fun (m:Nat)=>xs[((i:Int)+(m:Int)*1).toNat]?)=fun m=>xs[i+m]?:=by
  funext m
  have:((i:Int)+(m:Int)*1).toNat=i+m:=by omega
  rw [this]
 rw [e]
 have:=pick_run xs i k
 rw [List.filterMap_map] at this
 have e2:((fun x=>xs[x]?) ∘ fun x=>i+x)=fun m=>xs[i+m]?:=rfl
 rw [e2] at this
 rw [this]
theorem getItem_tuple_cut {t sl:Addr}{items:Array Value}{vl vu:Value}{lo hi:Option Int}{Q:Value->Shared->Prop}(ht:IsTup s.heap t items)(hs:s.heap.IsSliceOf sl vl vu .none)(pl:IsPart vl lo)(pu:IsPart vu hi)
 (hw:¬(sIx items.size 0 lo=0/\sIx items.size items.size hi=items.size))
 (h:Q (.ref s.heap.objs.size) { s with heap:=s.heap.push { cls:=.type "tuple",data:=.seq ((items.toList.drop (sIx items.size 0 lo)).take (sIx items.size items.size hi-sIx items.size 0 lo)).toArray } })
 (hsz:items.size<=sizeLine):wpAny (model prog w) A (getItem (.ref t) (.ref sl)) Q E s:=by
 have htake:sizeOk (.seq ((items.toList.drop (sIx items.size 0 lo)).take (sIx items.size items.size hi-sIx items.size 0 lo)).toArray):=by
  show ((items.toList.drop (sIx items.size 0 lo)).take (sIx items.size items.size hi-sIx items.size 0 lo)).toArray.size<=sizeLine
  rw [List.size_toArray,List.length_take,List.length_drop,Array.length_toList]
  omega
 have hj:sIx items.size items.size hi<=items.size:=sIx_le _ _ (Nat.le_refl _) hi
 obtain⟨os,hos,hcs,hds⟩:=id hs
 have hTs:s.TypeIs (.ref sl) "slice":=⟨os,hos,hcs⟩
 unfold getItem
 try with_reducible refine wpAny_holding ?_
 first | refine wpAny_bind (wpAny_pure ?_) | skip
 refine wpAny_bind (wpAny_sequenceKey ht.typeIs (by decide) ?_)
 refine wpAny_bind (wpAny_callSpecial?_slot (name:=Str.ofString "__getitem__") ht.typeIs PyProof.Rows.slot_tuple_getitem
  (wpAny_call_entry PyProof.Rows.slot_tuple_getitem ht.typeIs entry_tuple_getitem ?_ (args_tuple_getitem _ _)))
 show wpAny _ _ (Builtin.Tuple.tupleItemsOf (.ref t) >>= _) _ _ s
 refine wpAny_bind (tupleItemsOf_ ht ?_)
 refine wpAny_bind (wpAny_typeOf hTs ?_)
 rw [if_pos (by decide)]
 refine wpAny_bind (sliceApplied_gen hs pl pu ?_)
 have hno:¬((((sIx items.size 0 lo:Nat):Int)==0&&(1:Int)==1&&(sIx items.size items.size hi-sIx items.size 0 lo)==items.size)=true):=by
  intro q
  rw [Bool.and_eq_true,Bool.and_eq_true] at q
  have q1:((sIx items.size 0 lo:Nat):Int)=0:=eq_of_beq q.1.1
  have q2:sIx items.size items.size hi-sIx items.size 0 lo=items.size:=eq_of_beq q.2
  exact hw ⟨by omega,by omega⟩
 show wpAny _ _ (if (((sIx items.size 0 lo:Nat):Int)==0&&(1:Int)==1&&(sIx items.size items.size hi-sIx items.size 0 lo)==items.size)=true then _ else _) _ _ s
 rw [if_neg hno,pick_gen]
 first
  | exact wpAny_bind (m:=Builtin.Tuple.tupleExact _) (wpAny_newObj_type (wpAny_pure ⟨_,rfl,wpAny_pure h⟩) htake)
  | exact wpAny_bind (m:=Builtin.Tuple.tupleExact _) (wpAny_newObj_type (wpAny_bind (wpAny_pure (wpAny_pure ⟨_,rfl,wpAny_pure h⟩))) htake)
  | exact wpAny_bind (wpAny_bind (m:=Builtin.Tuple.tupleExact _) (wpAny_newObj_type (wpAny_pure (wpAny_pure ⟨_,rfl,wpAny_pure h⟩)) htake))
  | exact wpAny_bind (wpAny_bind (m:=Builtin.Tuple.tupleExact _) (wpAny_newObj_type (wpAny_pure ⟨_,rfl,wpAny_pure h⟩) htake))
end
end HT
namespace L2
open PySem PySem.Spec PyProof.Rows
abbrev TO:=St->Hp->(Option Int->Hp->Prop)->Prop
def PO (X:Cx)(e:Option Expr)(t:TO):Prop:=
 ∀(pins:List (Addr×Obj)) (s:Shared) (σ:St) (H:Hp) (Q:Option Int->Hp->Prop),Inv X pins σ H s->t σ H Q ->
  wpAny (model X.prog X.w) X.A (evalPart e X.env) (fun u s'=>∃o H',Inv X pins σ H' s'/\IsPart u o/\Q o H') X.xe s
def tNoPart:TO:=fun _ H Q=>Q none H
def tPart (t:TE):TO:=fun σ H Q=>t σ H fun x H1=>∃i,x = .int i/\Q (some i) H1
section
variable {X:Cx}{e:Expr}{te:TE}{lo hi:Option Expr}{tl th:TO}{pos p2:Pos}
theorem po_none:PO X none tNoPart:=by
 intro pins s σ H Q I h
 rw [evalPart_none]
 exact wpAny_pure ⟨none,H,I,.none,h⟩
theorem po_some (h:PE X e te):PO X (some e) (tPart te):=by
 intro pins s σ H Q I hw
 rw [evalPart_some]
 refine thn (h pins s σ H _ I hw) fun u s1 ⟨x,H1,I1,r1,q1⟩=>?_
 obtain⟨i,rfl,q⟩:=q1
 obtain⟨t,rfl⟩:=r1
 exact⟨some i,H1,I1,.int i t,q⟩
def SlR (X:Cx)(r:V->Option Int->Option Int->Hp->VK->Prop):Prop:=
 ∀(pins:List (Addr×Obj)) (s:Shared) (σ:St) (H:Hp) (x:V) (v vl vu:Value) (lo hi:Option Int) (sl:Addr) (Q:VK),Inv X pins σ H s->RelV x v->s.heap.IsSliceOf sl vl vu .none->IsPart vl lo->IsPart vu hi->r x lo hi H Q ->
  ∃T id,typeLookup (.type T) "__getitem__" = pure (some (.builtin id))/\s.TypeIs v T/\wpAny (model X.prog X.w) X.A (getItem v (.ref sl)) (EP X pins σ Q) X.xe s
theorem SlR.or {r r':V->Option Int->Option Int->Hp->VK->Prop}(h:SlR X r)(h':SlR X r'):SlR X (fun x lo hi H Q=>r x lo hi H Q\/r' x lo hi H Q):=by
 intro pins s σ H x v vl vu lo hi sl Q I rx hs pl pu q
 rcases q with q | q
 ·exact h pins s σ H x v vl vu lo hi sl Q I rx hs pl pu q
 ·exact h' pins s σ H x v vl vu lo hi sl Q I rx hs pl pu q
def tSl (r:V->Option Int->Option Int->Hp->VK->Prop)(te:TE)(tl th:TO):TE:=fun σ H Q=>te σ H fun x H1=>tl σ H1 fun l H2=>th σ H2 fun u H3=>r x l u H3 Q
theorem pe_slice {r:V->Option Int->Option Int->Hp->VK->Prop}(hr:SlR X r)(he:PE X e te)(hl:PO X lo tl)(hu:PO X hi th):PE X (.Subscript e (.Slice lo hi none p2) pos) (tSl r te tl th):=by
 intro pins s σ H Q I h
 refine Subscript_ (thn (he pins s σ H _ I h) fun v s1 ⟨x,H1,I1,r1,q1⟩=>?_)
 refine wpAny_Slice (thn (hl pins s1 σ H1 _ I1 q1) fun vl s2 ⟨l,H2,I2,pl,q2⟩=>thn (hu pins s2 σ H2 _ I2 q2) fun vu s3 ⟨u,H3,I3,pu,q3⟩=>?_)
 rw [evalPart_none]
 refine wpAny_pure ?_
 have I4:Inv X pins σ H3 { s3 with heap:=s3.heap.push { cls:=.type "slice",data:=.fields #[vl,vu,.none] } }:=I3.kept (t':=s3.toks) fun b ob q=>Heap.get?_push_of_some _ q
 obtain⟨T,id,hT,ht,hg⟩:=hr pins { s3 with heap:=s3.heap.push { cls:=.type "slice",data:=.fields #[vl,vu,.none] } } σ H3 x v vl vu l u s3.heap.objs.size Q I4 r1 (Heap.IsSliceOf.new ..) pl pu q3
 show wpAny (model X.prog X.w) X.A (subscriptTail e (.Slice lo hi none p2) v (.ref s3.heap.objs.size)) (EP X pins σ Q) X.xe { s3 with heap:=s3.heap.push { cls:=.type "slice",data:=.fields #[vl,vu,.none] } }
 exact tail_any (ops:=[.ref s3.heap.objs.size,v]) ht hT hg (by with_unfolding_all rfl)
def cutV (xs:List V)(lo hi:Option Int):List V:=(xs.drop (HT.sIx xs.length 0 lo)).take (HT.sIx xs.length xs.length hi-HT.sIx xs.length 0 lo)
theorem cutV_length (xs:List V)(lo hi:Option Int):(cutV xs lo hi).length<=xs.length:=by
 unfold cutV
 rw [List.length_take,List.length_drop]
 omega
def rSlT (K:PySem.W.Frag):V->Option Int->Option Int->Hp->VK->Prop:=fun x lo hi H Q=>∃a xs,x = .ref a/\SqT K H a xs /\
 ¬(HT.sIx xs.length 0 lo=0/\HT.sIx xs.length xs.length hi=xs.length)/\∀p,H p=none->Q (.ref p) (upd H p (.tup (cutV xs lo hi)))
theorem sl_tup:SlR X (rSlT X.K):=by
 intro pins s σ H x v vl vu lo hi sl Q I rx hs pl pu h
 obtain⟨a,xs,rfl,hx,hw,q⟩:=h
 cases rx
 obtain⟨its,r,ht,hz⟩:=I.tuple hx
 have hlen:its.toArray.size=xs.length:=by rw [List.size_toArray];exact r.length.symm
 refine⟨"tuple",_,PyProof.Rows.slot_tuple_getitem.lookup,ht.typeIs,?_⟩
 refine HT.getItem_tuple_cut ht hs pl pu (by rw [hlen];exact hw) ?_ (by rw [hlen];exact hz)
 rw [hlen]
 refine⟨.ref s.heap.objs.size,_,I.laid (t':=s.toks) (o:=.tup (cutV xs lo hi)) (fun b ob q=>Heap.get?_push_of_some _ q) (Nat.le_refl _) ?_,rfl,q _ (I.hok.fresh (Nat.le_refl _))⟩
 exact⟨Nat.le_trans (cutV_length xs lo hi) hz,_,(r.drop (HT.sIx xs.length 0 lo)).take (HT.sIx xs.length xs.length hi-HT.sIx xs.length 0 lo),IsTup.new _ _⟩
theorem Vals.nil_iff {xs:List V}{us:List Value}(r:Vals xs us):us=[]↔xs=[]:=by
 cases r with
 | nil=>simp
 | cons _ _=>simp
end
def ixN (n:Nat)(i:Int):Option Nat:=if 0<=i then (if i<n then some i.toNat else none) else if -(n:Int)<=i then some (i+n).toNat else none
def atI {α:Type}(xs:List α)(i:Int):Option α:=(ixN xs.length i).bind fun j=>xs[j]?
theorem ixN_seq {n:Nat}{i:Int}{j:Nat}(h:ixN n i=some j):seqIndex? i n=some j/\j<n/\-(n:Int)<=i/\i<n:=by
 unfold ixN at h
 by_cases h0:0<=i
 ·rw [if_pos h0] at h
  by_cases h1:i<n
  ·rw [if_pos h1] at h
   have e:i.toNat=j:=Option.some.inj h
   exact⟨by rw [seqIndex_of h0 h1,e],by omega,by omega,h1⟩
  ·rw [if_neg h1] at h;cases h
 ·rw [if_neg h0] at h
  by_cases h1:-(n:Int)<=i
  ·rw [if_pos h1] at h
   have e:(i+n).toNat=j:=Option.some.inj h
   exact⟨by rw [seqIndex_neg (by omega) h1,e],by omega,h1,by omega⟩
  ·rw [if_neg h1] at h;cases h
theorem atI_get {α:Type}{xs:List α}{i:Int}{v:α}(h:atI xs i=some v):∃j,seqIndex? i xs.length=some j/\xs[j]?=some v/\j<xs.length/\-(xs.length:Int)<=i/\i<xs.length:=by
 unfold atI at h
 cases e:ixN xs.length i with
 | none=>rw [e] at h;cases h
 | some j=>
  rw [e] at h
  obtain⟨h1,h2,h3,h4⟩:=ixN_seq e
  exact⟨j,h1,h,h2,h3,h4⟩
def PlainIx (b:Expr):Prop:=∀o i,subscripted b false o i=operate [o,i] (getItem o i)
def IxR (X:Cx)(r:R2):Prop:=
 ∀(value slice:Expr) (pins:List (Addr×Obj)) (s:Shared) (σ:St) (H:Hp) (x y:V) (v u:Value) (Q:VK),Inv X pins σ H s->RelV x v->RelV y u->r x y H Q ->
  subscripted slice false v u=operate [v,u] (getItem v u)->wpAny (model X.prog X.w) X.A (subscriptTail value slice v u) (EP X pins σ Q) X.xe s
def MtR (X:Cx)(id:String)(r:V->List V->Hp->VK->Prop):Prop:=
 ∀(pins:List (Addr×Obj)) (s:Shared) (σ:St) (H:Hp) (x:V) (xs:List V) (v:Value) (us:List Value) (Q:VK),Inv X pins σ H s->RelV x v->Vals xs us->r x xs H Q ->
  wpAny (model X.prog X.w) X.A (call (.builtin id) (v::us)) (EP X pins σ Q) X.xe s
section
variable {X:Cx}{a b:Expr}{ta tb:TE}{pos:Pos}
theorem IxR.or {r r':R2}(h:IxR X r)(h':IxR X r'):IxR X (fun x y H Q=>r x y H Q\/r' x y H Q):=by
 intro value slice pins s σ H x y v u Q I rx ry q hs
 rcases q with q | q
 ·exact h value slice pins s σ H x y v u Q I rx ry q hs
 ·exact h' value slice pins s σ H x y v u Q I rx ry q hs
theorem pe_ix {r:R2}(hr:IxR X r)(ha:PE X a ta)(hb:PE X b tb)(hs:PlainIx b):PE X (.Subscript a b pos) (tOp r ta tb):=by
 intro pins s σ H Q I h
 exact Subscript_ (binT ha hb I h fun v u s2 x y H2 I2 rx ry q=>hr a b pins s2 σ H2 x y v u Q I2 rx ry q (hs _ _))
def rIxL (K:PySem.W.Frag):R2:=fun x y H Q=>∃p xs i v,x = .ref p/\y = .int i/\SqL K H p xs/\atI xs i=some v/\Q v H
def rIxT (K:PySem.W.Frag):R2:=fun x y H Q=>∃p xs i v,x = .ref p/\y = .int i/\SqT K H p xs/\atI xs i=some v/\Q v H
theorem ix_list:IxR X (rIxL X.K):=by
 intro value slice pins s σ H x y v u Q I rx ry h hs
 obtain⟨p,xs,i,z,rfl,rfl,hq,he,q⟩:=h
 cases rx
 obtain⟨t,rfl⟩:=ry
 obtain⟨its,r,pl,hz⟩:=I.list hq
 obtain⟨j,h1,h2,h3,h4,h5⟩:=atI_get he
 obtain⟨w,ew,rw'⟩:=r.get h2
 have hl:=r.length
 have hn:=line63
 have fin:EP X pins σ Q w s:=⟨z,H,I,rw',q⟩
 by_cases h0:0<=i
 ·have hj:i.toNat=j:=by
   rw [seqIndex_of h0 h5] at h1
   exact Option.some.inj h1
  exact item_listR pl.isList h0 (by omega) (by rw [hj];simpa using ew) fin hs
 ·have hj:(i+(its.toArray.size:Int)).toNat=j:=by
   rw [seqIndex_neg (by omega) h4] at h1
   rw [List.size_toArray,<-hl]
   exact Option.some.inj h1
  exact subscriptTail_builtinR (x:=w) pl.isList.typeIs slot_list_getitem.lookup
   (wpAny_getItem_list_neg (Q:=fun r s'=>r=w/\EP X pins σ Q r s') pl.isList (by omega) (by rw [List.size_toArray]<;>omega) (by omega) (by rw [hj];simpa using ew) ⟨rfl,fin⟩) hs
theorem ix_tup:IxR X (rIxT X.K):=by
 intro value slice pins s σ H x y v u Q I rx ry h hs
 obtain⟨p,xs,i,z,rfl,rfl,hq,he,q⟩:=h
 cases rx
 obtain⟨t,rfl⟩:=ry
 obtain⟨its,r,pl,hz⟩:=I.tuple hq
 obtain⟨j,h1,h2,h3,h4,h5⟩:=atI_get he
 obtain⟨w,ew,rw'⟩:=r.get h2
 have hl:=r.length
 have hn:=line63
 have fin:EP X pins σ Q w s:=⟨z,H,I,rw',q⟩
 exact subscriptTail_builtinR (x:=w) pl.typeIs slot_tuple_getitem.lookup
  (getItem_tuple (j:=j) (Q:=fun r s'=>r=w/\EP X pins σ Q r s') pl (by omega) (by omega) (by rw [List.size_toArray,<-hl];exact h1) (by simpa using ew) ⟨rfl,fin⟩) hs
theorem mapSeq_set (its:List Value)(n j:Nat)(u:Value):Obj.mapSeq (·.setIfInBounds j u) { cls:=.type "list",data:=.seq its.toArray n }={ cls:=.type "list",data:=.seq (its.set j u).toArray n }:=by
 simp [Obj.mapSeq]
theorem Inv.lst {pins:List (Addr×Obj)}{σ:St}{H:Hp}{s:Shared}{p:Addr}{xs:List V}(I:Inv X pins σ H s)(h:H p=some (.lst xs)):
 ∃(its:List Value) (n:Nat),Vals xs its/\s.heap.get? p=some { cls:=.type "list",data:=.seq its.toArray n }/\xs.length<=sizeLine:=by
 obtain⟨z,its,n,r,e⟩:=I.hok p _ h
 exact⟨its,n,r,e,z⟩
theorem Inv.lstUpd {pins:List (Addr×Obj)}{σ:St}{H:Hp}{s:Shared}{p:Addr}{xs ys:List V}{its its':List Value}{n n':Nat}{f:Obj->Obj}(I:Inv X pins σ H s)(h:H p=some (.lst xs))
 (ho:s.heap.get? p=some { cls:=.type "list",data:=.seq its.toArray n }) (hf:f { cls:=.type "list",data:=.seq its.toArray n }={ cls:=.type "list",data:=.seq its'.toArray n' }) (r:Vals ys its') (hz:ys.length<=sizeLine) (t:Nat):
 Inv X pins σ (upd H p (.lst ys)) { s with heap:=s.heap.update p f,toks:=t }:=by
 have e:(s.heap.update p f).get? p=some { cls:=.type "list",data:=.seq its'.toArray n' }:=by
  rw [Heap.get?_update_self f ho (by rw [hf]<;>rfl),hf]
 refine I.write (x:=p) (e:=p) (by rw [h];trivial) (.inl rfl) (fun b u hb q=>(Heap.get?_update_other _ _ (Ne.symm hb)).trans q) ⟨_,e⟩ ?_
 exact⟨hz,its',n',r,e⟩
def rSetL:V->V->V->Hp->(Hp->Prop)->Prop:=fun o i v H Q=>∃p xs k j,o = .ref p/\i = .int k/\H p=some (.lst xs)/\ixN xs.length k=some j/\Q (upd H p (.lst (xs.set j v)))
theorem set_list:PSet X rSetL:=by
 intro pins s σ H o i v ov iv u Q I ro ri rv h
 obtain⟨p,xs,k,j,rfl,rfl,hp,hj,q⟩:=h
 cases ro
 obtain⟨t,rfl⟩:=ri
 obtain⟨its,n,r,ho,hz⟩:=I.lst hp
 obtain⟨h1,h2,h3,h4⟩:=ixN_seq hj
 have hl:=r.length
 have hn:=line63
 have I':Inv X pins σ (upd H p (.lst (xs.set j v))) { s with heap:=s.heap.update p (Obj.mapSeq (·.setIfInBounds j u)) }:=
  I.lstUpd hp ho (mapSeq_set its n j u) (r.set rv j) (by rw [List.length_set];exact hz) s.toks
 by_cases h0:0<=k
 ·have hk:k.toNat=j:=by
   rw [seqIndex_of h0 h4] at h1
   exact Option.some.inj h1
  exact PySem.W.ki_setAt ho h0 (by omega) (by rw [List.size_toArray,<-hl];exact h4) (by rw [hk];exact⟨_,I',q⟩)
 ·have hk:(k+(its.toArray.size:Int)).toNat=j:=by
   rw [seqIndex_neg (by omega) h3] at h1
   rw [List.size_toArray,<-hl]
   exact Option.some.inj h1
  exact PySem.W.ki_setBack ho (by omega) (by rw [List.size_toArray,<-hl];exact h3) (by omega) (by rw [hk];exact⟨_,I',q⟩)
def flatV:V->Bool
 | .non=>true
 | .bl _=>true
 | .int _=>true
 | .str _=>true
 | _=>false
def eqV:V->V->Bool
 | .non,.non=>true
 | .bl a,.bl b=>a==b
 | .bl a,.int b=>(if a then 1 else 0)==b
 | .int a,.bl b=>a==(if b then 1 else 0)
 | .int a,.int b=>a==b
 | .str a,.str b=>a==b
 | _,_=>false
theorem eqAt_V {A:Around}{s:Shared}{y x:V}{u v:Value}(ry:RelV y u)(rx:RelV x v)(fy:flatV y=true)(fx:flatV x=true):SeqAt.EqAt A s u v (eqV y x):=by
 cases y with
 | non=>
  cases ry
  cases x with
  | non=>cases rx;exact SeqAt.EqAt.same _
  | bl b=>cases rx;exact SeqAt.EqAt.none_bool b
  | int b=>obtain⟨t,rfl⟩:=rx;exact SeqAt.EqAt.none_int b t
  | str b=>obtain⟨t,rfl⟩:=rx;exact SeqAt.EqAt.none_str b t
  | _=>exact absurd (show false=true from fx) Bool.false_ne_true
 | bl a=>
  cases ry
  cases x with
  | non=>cases rx;exact SeqAt.EqAt.bool_none a
  | bl b=>cases rx;exact SeqAt.EqAt.bool_bool a b
  | int b=>obtain⟨t,rfl⟩:=rx;exact SeqAt.EqAt.bool_int a b t
  | str b=>obtain⟨t,rfl⟩:=rx;exact SeqAt.EqAt.bool_str a b t
  | _=>exact absurd (show false=true from fx) Bool.false_ne_true
 | int a=>
  obtain⟨t',rfl⟩:=ry
  cases x with
  | non=>cases rx;exact SeqAt.EqAt.int_none a t'
  | bl b=>cases rx;exact SeqAt.EqAt.int_bool a t' b
  | int b=>obtain⟨t,rfl⟩:=rx;exact SeqAt.EqAt.int_int a t' b t
  | str b=>obtain⟨t,rfl⟩:=rx;exact SeqAt.EqAt.int_str a t' b t
  | _=>exact absurd (show false=true from fx) Bool.false_ne_true
 | str a=>
  obtain⟨t',rfl⟩:=ry
  cases x with
  | non=>cases rx;exact SeqAt.EqAt.str_none a t'
  | bl b=>cases rx;exact SeqAt.EqAt.str_bool a t' b
  | int b=>obtain⟨t,rfl⟩:=rx;exact SeqAt.EqAt.str_int a t' b t
  | str b=>obtain⟨t,rfl⟩:=rx;exact SeqAt.EqAt.str_str a t' b t
  | _=>exact absurd (show false=true from fx) Bool.false_ne_true
 | _=>exact absurd (show false=true from fy) Bool.false_ne_true
def eqU (x:V)(u:Value):Bool:=match u with
 | .none=>eqV .non x
 | .bool b=>eqV (.bl b) x
 | .int i _=>eqV (.int i) x
 | .str z _=>eqV (.str z) x
 | _=>false
theorem eqU_of {x y:V}{u:Value}(r:RelV y u)(f:flatV y=true):eqU x u=eqV y x:=by
 cases y with
 | non=>cases r;rfl
 | bl b=>cases r;rfl
 | int i=>obtain⟨t,rfl⟩:=r;rfl
 | str z=>obtain⟨t,rfl⟩:=r;rfl
 | _=>exact absurd (show false=true from f) Bool.false_ne_true
theorem any_eqU {x:V}:∀{xs:List V} {us:List Value},Vals xs us->xs.all flatV=true->us.any (eqU x)=xs.any fun y=>eqV y x
 | _,_,.nil,_=>rfl
 | y::xs,u::us,.cons r t,f=>by
  rw [List.all_cons,Bool.and_eq_true] at f
  rw [List.any_cons,List.any_cons,eqU_of r f.1,any_eqU t f.2]
theorem mem_eqAt {A:Around}{s:Shared}{x:V}{v:Value}(rx:RelV x v)(fx:flatV x=true):∀{xs:List V} {us:List Value},Vals xs us->xs.all flatV=true->∀u∈us,SeqAt.EqAt A s u v (eqU x u)
 | _,_,.nil,_=>fun u hu=>by cases hu
 | y::xs,u::us,.cons r t,f=>fun u' hu=>by
  rw [List.all_cons,Bool.and_eq_true] at f
  rcases List.mem_cons.mp hu with rfl | hu
  ·rw [eqU_of r f.1];exact eqAt_V r rx f.1 fx
  ·exact mem_eqAt rx fx t f.2 u' hu
def inV (x:V)(xs:List V):Bool:=xs.any fun y=>eqV y x
def rIn (K:PySem.W.Frag)(neg:Bool):R2:=fun x y H Q=>∃p xs,y = .ref p/\(SqL K H p xs\/SqT K H p xs)/\flatV x=true/\xs.all flatV=true/\Q (.bl (if neg then !inV x xs else inV x xs)) H
theorem op_in_seq:OpR X (compareOp .In) (rIn X.K false):=by
 intro pins s σ H x y v u Q I rx ry h
 obtain⟨p,xs,rfl,hq,fx,fs,q⟩:=h
 cases ry
 rcases hq with hq | hq
 ·obtain⟨its,r,pl,hz⟩:=I.list hq
  refine SeqAt.in_listAt (eqU x) pl.isList (fun w hw=>mem_eqAt rx fx r fs w (by simpa using hw)) ⟨.bl _,H,I,rfl,?_⟩
  rw [show its.toArray.any (eqU x)=its.any (eqU x) by simp,any_eqU r fs]
  exact q
 ·obtain⟨its,r,pl,hz⟩:=I.tuple hq
  refine SeqAt.in_tupleAt (eqU x) pl (fun w hw=>mem_eqAt rx fx r fs w (by simpa using hw)) ⟨.bl _,H,I,rfl,?_⟩
  rw [show its.toArray.any (eqU x)=its.any (eqU x) by simp,any_eqU r fs]
  exact q
theorem op_notIn_seq:OpR X (compareOp .NotIn) (rIn X.K true):=by
 intro pins s σ H x y v u Q I rx ry h
 obtain⟨p,xs,rfl,hq,fx,fs,q⟩:=h
 cases ry
 rcases hq with hq | hq
 ·obtain⟨its,r,pl,hz⟩:=I.list hq
  refine SeqAt.notIn_listAt (eqU x) pl.isList (fun w hw=>mem_eqAt rx fx r fs w (by simpa using hw)) ⟨.bl _,H,I,rfl,?_⟩
  rw [show its.toArray.any (eqU x)=its.any (eqU x) by simp,any_eqU r fs]
  exact q
 ·obtain⟨its,r,pl,hz⟩:=I.tuple hq
  refine SeqAt.notIn_tupleAt (eqU x) pl (fun w hw=>mem_eqAt rx fx r fs w (by simpa using hw)) ⟨.bl _,H,I,rfl,?_⟩
  rw [show its.toArray.any (eqU x)=its.any (eqU x) by simp,any_eqU r fs]
  exact q
theorem op_notIn_str:OpR X (compareOp .NotIn) (fun x y H Q=>∃i j,x = .str i/\y = .str j/\Q (.bl (!(!(Builtin.Str.occurrences j i 0 j.length 1).isEmpty))) H):=by
 intro pins s σ H x y v u Q I rx ry h
 obtain⟨i,j,rfl,rfl,q⟩:=h
 obtain⟨t,rfl⟩:=rx
 obtain⟨t',rfl⟩:=ry
 exact notIn_str ⟨.bl _,H,I,rfl,q⟩
theorem CallR.or {f:Value}{r r':List V->Hp->VK->Prop}(h:CallR X f r)(h':CallR X f r'):CallR X f (fun xs H Q=>r xs H Q\/r' xs H Q):=by
 intro pins s σ H xs us Q I rs q
 rcases q with q | q
 ·exact h pins s σ H xs us Q I rs q
 ·exact h' pins s σ H xs us Q I rs q
theorem call_list_of:CallR X (.type "list") (fun xs H Q=>∃p ys,xs=[.ref p]/\(SqL X.K H p ys\/SqT X.K H p ys)/\∀l,H l=none->Q (.ref l) (upd H l (.lst ys))):=by
 intro pins s σ H xs us Q I r h
 obtain⟨p,ys,rfl,hq,q⟩:=h
 obtain⟨u,rfl,rx⟩:=vals1 r
 cases rx
 have fin:∀(its:List Value),Vals ys its->ys.length<=sizeLine->∀(h':Heap) (c':Nat),(∀b o',s.heap.get? b=some o'->h'.get? b=some o') ->
  h'.get? s.heap.objs.size=some { cls:=.type "list",dict:=none,data:=.seq its.toArray c',slots:=#[] }->EP X pins σ Q (.ref s.heap.objs.size) { s with heap:=h' }:=fun its r' hz h' c' kp e=>
  ⟨.ref s.heap.objs.size,_,I.laid (t':=s.toks) kp (Nat.le_refl _) (show ObjOk X.prog X.w _ h' _ (.lst ys) from ⟨hz,its,c',r',e⟩),rfl,q _ (I.hok.fresh (Nat.le_refl _))⟩
 rcases hq with hq | hq
 ·obtain⟨its,r',pl,hz⟩:=I.list hq
  have hlen:=r'.length
  obtain⟨o,ho,hc,n,hd⟩:=pl.isList
  exact call_list_seq p (.inl rfl) ho hc hd (fun h' c' kp e=>fin its r' hz h' c' kp e) (by simp only [List.size_toArray]<;>omega)
 ·obtain⟨its,r',pl,hz⟩:=I.tuple hq
  have hlen:=r'.length
  obtain⟨o,ho,hc,n,hd⟩:=pl
  exact call_list_seq p (.inr rfl) ho hc hd (fun h' c' kp e=>fin its r' hz h' c' kp e) (by simp only [List.size_toArray]<;>omega)
theorem call_tuple_of:CallR X (.type "tuple") (fun xs H Q=>∃p ys,xs=[.ref p]/\((SqL X.K H p ys/\∀l,H l=none->Q (.ref l) (upd H l (.tup ys)))\/(SqT X.K H p ys/\Q (.ref p) H))):=by
 intro pins s σ H xs us Q I r h
 obtain⟨p,ys,rfl,h⟩:=h
 obtain⟨u,rfl,rx⟩:=vals1 r
 cases rx
 rcases h with⟨hq,q⟩|⟨hq,q⟩
 ·obtain⟨its,r',pl,hz⟩:=I.list hq
  have hlen:=r'.length
  refine call_tuple_list pl.isList (fun h' kp=>?_) (by simp only [List.size_toArray]<;>omega)
  have I1:Inv X pins σ H { s with heap:=h' }:=I.kept (t':=s.toks) kp
  have I2:Inv X pins σ (upd H h'.objs.size (.tup ys)) { s with heap:=h'.push { cls:=.type "tuple",data:=.seq its.toArray } }:=
   I1.laid (t':=s.toks) (fun b o e=>Heap.get?_push_of_some _ e) (Nat.le_refl _) (show ObjOk X.prog X.w _ _ _ (.tup ys) from ⟨hz,its,r',IsTup.new _ _⟩)
  exact⟨.ref h'.objs.size,_,I2,rfl,q _ (I1.hok.fresh (Nat.le_refl _))⟩
 ·obtain⟨its,r',pl,hz⟩:=I.tuple hq
  exact call_tuple_same pl ⟨.ref p,H,I,rfl,q⟩
def tyV (K:PySem.W.Frag)(T:String)(x:V)(H:Hp):Prop:=match x with
 | .str _=>T = "str"
 | .int _=>T = "int"
 | .ref p=>(T = "list"/\∃xs,SqL K H p xs)\/(T = "tuple"/\∃o,K.lookup p=some o/\o.cls = .type "tuple"/\o.dict=none) \/
  (T = "dict"/\((∃kvs,H p=some (.dK kvs))\/∃kvs,H p=some (.dT kvs)))\/(T = "set"/\∃S n,H p=some (.set S n))
 | _=>False
theorem tyV_is {pins:List (Addr×Obj)}{σ:St}{H:Hp}{s:Shared}{T:String}{x:V}{v:Value}(I:Inv X pins σ H s)(r:RelV x v)(ty:tyV X.K T x H):
 s.TypeIs v T/\∀a,v = .ref a->∃ob,s.heap.get? a=some ob/\ob.dict=none:=by
 cases x with
 | str z=>
  obtain⟨t,rfl⟩:=r
  cases (show T = "str" from ty)
  exact⟨typeIs_str s z t,fun _ e=>nomatch e⟩
 | int i=>
  obtain⟨t,rfl⟩:=r
  cases (show T = "int" from ty)
  exact⟨typeIs_int s i t,fun _ e=>nomatch e⟩
 | ref p=>
  cases r
  rcases ty with⟨rfl,xs,hq⟩|⟨rfl,o,hk,hc,hd⟩|⟨rfl,hk⟩|⟨rfl,S,n,hk⟩
  ·obtain⟨its,_,pl,_⟩:=I.list hq
   refine⟨pl.isList.typeIs,fun a e=>?_⟩
   cases e
   obtain⟨o,n,e,c,hd,_⟩:=pl
   exact⟨o,e,hd⟩
  ·refine⟨⟨o,I.kIn p o hk,hc⟩,fun a e=>?_⟩
   cases e
   exact⟨o,I.kIn _ o hk,hd⟩
  ·have z:∃o,s.heap.get? p=some o/\o.ExactDict:=by
    rcases hk with⟨kvs,hk⟩|⟨kvs,hk⟩
    ·obtain⟨_,_,_,_,o,_,_,e,ex,_⟩:=I.hok p _ hk
     exact⟨o,e,ex⟩
    ·obtain⟨_,_,_,_,o,_,_,e,ex,_⟩:=I.hok p _ hk
     exact⟨o,e,ex⟩
   obtain⟨o,e,ex⟩:=z
   refine⟨⟨o,e,ex.1⟩,fun a e2=>?_⟩
   cases e2
   exact⟨o,e,ex.2.1⟩
  ·obtain⟨o,_,_,_,e,ex,_⟩:=I.hok p _ hk
   refine⟨⟨o,e,ex.1⟩,fun a e2=>?_⟩
   cases e2
   exact⟨o,e,ex.2.1⟩
 | _=>exact False.elim ty
def tBM (K:PySem.W.Frag)(T:String)(r:V->List V->Hp->VK->Prop)(to:TE)(t:TA):TE:=fun σ H Q=>to σ H fun x H1=>tyV K T x H1/\t σ H1 fun xs H2=>r x xs H2 Q
variable {o e:Expr}{es:List Expr}{to:TE}{t:TA}{name:Str}{apos cpos:Pos}{T id:String}{r:V->List V->Hp->VK->Prop}
theorem pe_bm (pa:PlainAttrs T)(slot:Slot T name id)(hty:typeOf (.builtin id)=pure (.type "method_descriptor"))(hm:MtR X id r)(ho:PE X o to)(ha:PA X (e::es) t)
 (hbase:attributeBase o name X.env (eval o X.env)=eval o X.env:=by rfl)
 (hfew:((backTo cpos (starEach (e::es) X.env)).all (fun x=>!x.1)&&(backToKw cpos (keywordEach [] X.env)).all (fun x=>x.1.isSome)
   && decide ((e::es).length+([]:List Keyword).length+(if ([]:List Keyword).isEmpty then 0 else 1)<30))=true:=by rfl)
 (hline:(apos.endLine==cpos.line)=true:=by rfl) (hs:starEach (e::es) X.env=(false,eval e X.env)::starEach es X.env:=by rfl) (hplain:(backTo cpos (starEach es X.env)).any (·.1)=false:=by rfl):
 PE X (.Call (.Attribute o name apos) (e::es) [] cpos) (tBM X.K T r to t):=by
 intro pins s σ H Q I h
 refine wpAny_Call_method_late hbase hfew hline rfl (thn (ho pins s σ H _ I h) fun v s1 ⟨x,H1,I1,r1,ty,q1⟩=>?_)
 obtain⟨h1,h2⟩:=tyV_is I1 r1 ty
 refine⟨T,id,pa,slot,hty,h1,h2,?_⟩
 have hA:=ha cpos pins s1 σ H1 _ I1 q1
 rw [hs] at hA ⊢
 refine Calls.callWith_builtin (by show (false||(backTo cpos (starEach es X.env)).any (·.1))=false;rw [hplain]<;>rfl) (Calls.evalArgs_plain ?_)
 exact thn hA fun us s2 ⟨vs,H2,I2,r2,q2⟩=>hm pins s2 σ H2 x vs v us Q I2 r1 r2 q2
end
def MtM (X:Cx)(id:String)(r:V->List V->Hp->VK->Prop):Prop:=
 ∀(pins:List (Addr×Obj)) (s:Shared) (σ:St) (H:Hp) (x:V) (xs:List V) (v:Value) (us:List Value) (Q:VK),Inv X pins σ H s->RelV x v->Vals xs us->r x xs H Q ->
  wpAny (model X.prog X.w) X.A (call (.builtin id) (v::us)) (EP X pins σ Q) X.xe s
theorem Vals.one:∀{x:V} {us:List Value},Vals [x] us->∃u,us=[u]/\RelV x u
 | _,_,.cons r .nil=>⟨_,rfl,r⟩
theorem Vals.rep {xs:List V}{us:List Value}(h:Vals xs us):∀k:Nat,Vals (List.replicate k xs).flatten (List.replicate k us).flatten
 | 0=>.nil
 | k+1=>by
  rw [List.replicate_succ,List.replicate_succ,List.flatten_cons,List.flatten_cons]
  exact Vals.append h (Vals.rep h k)
theorem foldl_rep (its:List Value):∀(k:Nat) (acc:List Value),
 List.foldl (fun x1 x2=>x1++x2) acc.toArray (List.replicate k its.toArray)=(acc++(List.replicate k its).flatten).toArray
 | 0,acc=>by simp
 | k+1,acc=>by
  have e:acc.toArray++its.toArray=(acc++its).toArray:=by simp
  have e2:(acc++its)++(List.replicate k its).flatten=acc++(List.replicate (k+1) its).flatten:=by
   rw [List.replicate_succ,List.flatten_cons,List.append_assoc]
  rw [<-e2,<-foldl_rep its k (acc++its),<-e,List.replicate_succ,List.foldl_cons]
section
variable {X:Cx}{pins:List (Addr×Obj)}{σ:St}{H:Hp}{s:Shared}{l b:Addr}{xs ys zs:List V}
theorem Inv.lset {its its':List Value}{n:Nat}{f:Array Value->Array Value}{t':Nat}(I:Inv X pins σ H s)(hH:H l=some (.lst xs))
 (e:s.heap.get? l=some { cls:=.type "list",data:=.seq its.toArray n }) (hf:f its.toArray=its'.toArray) (hv:Vals ys its') (hz:ys.length<=sizeLine):
 Inv X pins σ (upd H l (.lst ys)) { s with heap:=s.heap.update l (Obj.mapSeq f),toks:=t' }:=by
 have q:=PySem.IsL.update e f
 rw [hf] at q
 refine I.write (x:=l) (e:=l) (by rw [hH];exact trivial) (.inl rfl) (fun b' u hb hu=>(Heap.get?_update_other s.heap (Obj.mapSeq f) (Ne.symm hb)).trans hu) ⟨_,q⟩ ?_
 exact⟨hz,its',_,hv,q⟩
theorem Inv.lnew {its:List Value}{t':Nat}(I:Inv X pins σ H s)(hv:Vals ys its)(hz:ys.length<=sizeLine):
 Inv X pins σ (upd H s.heap.objs.size (.lst ys)) { s with heap:=s.heap.push { cls:=.type "list",data:=.seq its.toArray },toks:=t' }:=
 I.laid (fun _ _ q=>Heap.get?_push_of_some _ q) (Nat.le_refl _) ⟨hz,its,0,hv,Heap.get?_push_size _ rfl⟩
theorem Inv.fresh (I:Inv X pins σ H s):H s.heap.objs.size=none:=I.hok.fresh (Nat.le_refl _)
theorem Inv.lstM (I:Inv X pins σ H s)(hH:H l=some (.lst xs)):xs.length<=sizeLine/\∃(its:List Value) (n:Nat),Vals xs its/\xs.length=its.length/\s.heap.get? l=some { cls:=.type "list",data:=.seq its.toArray n }:=by
 obtain⟨z,its,n,r,e⟩:=I.hok l _ hH
 exact⟨z,its,n,r,r.length,e⟩
end
section
variable {X:Cx}
def rAppend:V->List V->Hp->VK->Prop:=fun x vs H Q=>∃l xs y,x = .ref l/\vs=[y]/\H l=some (.lst xs)/\xs.length<sizeLine/\Q .non (upd H l (.lst (xs++[y])))
theorem mt_append:MtM X "list.append" rAppend:=by
 intro pins s σ H x vs v us Q I rx rv h
 obtain⟨l,xs,y,rfl,rfl,hH,hz,q⟩:=h
 cases rx
 obtain⟨u,rfl,ru⟩:=rv.one
 obtain⟨z,its,n,r,hl,e⟩:=I.lstM hH
 refine call_meets F.slot_list_append ⟨_,e,rfl⟩ F.entry_list_append (F.args_list_append_2 _ _) (PySem.list_append l its.toArray n u (by rw [List.size_toArray];omega)) ⟨e,?_⟩
 refine⟨.non,_,I.lset (its':=its++[u]) hH e (by simp) (r.append (.cons ru .nil)) ?_,rfl,q⟩
 rw [List.length_append,List.length_singleton]
 omega
def rCat:R2:=fun x y H Q=>∃l b xs zs,x = .ref l/\y = .ref b/\H l=some (.lst xs)/\H b=some (.lst zs)/\xs.length+zs.length<=sizeLine/\∀p,H p=none->Q (.ref p) (upd H p (.lst (xs++zs)))
theorem op_cat:OpR X (binaryOp .Add) rCat:=by
 intro pins s σ H x y v u Q I rx ry h
 obtain⟨l,b,xs,zs,rfl,rfl,hH,hB,hz,q⟩:=h
 cases rx
 cases ry
 obtain⟨z,its,n,r,hl,e⟩:=I.lstM hH
 obtain⟨z2,its2,n2,r2,hl2,e2⟩:=I.lstM hB
 refine PySem.P.add_list e e2 ?_ (by rw [List.size_toArray,List.size_toArray];omega)
 have ea:its.toArray++its2.toArray=(its++its2).toArray:=by simp
 rw [ea]
 exact⟨.ref _,_,I.lnew (t':=s.toks) (r.append r2) (by rw [List.length_append];omega),rfl,q _ I.fresh⟩
theorem len_rep {α:Type}(xs:List α)(k:Nat):(List.replicate k xs).flatten.length=k*xs.length:=by
 induction k with
 | zero=>simp
 | succ k ih=>rw [List.replicate_succ,List.flatten_cons,List.length_append,ih,Nat.succ_mul,Nat.add_comm]
end
section
variable {prog:Program}{w:World}{A:Around}{E:Value->Shared->Prop}{s:Shared}
set_option maxRecDepth 100000 in
end
section
variable {X:Cx}
end
section
variable {κ:Type}[DecidableEq κ]
def valV (kvs:List (κ×V))(k:κ):Option V:=(kvs.find? fun kv=>decide (kv.1=k)).map (·.2)
def putK (kvs:List (κ×V))(k:κ)(v:V):List (κ×V):=
 if (kvs.any fun kv=>decide (kv.1=k))=true then kvs.map (fun kv=>if kv.1=k then (kv.1,v) else kv) else kvs++[(k,v)]
theorem valV_pos {p:κ×V}{r:List (κ×V)}{k:κ}(e:p.1=k):valV (p::r) k=some p.2:=by simp [valV,List.find?_cons,e]
theorem valV_neg {p:κ×V}{r:List (κ×V)}{k:κ}(e:¬p.1=k):valV (p::r) k=valV r k:=by simp [valV,List.find?_cons,e]
theorem valV_any (k:κ):∀kvs:List (κ×V),(kvs.any fun kv=>decide (kv.1=k))=(valV kvs k).isSome
 | []=>rfl
 | p::r=>by
  rw [List.any_cons]
  by_cases e:p.1=k
  ·simp only [valV_pos e,decide_eq_true e,Bool.true_or,Option.isSome_some]
  ·rw [valV_neg e,decide_eq_false e,Bool.false_or];exact valV_any k r
theorem length_putK (kvs:List (κ×V))(k:κ)(v:V):(putK kvs k v).length<=kvs.length+1:=by
 unfold putK
 split
 ·rw [List.length_map];omega
 ·rw [List.length_append,List.length_cons,List.length_nil];omega
theorem RelO.isSome_eq {o:Option V}{u:Option Value}(r:RelO o u):o.isSome=u.isSome:=by
 cases o with
 | none=>cases u with
  | none=>rfl
  | some _=>exact (show False from r).elim
 | some _=>cases u with
  | none=>exact (show False from r).elim
  | some _=>rfl
theorem KV.val {kvs:List (κ×V)}{vs:List (κ×Value)}(r:KV kvs vs)(k:κ):RelO (valV kvs k) (valueAt vs k):=by
 unfold KV at r
 induction r with
 | nil=>exact True.intro
 | @cons p q ps qs h t ih=>
  obtain⟨h1,h2⟩:=h
  by_cases e:p.1=k
  ·have e':q.1=k:=h1.symm.trans e
   have b:valueAt (q::qs) k=some q.2:=by simp [valueAt,List.find?_cons,e']
   rw [valV_pos e,b];exact h2
  ·have e':¬q.1=k:=fun z=>e (h1.trans z)
   have b:valueAt (q::qs) k=valueAt qs k:=by simp [valueAt,List.find?_cons,e']
   rw [valV_neg e,b];exact ih
theorem KV.any {kvs:List (κ×V)}{vs:List (κ×Value)}(r:KV kvs vs)(k:κ):(kvs.any fun kv=>decide (kv.1=k))=vs.any fun kv=>decide (kv.1=k):=by
 unfold KV at r
 induction r with
 | nil=>rfl
 | cons h t ih=>rw [List.any_cons,List.any_cons,ih,h.1]
theorem KV.repl {kvs:List (κ×V)}{vs:List (κ×Value)}(r:KV kvs vs)(k:κ){y:V}{u:Value}(ry:RelV y u):
 KV (kvs.map fun kv=>if kv.1=k then (kv.1,y) else kv) (vs.map fun kv=>if kv.1=k then (kv.1,u) else kv):=by
 unfold KV at r ⊢
 induction r with
 | nil=>exact .nil
 | @cons p q ps qs h t ih=>
  rw [List.map_cons,List.map_cons]
  refine .cons ?_ ih
  obtain⟨h1,h2⟩:=h
  by_cases e:p.1=k
  ·rw [if_pos e,if_pos (h1.symm.trans e)];exact⟨h1,ry⟩
  ·rw [if_neg e,if_neg (fun z=>e (h1.trans z))];exact⟨h1,h2⟩
theorem KV.put {kvs:List (κ×V)}{vs:List (κ×Value)}(r:KV kvs vs)(k:κ){y:V}{u:Value}(ry:RelV y u):KV (putK kvs k y) (stored vs k u):=by
 unfold putK stored
 rw [r.any k]
 by_cases e:(vs.any fun kv=>decide (kv.1=k))=true
 ·rw [if_pos e,if_pos e];exact r.repl k ry
 ·rw [if_neg e,if_neg e];exact Paired.snoc r ⟨rfl,ry⟩
theorem KV.length {kvs:List (κ×V)}{vs:List (κ×Value)}(r:KV kvs vs):kvs.length=vs.length:=Paired.length r
end
theorem kV_is {P:Program}{w:World}{k:Key}{u:Value}(r:RelV (kV k) u):(mixKind P w).is k u=true:=by
 cases k with
 | inl i=>obtain⟨t,e⟩:=(show ∃t,u=Value.int i t from r);subst e;exact mixKind_int P w i t
 | inr x=>obtain⟨t,e⟩:=(show ∃t,u=Value.str x t from r);subst e;exact mixKind_str P w x t
theorem items_are {P:Program}{w:World}:∀{ks:List Key} {us:List Value},Vals (ks.map kV) us->ItemsAre (mixKind P w) ks us
 | [],_,r=>by rw [List.map_nil] at r;cases r;exact .nil
 | k::ks,_,r=>by
  rw [List.map_cons] at r
  cases r with
  | cons h t=>exact .cons (kV_is h) (items_are t)
abbrev KT (H:Hp):List (List Key×V)->List (List Key×Addr×Value)->Prop:=Paired fun p q=>p.1=q.1/\H q.2.1=some (.tup (p.1.map kV))/\RelV p.2 q.2.2
theorem KT.val {H:Hp}{kvs:List (List Key×V)}{xs:List (List Key×Addr×Value)}(r:KT H kvs xs)(k:List Key):RelO (valV kvs k) ((atKey xs k).map (·.2)):=by
 induction r with
 | nil=>exact True.intro
 | @cons p q ps qs h t ih=>
  obtain⟨h1,_,h2⟩:=h
  by_cases e:p.1=k
  ·have e':q.1=k:=h1.symm.trans e
   have b:atKey (q::qs) k=some q.2:=by simp [atKey,List.find?_cons,e']
   rw [valV_pos e,b];exact h2
  ·have e':¬q.1=k:=fun z=>e (h1.trans z)
   have b:atKey (q::qs) k=atKey qs k:=by simp [atKey,List.find?_cons,e']
   rw [valV_neg e,b];exact ih
theorem KT.repl {H:Hp}{kvs:List (List Key×V)}{xs:List (List Key×Addr×Value)}(r:KT H kvs xs)(k:List Key){y:V}{u:Value}(ry:RelV y u):
 KT H (kvs.map fun kv=>if kv.1=k then (kv.1,y) else kv) (xs.map (putAt k u)):=by
 induction r with
 | nil=>exact .nil
 | @cons p q ps qs h t ih=>
  rw [List.map_cons,List.map_cons]
  refine .cons ?_ ih
  obtain⟨h1,h2,h3⟩:=h
  unfold putAt
  by_cases e:p.1=k
  ·rw [if_pos e,if_pos (h1.symm.trans e)];exact⟨h1,h2,ry⟩
  ·rw [if_neg e,if_neg (fun z=>e (h1.trans z))];exact⟨h1,h2,h3⟩
theorem KT.put {H:Hp}{kvs:List (List Key×V)}{xs:List (List Key×Addr×Value)}(r:KT H kvs xs)(k:List Key){b:Addr}{y:V}{u:Value}(hb:H b=some (.tup (k.map kV)))(ry:RelV y u):
 KT H (putK kvs k y) (storedH xs k b u):=by
 have e:(kvs.any fun kv=>decide (kv.1=k))=(atKey xs k).isSome:=by
  rw [valV_any,(r.val k).isSome_eq,Option.isSome_map]
 unfold putK storedH
 rw [e]
 by_cases q:(atKey xs k).isSome=true
 ·rw [if_pos q,if_pos q];exact r.repl k ry
 ·rw [if_neg q,if_neg q];exact Paired.snoc r ⟨rfl,hb,ry⟩
theorem KT.keeps {H H':Hp}{kvs:List (List Key×V)}{xs:List (List Key×Addr×Value)}(r:KT H kvs xs)(ht:∀b ys,H b=some (.tup ys)->H' b=some (.tup ys)):KT H' kvs xs:=
 Paired.mapP r fun _ _ z=>⟨z.1,ht _ _ z.2.1,z.2.2⟩
section
variable {P:Program}{w:World}{H:Hp}{h:Heap}{a:Addr}
theorem rd_of {u:HO}(ok:HOk P w H h)(e:Rd H a u):ObjOk P w H h a u:=e.ok ok
theorem dk_rd {kvs:List (Key×V)}(ok:HOk P w H h)(e:Rd H a (.dK kvs)):kvs.length<=sizeLine/\(a==sysModules)=false/\∃vs,KV kvs vs/\h.DictOf (mixKind P w) a vs:=
 show ObjOk P w H h a (.dK kvs) from rd_of ok e
theorem dk_of {kvs:List (Key×V)}(ok:HOk P w H h)(e:H a=some (.dK kvs)):kvs.length<=sizeLine/\(a==sysModules)=false/\∃vs,KV kvs vs/\h.DictOf (mixKind P w) a vs:=dk_rd ok (.inl e)
theorem key_of {ks:List Key}(ok:HOk P w H h)(e:H a=some (.tup (ks.map kV))):(tupleKind (mixKind P w)).is h ks a:=by
 obtain⟨_,its,r,o,h1,h2,n,h3⟩:=(show ObjOk P w H h a (.tup (ks.map kV)) from ok a _ e)
 exact⟨o,its.toArray,n,h1,h2,h3,by simpa using items_are r⟩
theorem dt_rd {kvs:List (List Key×V)}(ok:HOk P w H h)(e:Rd H a (.dT kvs)):kvs.length<=sizeLine/\(a==sysModules)=false /\
 ∃xs,KT H kvs xs/\h.DictOfH (tupleKind (mixKind P w)) a xs:=by
 obtain⟨z,y,xs,r,o,es,ep,h1,h2,h3,h4,h5⟩:=(show ObjOk P w H h a (.dT kvs) from rd_of ok e)
 refine⟨z,y,xs,r,o,es,ep,h1,h2,h3,h4,fun x hx=>?_,h5⟩
 have all:∀{l:List (List Key×V)} {m:List (List Key×Addr×Value)},KT H l m->∀x∈m,(tupleKind (mixKind P w)).is h x.1 x.2.1:=by
  intro l m q
  induction q with
  | nil=>intro x hx;exact nomatch hx
  | @cons p q ps qs hq t ih=>
   intro x hx
   rcases List.mem_cons.mp hx with e | hx
   ·subst e
    exact key_of ok (by rw [<-hq.1];exact hq.2.1)
   ·exact ih x hx
 exact all r x hx
theorem dt_of {kvs:List (List Key×V)}(ok:HOk P w H h)(e:H a=some (.dT kvs)):kvs.length<=sizeLine/\(a==sysModules)=false /\
 ∃xs,KT H kvs xs/\h.DictOfH (tupleKind (mixKind P w)) a xs:=dt_rd ok (.inl e)
end
def DGet (H:Hp)(a:Addr)(y:V)(r:Option V):Prop:=
 (∃kvs k,Rd H a (.dK kvs)/\y=kV k/\r=valV kvs k)\/∃kvs k b,Rd H a (.dT kvs)/\y = .ref b/\H b=some (.tup (k.map kV))/\r=valV kvs k
def DPut (H:Hp)(a:Addr)(y v:V)(H':Hp):Prop:=
 (∃kvs k,H a=some (.dK kvs)/\y=kV k/\kvs.length<sizeLine/\H'=upd H a (.dK (putK kvs k v))) \/
 ∃kvs k b,H a=some (.dT kvs)/\y = .ref b/\H b=some (.tup (k.map kV))/\kvs.length<sizeLine/\H'=upd H a (.dT (putK kvs k v))
theorem DGet.k {H:Hp}{a:Addr}{kvs:List (Key×V)}{k:Key}(e:H a=some (.dK kvs)):DGet H a (kV k) (valV kvs k):=.inl ⟨kvs,k,.inl e,rfl,rfl⟩
theorem DGet.t {H:Hp}{a b:Addr}{kvs:List (List Key×V)}{k:List Key}(e:H a=some (.dT kvs))(eb:H b=some (.tup (k.map kV))):DGet H a (.ref b) (valV kvs k):=.inr ⟨kvs,k,b,.inl e,rfl,eb,rfl⟩
theorem DPut.k {H:Hp}{a:Addr}{kvs:List (Key×V)}{k:Key}{v:V}(e:H a=some (.dK kvs))(hl:kvs.length<sizeLine):DPut H a (kV k) v (upd H a (.dK (putK kvs k v))):=.inl ⟨kvs,k,e,rfl,hl,rfl⟩
theorem DPut.t {H:Hp}{a b:Addr}{kvs:List (List Key×V)}{k:List Key}{v:V}(e:H a=some (.dT kvs))(eb:H b=some (.tup (k.map kV)))(hl:kvs.length<sizeLine):
 DPut H a (.ref b) v (upd H a (.dT (putK kvs k v))):=.inr ⟨kvs,k,b,e,rfl,eb,hl,rfl⟩
section
variable {X:Cx}{pins:List (Addr×Obj)}{σ:St}{H:Hp}{s:Shared}{a:Addr}{y v:V}{u r:Value}{o:Option V}{A:Around}{E:Value->Shared->Prop}
theorem Inv.big (I:Inv X pins σ H s):sysModules<s.heap.objs.size:=by
 have h:mainGlobals<s.heap.objs.size:=(I.mod.glob.keeps I.bk).lt
 exact Nat.lt_trans (by decide) h
theorem d_getItem {Q:Value->Shared->Prop}(hu:A.units+1<cLine)(I:Inv X pins σ H s)(g:DGet H a y (some v))(ry:RelV y u)(h:∀w' s',Inv X pins σ H s'->RelV v w'->Q w' s'):
 wpAny (model X.prog X.w) A (getItem (.ref a) u) Q E s:=by
 rcases g with⟨kvs,k,e,ey,l⟩|⟨kvs,k,b,e,ey,eb,l⟩
 ·subst ey
  obtain⟨z,hd,vs,rel,dd⟩:=dk_rd I.hok e
  obtain⟨w',hw,rw'⟩:=RelO.some_of (v:=v) (o:=valueAt vs k) (by rw [l];exact rel.val k)
  exact wpAny_getItem_of (kV_is ry) dd.mapOf hw (h w' _ (I.tok _) rw')
 ·subst ey
  cases (show u=Value.ref b from ry)
  obtain⟨z,hd,xs,rel,dd⟩:=dt_rd I.hok e
  obtain⟨w',hw,rw'⟩:=RelO.some_of (v:=v) (o:=(atKey xs k).map (·.2)) (by rw [l];exact rel.val k)
  obtain⟨p,hp,hp2⟩:=Option.map_eq_some_iff.mp hw
  refine wpAny_getItem_heap (tupleKind_room_in1 hu) (key_of I.hok eb) dd hp ?_
  rw [hp2]
  exact h w' _ (I.tok _) rw'
theorem d_in {Q:Value->Shared->Prop}(hu:A.units+1<cLine)(I:Inv X pins σ H s)(g:DGet H a y o)(ry:RelV y u)(h:∀s',Inv X pins σ H s'->Q (.bool o.isSome) s'):
 wpAny (model X.prog X.w) A (compareOp .In u (.ref a)) Q E s:=by
 rcases g with⟨kvs,k,e,ey,l⟩|⟨kvs,k,b,e,ey,eb,l⟩
 ·subst ey
  obtain⟨z,hd,vs,rel,dd⟩:=dk_rd I.hok e
  refine wpAny_in_of (kV_is ry) hd dd.mapOf ?_
  rw [<-(rel.val k).isSome_eq,<-l]
  exact h _ (I.tok _)
 ·subst ey
  cases (show u=Value.ref b from ry)
  obtain⟨z,hd,xs,rel,dd⟩:=dt_rd I.hok e
  refine wpAny_in_heap (tupleKind_room_in1 hu) (key_of I.hok eb) hd dd ?_
  have q:=(rel.val k).isSome_eq
  rw [Option.isSome_map] at q
  rw [<-q,<-l]
  exact h _ (I.tok _)
theorem d_notIn {Q:Value->Shared->Prop}(hu:A.units+1<cLine)(I:Inv X pins σ H s)(g:DGet H a y o)(ry:RelV y u)(h:∀s',Inv X pins σ H s'->Q (.bool (!o.isSome)) s'):
 wpAny (model X.prog X.w) A (compareOp .NotIn u (.ref a)) Q E s:=by
 rcases g with⟨kvs,k,e,ey,l⟩|⟨kvs,k,b,e,ey,eb,l⟩
 ·subst ey
  obtain⟨z,hd,vs,rel,dd⟩:=dk_rd I.hok e
  refine wpAny_notIn_of (kV_is ry) hd dd.mapOf ?_
  rw [<-(rel.val k).isSome_eq,<-l]
  exact h _ (I.tok _)
 ·subst ey
  cases (show u=Value.ref b from ry)
  obtain⟨z,hd,xs,rel,dd⟩:=dt_rd I.hok e
  refine wpAny_notIn_heap (tupleKind_room_in1 hu) (key_of I.hok eb) hd dd ?_
  have q:=(rel.val k).isSome_eq
  rw [Option.isSome_map] at q
  rw [<-q,<-l]
  exact h _ (I.tok _)
theorem d_write {h':Heap}{t':Nat}{ob:HO}(I:Inv X pins σ H s)(mu:Mut (H a))(hs:Heap.SameBut a s.heap h')(he:∃q,h'.get? a=some q)(new:ObjOk X.prog X.w (upd H a ob) h' a ob):
 Inv X pins σ (upd H a ob) { s with heap:=h',toks:=t' }:=
 I.write (x:=a) (e:=a) mu (.inl rfl) (fun b q hb z=>(hs.2 b hb).trans z) he new
theorem dk_new {P:Program}{w:World}{H':Hp}{h':Heap}{kvs:List (Key×V)}{vs:List (Key×Value)}(z:kvs.length<=sizeLine)(hd:(a==sysModules)=false)(rel:KV kvs vs)(dd:h'.DictOf (mixKind P w) a vs):
 ObjOk P w H' h' a (.dK kvs):=⟨z,hd,vs,rel,dd⟩
theorem d_setItem {H':Hp}{Q:Unit->Shared->Prop}(hu:A.units+1<cLine)(I:Inv X pins σ H s)(g:DPut H a y v H')(ry:RelV y u)(rv:RelV v r)(h:∀s',Inv X pins σ H' s'->Q () s'):
 wpAny (model X.prog X.w) A (setItem (.ref a) u r) Q E s:=by
 rcases g with⟨kvs,k,e,ey,l,eH⟩|⟨kvs,k,b,e,ey,eb,l,eH⟩
 ·subst ey eH
  obtain⟨z,hd,vs,rel,dd⟩:=dk_of I.hok e
  have hz:vs.length<=sizeLine:=by rw [<-rel.length];exact z
  have hl:(putK kvs k v).length<=sizeLine:=by have:=length_putK kvs k v;omega
  refine wpAny_setItem_pairs (hsz:=hz) (kV_is ry) dd fun h' dd' hs=>h _ ?_
  have he:∃q,h'.get? a=some q:=let ⟨q,_,_,hq,_⟩:=dd';⟨q,hq⟩
  exact d_write I (by rw [e];exact True.intro) hs he (dk_new hl hd (rel.put k rv) dd')
 ·subst ey eH
  cases (show u=Value.ref b from ry)
  obtain⟨z,hd,xs,rel,dd⟩:=dt_of I.hok e
  have hz:xs.length<=sizeLine:=by rw [<-Paired.length rel];exact z
  have hl:(putK kvs k v).length<=sizeLine:=by have:=length_putK kvs k v;omega
  refine wpAny_setItem_heap (hsz:=hz) (tupleKind_room_in1 hu) (key_of I.hok eb) dd fun h' dd' hs=>h _ ?_
  obtain⟨q,es,ep,hq,h2,h3,h4,_,h5⟩:=dd'
  refine d_write I (by rw [e];exact True.intro) hs ⟨q,hq⟩ ⟨hl,hd,_,(rel.put k eb rv).keeps fun c ys ec=>?_,q,es,ep,hq,h2,h3,h4,h5⟩
  rw [upd_ne (ne_of ec e (fun z=>nomatch z))]
  exact ec
end
section
variable {X:Cx}{pins:List (Addr×Obj)}{σ:St}{H:Hp}{s:Shared}{a:Addr}{kvs:List (Key×V)}{k:Key}{u:Value}{A:Around}{E:Value->Shared->Prop}
theorem d_len {Q:Value->Shared->Prop}(I:Inv X pins σ H s)(e:Rd H a (.dK kvs))(h:∀t s',Inv X pins σ H s'->Q (.int kvs.length t) s'):wpAny (model X.prog X.w) A (call (.builtin "len") [.ref a]) Q E s:=by
 obtain⟨z,hd,vs,rel,dd⟩:=dk_rd I.hok e
 refine call_len_dict hd dd (by rw [<-rel.length];rw [sizeLine_eq] at z;omega) ?_
 rw [<-rel.length]
 exact h _ _ (I.tok _)
end
theorem dict_typeIs {X:Cx}{pins:List (Addr×Obj)}{σ:St}{H:Hp}{s:Shared}{a:Addr}{y:V}{o:Option V}(I:Inv X pins σ H s)(g:DGet H a y o):s.TypeIs (.ref a) "dict":=by
 rcases g with⟨kvs,k,e,_,_⟩|⟨kvs,k,b,e,_,_,_⟩
 ·obtain⟨_,_,vs,_,dd⟩:=dk_rd I.hok e
  exact dd.typeIs
 ·obtain⟨_,_,xs,_,dd⟩:=dt_rd I.hok e
  exact dd.typeIs
section
variable {X:Cx}{o i e value:Expr}{pos pos' tpos:Pos}{td ty tv:TE}
end
theorem dt_empty {P:Program}{w:World}{H:Hp}(h:Heap)(hb:sysModules<h.objs.size):ObjOk P w H (h.push { cls:=.type "dict",data:=.dict #[] }) h.objs.size (.dT []):=
 ⟨Nat.zero_le _,beq_eq_false_iff_ne.mpr (Ne.symm (Nat.ne_of_lt hb)),[],.nil,_,#[],0,Heap.get?_push_size _ rfl,⟨rfl,rfl,rfl⟩,rfl,rfl,List.nodup_nil⟩
def tDNewT:TE:=fun _ H Q=>∀p,H p=none->Q (.ref p) (upd H p (.dT []))
section
variable {X:Cx}{pos:Pos}
theorem pe_dnewT:PE X (.Dict [] [] pos) tDNewT:=fun pins s σ H Q I h=>
 wpAny_Dict_empty ⟨.ref s.heap.objs.size,_,I.laid (a:=s.heap.objs.size) (o:=.dT []) (t':=s.toks) (fun _ _ q=>Heap.get?_push_of_some _ q) (Nat.le_refl _) (dt_empty s.heap I.big),rfl,h _ (I.hok.fresh (Nat.le_refl _))⟩
end
structure M1 (X:Cx)(o:Expr)(m:Str)(apos:Pos)(e:Expr)(cpos:Pos):Prop where
 base:attributeBase o m X.env (eval o X.env)=eval o X.env
 few:((backTo cpos (starEach [e] X.env)).all (fun x=>!x.1)&&(backToKw cpos (keywordEach [] X.env)).all (fun x=>x.1.isSome)
  && decide (([e]:List Expr).length+([]:List Keyword).length+(if ([]:List Keyword).isEmpty then 0 else 1)<30))=true
 line:(apos.endLine==cpos.line)=true
 trees:backTo cpos (starEach [e] X.env)=[(false,eval e X.env)]
structure M2 (X:Cx)(o:Expr)(m:Str)(apos:Pos)(e f:Expr)(cpos:Pos):Prop where
 base:attributeBase o m X.env (eval o X.env)=eval o X.env
 few:((backTo cpos (starEach [e,f] X.env)).all (fun x=>!x.1)&&(backToKw cpos (keywordEach [] X.env)).all (fun x=>x.1.isSome)
  && decide (([e,f]:List Expr).length+([]:List Keyword).length+(if ([]:List Keyword).isEmpty then 0 else 1)<30))=true
 line:(apos.endLine==cpos.line)=true
 trees:backTo cpos (starEach [e,f] X.env)=[(false,eval e X.env),(false,eval f X.env)]
section
variable {X:Cx}{pins:List (Addr×Obj)}{σ:St}{H:Hp}{s:Shared}{a:Addr}{y d:V}{u r:Value}{o:Option V}{A:Around}{E:Value->Shared->Prop}
end
section
variable {X:Cx}{o e f:Expr}{apos cpos:Pos}{td ty tx:TE}
end
section
variable {X:Cx}{pins:List (Addr×Obj)}{σ:St}{H:Hp}{s:Shared}{a:Addr}{kvs:List (Key×V)}{A:Around}{E:Value->Shared->Prop}
end
section
variable {X:Cx}{pins:List (Addr×Obj)}{σ:St}{H:Hp}{s:Shared}{a:Addr}{y:V}{u:Value}{A:Around}{E:Value->Shared->Prop}
end
end L2
namespace Att
open PySem PySem.W PySem.Calls PyProof.Rows
theorem ints_of_wellAll {P:Params}{h:Heap}:∀(ns:List Int) (vs:List Value),WellAll P h vs (ns.map WData.int)->IntsAre vs ns:=by
 intro ns
 induction ns with
 | nil=>
  intro vs w
  rw [List.map_nil] at w
  cases w
  exact .nil
 | cons n ns ih=>
  intro vs w
  rw [List.map_cons] at w
  cases w with
  | cons a b=>
   cases a
   exact .cons _ _ (ih _ b)
theorem script_of {l:OpenLaw}{n:Nat}(hn:l.most=some n){P:Params}{h:Heap}{args:List WData}{vals:List Value}
 (hpre:l.row.toRowW.claim.pre args=true) (hwl:WellAll P h vals args):
 ∃a vs ns,vals=[Value.ref a]/\args=[WData.list (ns.map WData.int)]/\h.get? a=some { cls:=.type "list",data:=.seq vs.toArray }/\IntsAre vs ns/\ns.length<=n:=by
 have hsh:WShape.hasAll [] args [.list .int]=true:=(pre_splitW hpre).1
 have hc:l.pre.holds [] { args:=args }=true:=(pre_splitW hpre).2
 obtain⟨d,r,rfl,h1,h2⟩:=hasAllW_cons hsh
 obtain rfl:=hasAllW_nil h2
 obtain⟨xs,rfl,h3⟩:=hasW_list h1
 obtain⟨ns,rfl⟩:=items_int h3
 have hlen:ns.length<=n:=by
  unfold OpenLaw.pre at hc
  have h4:(WTm.not (.lt (.lit (.int (n:Int))) (.len (.arg 0)))).holds [] { args:=[.list (ns.map .int)] }=true:=by
   have h4:=(holds_andW hc).1
   rw [hn] at h4
   exact h4
  have h5:=condW_of h4 (w_not (w_lt w_lit (w_len_list (w_arg rfl))))
  rw [List.length_map] at h5
  refine Nat.le_of_not_lt fun q=>?_
  have q':(n:Int)<((ns.length:Nat):Int):=by omega
  first
   | (rw [decide_eq_true q'] at h5;exact absurd h5 (by decide))
   | (simp at h5;omega)
 cases hwl with
 | cons w1 w2=>
  cases w2
  cases w1 with
  | list ho hall=>exact⟨_,_,ns,rfl,rfl,ho,ints_of_wellAll ns _ hall,hlen⟩
theorem post_true (l:OpenLaw)(args:List WData):l.row.toRowW.claim.post args (.bool true) args=true:=
 postW_of (r:=l.row.toRowW) (X:=(true==true))
  (show WShape.has [] (.bool true) .bool=true by first | rfl | decide | simp [WShape.has,WShape.arms,WShape.armsAll])
  (show (WTm.eq .res (.lit (.bool true))).value [] { args:=args,res:=some (.bool true),after:=args }=some (.bool (true==true)) from w_eq_bool (w_res rfl) w_lit) rfl
theorem attach_call {l:OpenLaw}{n:Nat}{q:Program}{loose:List Str}{XP:(Str->Option Value)->Heap->Prop}{YP:World->Heap->Prop}{d:DefRec}
 (hn:l.most=some n) (hdf:d.params.defaults=[])
 (call:∀(w:World) (s₀ s₁:Shared) (mg mb:Str->Option Value) (fa:Addr) (o:Obj) (pm cd doc:Value) (a:Addr) (vs:List Value) (ns:List Int),
   Ground q loose [] XP w s₀ mg mb s₁.heap->YP w s₁.heap ->
   s₁.heap.get? fa=some o->o.data = .func (docDef d.name d.params d.body d.scope pm cd doc)->s₁.heap.CodeRec cd d.name->mg d.name=some (.ref fa) ->
   s₁.heap.get? a=some { cls:=.type "list",data:=.seq vs.toArray }->IntsAre vs ns->ns.length<=n->s₁.gens = #[] ->
   codeAny (model l.prog w) callerA (.call (.ref fa) ⟨[.ref a],[]⟩) (fun r s'=>r = .ok (.ret (.bool true))/\OldK s₁.heap s'.heap/\s'.os=s₁.os/\AllBare s'.gens) s₁):
 WalkO q loose XP YP l.row.toRowW d [] (fun f vs=>PySem.call f vs):=by
 intro w s₀ s₁ mg mb G Y fa o pm cd doc dV kV ho hd hcd hD hmg hg args vals as hpre hlay hrd hwl hlo
 obtain rfl:dV = .none:=Dflts.none hD hdf
 obtain rfl:kV = .none:=Dflts.noKw hD
 obtain⟨a,vs,ns,rfl,rfl,hobj,hints,hlen⟩:=script_of hn hpre hwl
 refine enter_call (codeAny_mono (call w s₀ s₁ mg mb fa o pm cd doc a vs ns G Y ho (fd_plain hd) hcd hmg hobj hints hlen hg) fun r s' hq=>?_)
 obtain⟨rfl,h2,h3,h4⟩:=hq
 exact⟨.inl ⟨.bool true,.bool true,[],rfl,fun _=>rfl,.bool true,post_true l _,fun _=>⟨List.Pairwise.nil,fun _ hm=>(nomatch hm)⟩⟩,h2,h3,h4⟩
section
variable {prog:Program}{w:World}{A:Around}{E:Value->Shared->Prop}{s:Shared}{K:Frag}
end
end Att
namespace L2
open PySem PySem.Spec PyProof.Rows
theorem vals_ints:∀{vs:List Value} {ns:List Int},IntsAre vs ns->Vals (ns.map V.int) vs
 | _,_,.nil=>.nil
 | _,_,.cons n t h=>.cons ⟨t,rfl⟩ (vals_ints h)
abbrev CX0:CXT:=fun _ _ _ _ _ _=>False
abbrev E0:XK:=fun _ _ _=>False
structure Fun (K:PySem.W.Frag)(x qual:Str)(st:Stmt)(f:Addr)(fd:FuncData):Prop where
 ex:∃(oc:Value) (od:Option Addr) (kV doc pm:Value) (an:Option Addr) (cdv ct:Value) (osl:Array (Option Value)),
  fd=PySem.W.fnOf x qual (defArgs st) (defBody st) (defScope st) .none kV doc pm an cdv ct/\K.lookup f=some ⟨oc,od,.func fd,osl⟩/\PySem.W.codeIn K cdv qual=true
 kp:PySem.W.keepIn K (.ref f)=true
section
variable {P:Program}{w:World}{K:PySem.W.Frag}{mg:Str->Option Value}{base:Heap}
theorem Fun.binds {x qual:Str}{st:Stmt}{f:Addr}{fd:FuncData}{ps:List Str}(F:Fun K x qual st f fd)
 (h:∀(kV doc pm:Value) (an:Option Addr) (cdv ct:Value) (us:List Value),us.length=ps.length->bindArgs (PySem.W.fnOf x qual (defArgs st) (defBody st) (defScope st) .none kV doc pm an cdv ct) ⟨us,[]⟩=pure (ps.zip us)):Binds K fd ps []:=by
 obtain⟨oc,od,kV,doc,pm,an,cdv,ct,osl,rfl,lk,hcd⟩:=F.ex
 exact .all (h kV doc pm an cdv ct)
theorem fun_mk {x qual:Str}{st:Stmt}{f:Addr}{oc:Value}{od an:Option Addr}{osl:Array (Option Value)}{kV doc pm cdv ct:Value}(l:K.lookup f=some ⟨oc,od,.func (PySem.W.fnOf x qual (defArgs st) (defBody st) (defScope st) .none kV doc pm an cdv ct),osl⟩)
 (c:PySem.W.codeIn K cdv qual=true) (k:PySem.W.keepIn K (.ref f)=true):Fun K x qual st f (PySem.W.fnOf x qual (defArgs st) (defBody st) (defScope st) .none kV doc pm an cdv ct):=⟨⟨oc,od,kV,doc,pm,an,cdv,ct,osl,rfl,l,c⟩,k⟩
end
theorem hu_of {A:Around}{k:Nat}(hr:Room k A):A.units+1<cLine:=Nat.lt_of_le_of_lt (Nat.add_le_add_left (by decide:1<=64) _) hr.units
section
variable {X:Cx}
theorem pv (i:Nat){x:Str}{pos:Pos}(hN:X.N[i]?=some x:=by rfl)(hv:Vis X.env.scope x:=by first | exact Or.inl rfl | exact Or.inr (Or.inl rfl) | exact Or.inr (Or.inr rfl))(hd:(x==("__debug__":Str))=false:=by decide)
 (hcd:(x==("__classdict__":Str))=false:=by decide):PE X (.Name x pos) (tVar i):=pe_var hN hv hd hcd
end
theorem iteF {A B:Prop}(h:B):if false=true then A else B:=by
 rw [if_neg Bool.false_ne_true]
 exact h
theorem iteT {A B:Prop}(h:A):if true=true then A else B:=by
 rw [if_pos rfl]
 exact h
section
variable {κ:Type}[DecidableEq κ]
end
def closeL (env:Env):List (Str×NameKind)->List (Str×Addr)->List (Str×Addr)
 | [],cs=>cs
 | (n,k)::r,cs=>closeL env r (if (k==NameKind.free)=true then (match env.cells.lookup n with | some c=>(n,c)::cs | none=>cs) else cs)
theorem closure_run (env:Env):∀(names:List (Str×NameKind)) (cs:List (Str×Addr)),(∀p∈names,p.2=NameKind.free->∃c,env.cells.lookup p.1=some c) ->
 (forIn names cs fun (x:Str×NameKind) (r:List (Str×Addr))=>if (x.2==NameKind.free)=true then do
   let c <-cellOf env x.1
   pure (ForInStep.yield ((x.1,c)::r)) else pure (ForInStep.yield r):Sem (List (Str×Addr)))=pure (closeL env names cs)
 | [],cs,_=>rfl
 | (n,k)::r,cs,h=>by
  rw [List.forIn_cons]
  cases hk:(k==NameKind.free) with
  | false=>
   have e:closeL env ((n,k)::r) cs=closeL env r cs:=by simp [closeL,hk]
   rw [e]
   simp only [hk,Bool.false_eq_true,if_false,pure_bind]
   exact closure_run env r cs fun p hp=>h p (List.mem_cons_of_mem _ hp)
  | true=>
   obtain⟨c,hc⟩:=h (n,k) List.mem_cons_self (by simpa using hk)
   have hc:env.cells.lookup n=some c:=hc
   have e:closeL env ((n,k)::r) cs=closeL env r ((n,c)::cs):=by simp [closeL,hk,hc]
   have e2:cellOf env n=pure c:=by unfold cellOf;rw [hc]
   rw [e]
   simp only [hk,if_true,e2,pure_bind]
   exact closure_run env r _ fun p hp=>h p (List.mem_cons_of_mem _ hp)
theorem closureFor_eq {scope:Scope}{env:Env}(h:∀p∈scope.names,p.2=NameKind.free->∃c,env.cells.lookup p.1=some c):closureFor scope env=pure (closeL env scope.names []):=by
 unfold closureFor
 have:=closure_run env scope.names [] h
 simp only [bind_pure]
 exact this
theorem close_step (env:Env)(n:Str)(k:NameKind)(cs:List (Str×Addr))(x:Str)(c:Addr)(h:(if (k==NameKind.free)=true then (match env.cells.lookup n with | some c=>(n,c)::cs | none=>cs) else cs).lookup x=some c):
 cs.lookup x=some c\/env.cells.lookup x=some c:=by
 split at h
 ·cases e:env.cells.lookup n with
  | none=>rw [e] at h;exact .inl h
  | some d=>
   rw [e] at h
   dsimp only at h
   rw [List.lookup_cons] at h
   cases hx:x==n with
   | true=>
    rw [hx] at h
    have hx':x=n:=eq_of_beq hx
    rw [hx']
    exact .inr (e.trans h)
   | false=>rw [hx] at h;exact .inl h
 ·exact .inl h
theorem closeL_sub (env:Env):∀(names:List (Str×NameKind)) (cs:List (Str×Addr)) (x:Str) (c:Addr),(closeL env names cs).lookup x=some c->cs.lookup x=some c\/env.cells.lookup x=some c
 | [],_,_,_,h=>.inl h
 | (n,k)::r,cs,x,c,h=>by
  unfold closeL at h
  rcases closeL_sub env r _ x c h with h' | h'
  ·exact close_step env n k cs x c h'
  ·exact .inr h'
theorem closeL_keep (env:Env):∀(names:List (Str×NameKind)) (cs:List (Str×Addr)) (x:Str),(∃c,cs.lookup x=some c)->∃c,(closeL env names cs).lookup x=some c
 | [],_,_,h=>h
 | (n,k)::r,cs,x,h=>by
  unfold closeL
  refine closeL_keep env r _ x ?_
  split
  ·cases e:env.cells.lookup n with
   | none=>exact h
   | some d=>
    dsimp only
    rw [List.lookup_cons]
    cases hx:x==n with
    | true=>exact⟨d,rfl⟩
    | false=>exact h
  ·exact h
theorem closeL_has (env:Env):∀(names:List (Str×NameKind)) (cs:List (Str×Addr)) (x:Str),(x,NameKind.free)∈names->(∃c,env.cells.lookup x=some c)->∃c,(closeL env names cs).lookup x=some c
 | [],_,_,h,_=>by simp at h
 | (n,k)::r,cs,x,h,⟨c,hc⟩=>by
  unfold closeL
  rcases List.mem_cons.mp h with e | h
  ·obtain⟨rfl,rfl⟩:=Prod.mk.inj e
   refine closeL_keep env r _ _ ?_
   rw [hc]
   simp [List.lookup_cons]
  ·exact closeL_has env r _ x h ⟨c,hc⟩
def blk (X:Cx)(sc:Scope)(x:Str)(M:List Str)(C:Addr)(s:Shared)(H:Hp)(fp:List Addr):Cx:=
 { X with env:=compEnvC sc (closeL X.env sc.names []) C X.env,N:=x::M,s₀:=s,H₀:=H,outer:=X.stack,ex:=fp,fn:=fun _=>false,pn:=[],xe:=fun _ _=>False }
theorem mem_of_lookup_relabel {env:Env}{k:NameKind}:∀{names:List (Str×NameKind)} {x:Str},(∀p∈names,p.2≠NameKind.cell) ->
 (names.map fun (n,k)=>if (k==NameKind.free&&env.scope.kind == .function&&env.kindOf n==some .cell) then (n,NameKind.cell) else (n,k)).lookup x=some k->k=NameKind.cell\/k=NameKind.free->(x,NameKind.free)∈names
 | [],_,_,h,_=>by simp at h
 | (n,k')::r,x,hc,h,hk=>by
  have ih:=@mem_of_lookup_relabel env k r x (fun p hp=>hc p (List.mem_cons_of_mem _ hp))
  have h:List.lookup x ((if (k'==NameKind.free&&env.scope.kind == .function&&env.kindOf n==some .cell)=true then (n,NameKind.cell) else (n,k'))::(r.map fun (n,k)=>if (k==NameKind.free&&env.scope.kind == .function&&env.kindOf n==some .cell) then (n,NameKind.cell) else (n,k)))=some k:=h
  by_cases hd:(k'==NameKind.free&&env.scope.kind == .function&&env.kindOf n==some .cell)=true
  ·rw [if_pos hd,List.lookup_cons] at h
   cases hx:x==n with
   | true=>
    have e:x=n:=eq_of_beq hx
    have e2:k'=NameKind.free:=by
     simp only [Bool.and_eq_true] at hd
     exact eq_of_beq hd.1.1
    rw [e,e2]
    exact List.mem_cons_self
   | false=>
    rw [hx] at h
    exact List.mem_cons_of_mem _ (ih h hk)
  ·rw [if_neg hd,List.lookup_cons] at h
   cases hx:x==n with
   | true=>
    rw [hx] at h
    have e:x=n:=eq_of_beq hx
    have e2:k'=k:=Option.some.inj h
    rcases hk with hk | hk
    ·exact absurd (e2.trans hk) (hc (n,k') List.mem_cons_self)
    ·rw [e,<-hk,<-e2]
     exact List.mem_cons_self
   | false=>
    rw [hx] at h
    exact List.mem_cons_of_mem _ (ih h hk)
theorem lookup_relabel_back {env:Env}:∀{names:List (Str×NameKind)} {x:Str},
 (names.map fun (n,k)=>if (k==NameKind.free&&env.scope.kind == .function&&env.kindOf n==some .cell) then (n,NameKind.cell) else (n,k)).lookup x=some NameKind.local->names.lookup x=some NameKind.local
 | [],_,h=>by simp at h
 | (n,k')::r,x,h=>by
  have ih:=@lookup_relabel_back env r x
  have h:List.lookup x ((if (k'==NameKind.free&&env.scope.kind == .function&&env.kindOf n==some .cell)=true then (n,NameKind.cell) else (n,k'))::(r.map fun (n,k)=>if (k==NameKind.free&&env.scope.kind == .function&&env.kindOf n==some .cell) then (n,NameKind.cell) else (n,k)))=some NameKind.local:=h
  rw [List.lookup_cons]
  by_cases hd:(k'==NameKind.free&&env.scope.kind == .function&&env.kindOf n==some .cell)=true
  ·rw [if_pos hd,List.lookup_cons] at h
   cases hx:x==n with
   | true=>rw [hx] at h;cases h
   | false=>rw [hx] at h;exact ih h
  ·rw [if_neg hd,List.lookup_cons] at h
   cases hx:x==n with
   | true=>rw [hx] at h;exact h
   | false=>rw [hx] at h;exact ih h
section
variable {X:Cx}{pins:List (Addr×Obj)}{σ:St}{H:Hp}{s:Shared}{sc:Scope}{x:Str}{M:List Str}{C:Addr}{fp:List Addr}
end
section
variable {P:Program}{w:World}{H:Hp}{h:Heap}{a:Addr}{o:HO}
theorem HOk.track (x:HOk P w H h)(hn:H a=none)(new:ObjOk P w (upd H a o) h a o):HOk P w (upd H a o) h:=fun b u e=>by
 by_cases hb:b=a
 ·subst hb;rw [upd_same] at e;cases e;exact new
 ·rw [upd_ne hb] at e
  exact (x b u e).stay (fun c v _ q=>q) (fun c q=>by rw [upd_ne (ne_of_none q hn)];exact q) fun c xs q=>by rw [upd_ne (ne_of_none q hn)];exact q
end
section
variable {X:Cx}{pins:List (Addr×Obj)}{σ:St}{H:Hp}{s:Shared}
theorem Inv.track {a:Addr}{o:HO}(I:Inv X pins σ H s)(hf:FpOk X pins H a)(ha:X.s₀.heap.objs.size<=a)(new:ObjOk X.prog X.w (upd H a o) s.heap a o):Inv X pins σ (upd H a o) s:=by
 obtain⟨hn,hL,hfs,hs,hc,hp⟩:=hf
 refine⟨I.ok,I.os,I.bare,⟨I.base.keep,I.base.slot,fun b ob e n x=>?_,I.base.there,fun b xs e=>?_,fun b ob u e=>?_,fun b ps e=>?_⟩,I.loc,I.cell,?_,fun y c e=>?_,fun p q=>?_,I.hok.track hn new,I.len⟩
 ·rw [upd_ne (Nat.ne_of_lt (Nat.lt_of_lt_of_le (Heap.lt_size e) ha))]
  exact I.base.free b ob e n x
 ·rw [upd_ne (ne_of_none (I.base.tups b xs e) hn)];exact I.base.tups b xs e
 ·rw [upd_ne (ne_of_none (I.base.frzs b ob u e) hn)];exact I.base.frzs b ob u e
 ·obtain⟨mr,q⟩:=I.base.tbls b ps e
  exact⟨mr,by rw [upd_ne (ne_of_none q hn)];exact q⟩
 ·rw [upd_ne (Ne.symm hL)];exact I.free
 ·rw [upd_ne (hc y c e)];exact I.freeC y c e
 ·obtain⟨e,n,ne,nf,d⟩:=I.pin p q
  exact⟨e,by rw [upd_ne (hp p q)];exact n,ne,nf,d⟩
end
def PF (X:Cx)(ifs:List Expr)(t:TT):Prop:=
 ∀(pins:List (Addr×Obj)) (s:Shared) (σ:St) (H:Hp) (Q:Bool->Hp->Prop),Inv X pins σ H s->t σ H Q ->
  wpAny (model X.prog X.w) X.A (forIn ifs true fun c r=>if r=true then do let ok <-isTrue c X.env (eval c X.env);pure (ForInStep.yield ok) else pure (ForInStep.yield r)) (TP X pins σ Q) X.xe s
def tAlways:TT:=fun _ H Q=>Q true H
theorem pf_nil {X:Cx}:PF X [] tAlways:=fun _ _ _ H _ I h=>wpAny_tests_nil ⟨H,I,h⟩
theorem pf_one {X:Cx}{c:Expr}{t:TT}(h:PT X c t):PF X [c] t:=fun pins s σ H Q I q=>wpAny_tests_one (h pins s σ H Q I q)
structure TurnQ (q:Cx->Prop)(P:Program)(w:World)(K:PySem.W.Frag)(tg:Expr)(J:It)(fp:List Addr)(it:Addr)(tn:Nat->Heap->Prop):Prop where
 obj:∀i h,tn i h->∀b∈fp,∃o,h.get? b=some o/\∀v,o.data ≠ .cell v
 keep:∀i h h',tn i h->(∀b∈fp,∀o,h.get? b=some o->h'.get? b=some o)->tn i h'
 item:∀(X:Cx),X.prog=P->X.w=w->X.K=K->q X->∀(i:Nat) (pins:List (Addr×Obj)) (s:Shared) (σ:St) (H:Hp) (E:Value->Shared->Prop),Inv X pins σ H s->(∀b∈fp,FpOk X pins H b)->tn i s.heap->J.go i H ->
  wpAny (model P w) X.A (pyNext (.ref it)) (fun r s1=>∃u,r=some u /\
   wpAny (model P w) X.A (letOwnedTupleGo tg (.ref it) u) (fun _ s2=>∃x H',Inv X pins σ H' s2/\RelV x u/\J.yld i H x H'/\tn (i+1) s2.heap/\∀b∈fp,H' b=none) E s1) E s
 done:∀(X:Cx),X.prog=P->X.w=w->X.K=K->q X->∀(i:Nat) (pins:List (Addr×Obj)) (s:Shared) (σ:St) (H:Hp) (E:Value->Shared->Prop),Inv X pins σ H s->(∀b∈fp,FpOk X pins H b)->tn i s.heap->J.stop i H ->
  wpAny (model P w) X.A (pyNext (.ref it)) (fun r s1=>r=none/\Inv X pins σ H s1) E s
 self:∀(A:Around) (i:Nat) (s:Shared) (Q:Value->Shared->Prop) (E:Value->Shared->Prop),tn i s.heap->Q (.ref it) s->wpAny (model P w) A (pyIter (.ref it)) Q E s
theorem Turn.q {P:Program}{w:World}{K:PySem.W.Frag}{tg:Expr}{J:It}{fp:List Addr}{it:Addr}{tn:Nat->Heap->Prop}(T:Turn P w K tg J fp it tn):TurnQ (fun X=>X.calm=true) P w K tg J fp it tn:=⟨T.obj,T.keep,T.item,T.done,T.self⟩
section
variable {X:Cx}{pins:List (Addr×Obj)}{σ:St}{H:Hp}{s:Shared}{sc:Scope}{x:Str}{M:List Str}{fp:List Addr}{J:It}{it:Addr}{tn:Nat->Heap->Prop}{px pos:Pos}{elt iter:Expr}{ifs:List Expr}{tt:TT}{te:TE}{R:List V->Hp->Prop}
end
section
variable {X:Cx}{sc:Scope}{x:Str}{px pos:Pos}{elt iter:Expr}{ifs:List Expr}{tt:TT}{te:TE}{wi:TI}
def tLcSet (i:Nat)(t:TE):TS:=fun D σ H=>t σ H fun v H1=>D.nx (σ.set i (some v)) H1
end
end L2
namespace L2
open PySem PySem.Spec PyProof.Rows PySem.SeqAt
def Cmp (K:PySem.W.Frag)(H:Hp)(n:Nat)(x y:V)(b:Bool):Prop:=
 ∀(X:Cx) (pins:List (Addr×Obj)) (σ:St) (s:Shared) (A:Around) (u v:Value),X.K=K->Inv X pins σ H s->RelV x u->RelV y v->A.units+n<cLine->EqAt A s u v b/\RcAt A s u v b/\RcNeAt A s u v (!b)
theorem cmp_flat {K:PySem.W.Frag}{H:Hp}{n:Nat}{x y:V}(fx:flatV x=true)(fy:flatV y=true):Cmp K H n x y (eqV x y):=by
 intro X pins σ s A u v _ I rx ry _
 refine⟨eqAt_V rx ry fx fy,?_⟩
 cases x with
 | non=>
  cases rx
  cases y with
  | non=>cases ry;exact⟨RcAt.none_none,RcNeAt.none_none⟩
  | bl b=>cases ry;exact⟨RcAt.none_bool b,RcNeAt.none_bool b⟩
  | int b=>obtain⟨t,rfl⟩:=ry;exact⟨RcAt.none_int b t,RcNeAt.none_int b t⟩
  | str b=>obtain⟨t,rfl⟩:=ry;exact⟨RcAt.none_str b t,RcNeAt.none_str b t⟩
  | _=>cases fy
 | bl a=>
  cases rx
  cases y with
  | non=>cases ry;exact⟨RcAt.bool_none a,RcNeAt.bool_none a⟩
  | bl b=>cases ry;exact⟨RcAt.bool_bool a b,RcNeAt.bool_bool a b⟩
  | int b=>obtain⟨t,rfl⟩:=ry;exact⟨RcAt.bool_int a b t,RcNeAt.bool_int a b t⟩
  | str b=>obtain⟨t,rfl⟩:=ry;exact⟨RcAt.bool_str a b t,RcNeAt.bool_str a b t⟩
  | _=>cases fy
 | int a=>
  obtain⟨ta,rfl⟩:=rx
  cases y with
  | non=>cases ry;exact⟨RcAt.int_none a ta,RcNeAt.int_none a ta⟩
  | bl b=>cases ry;exact⟨RcAt.int_bool a ta b,RcNeAt.int_bool a ta b⟩
  | int b=>obtain⟨t,rfl⟩:=ry;exact⟨RcAt.int_int a ta b t,RcNeAt.int_int a ta b t⟩
  | str b=>obtain⟨t,rfl⟩:=ry;exact⟨RcAt.int_str a ta b t,RcNeAt.int_str a ta b t⟩
  | _=>cases fy
 | str a=>
  obtain⟨ta,rfl⟩:=rx
  cases y with
  | non=>cases ry;exact⟨RcAt.str_none a ta,RcNeAt.str_none a ta⟩
  | bl b=>cases ry;exact⟨RcAt.str_bool a ta b,RcNeAt.str_bool a ta b⟩
  | int b=>obtain⟨t,rfl⟩:=ry;exact⟨RcAt.str_int a ta b t,RcNeAt.str_int a ta b t⟩
  | str b=>obtain⟨t,rfl⟩:=ry;exact⟨RcAt.str_str a ta b t,RcNeAt.str_str a ta b t⟩
  | _=>cases fy
 | _=>cases fx
section
variable {K:PySem.W.Frag}{H:Hp}{n:Nat}{a b:Addr}{xs ys:List V}{e:Nat->Bool}
theorem vals_at {xs:List V}{its:List Value}(r:Vals xs its){j:Nat}(h:j<its.toArray.size):∃x,xs[j]?=some x/\RelV x its.toArray[j]:=by
 have hl:j<its.length:=by simpa using h
 cases q:xs[j]? with
 | none=>
  have:=List.getElem?_eq_none_iff.mp q
  rw [r.length] at this
  omega
 | some x=>
  obtain⟨u,hu,ru⟩:=r.get q
  refine⟨x,rfl,?_⟩
  obtain⟨_,e⟩:=List.getElem?_eq_some_iff.mp hu
  have:its.toArray[j]=u:=by simpa using e
  rw [this];exact ru
theorem in1_units (A:Around):A.in1.units=A.units+1:=rfl
theorem cmp_lists (ha:SqL K H a xs)(hb:SqL K H b ys)(hl:xs.length=ys.length)(hab:a=b->(List.range xs.length).all e=true)(he:∀j x y,xs[j]?=some x->ys[j]?=some y->Cmp K H n x y (e j)):
 Cmp K H (n+1) (.ref a) (.ref b) ((List.range xs.length).all e):=by
 intro X pins σ s A u v hK I rx ry hu
 subst hK
 cases rx;cases ry
 obtain⟨its,r1,p1,_⟩:=I.list ha
 obtain⟨its2,r2,p2,_⟩:=I.list hb
 have hsz:its.toArray.size=its2.toArray.size:=by simp [<-r1.length,<-r2.length,hl]
 have es:xs.length=its.toArray.size:=by simp [<-r1.length]
 have items:∀j (h1:j<its.toArray.size) (h2:j<its2.toArray.size),EqAt A.in1 s its.toArray[j] its2.toArray[j] (e j):=fun j h1 h2=>by
  obtain⟨x,e1,q1⟩:=vals_at r1 h1
  obtain⟨y,e2,q2⟩:=vals_at r2 h2
  exact (he j x y e1 e2 X pins σ s A.in1 _ _ rfl I q1 q2 (by rw [in1_units];omega)).1
 have rc:RcAt A s (.ref a) (.ref b) ((List.range xs.length).all e):=by rw [es];exact RcAt.lists p1.isList p2.isList hsz (by omega) items
 refine⟨?_,rc,?_⟩
 ·by_cases h:a=b
  ·rw [hab h,h];exact EqAt.same _
  ·exact .of_refs h rc
 ·rw [es];exact RcNeAt.lists p1.isList p2.isList hsz (by omega) items
theorem cmp_lists_len (ha:SqL K H a xs)(hb:SqL K H b ys)(hl:xs.length≠ys.length):Cmp K H n (.ref a) (.ref b) false:=by
 intro X pins σ s A u v hK I rx ry hu
 subst hK
 cases rx;cases ry
 obtain⟨its,r1,p1,_⟩:=I.list ha
 obtain⟨its2,r2,p2,_⟩:=I.list hb
 have hsz:(its.toArray.size != its2.toArray.size)=true:=by simp [<-r1.length,<-r2.length,hl]
 have rc:RcAt A s (.ref a) (.ref b) false:=RcAt.lists_lengths p1.isList p2.isList hsz (by omega)
 refine⟨.of_refs (fun h=>?_) rc,rc,RcNeAt.lists_lengths p1.isList p2.isList hsz (by omega)⟩
 subst h
 exact hl (by rw [I.list_inj ha hb])
theorem cmp_up {m:Nat}{x y:V}{k:Bool}(h:Cmp K H n x y k)(hm:n<=m):Cmp K H m x y k:=fun X pins σ s A u v hK I rx ry hu=>h X pins σ s A u v hK I rx ry (by omega)
end
section
variable {X:Cx}{n:Nat}
def rEqC (K:PySem.W.Frag)(n:Nat):R2:=fun x y H Q=>∃b,Cmp K H n x y b/\Q (.bl b) H
def rNeC (K:PySem.W.Frag)(n:Nat):R2:=fun x y H Q=>∃b,Cmp K H n x y b/\Q (.bl (!b)) H
theorem op_eqC (hu:X.A.units+n<cLine):OpR X (compareOp .Eq) (rEqC X.K n):=by
 intro pins s σ H x y v u Q I rx ry h
 obtain⟨b,c,q⟩:=h
 exact (c X pins σ s X.A _ _ rfl I rx ry hu).2.1 _ _ _ _ ⟨.bl b,H,I,rfl,q⟩
theorem op_neC (hu:X.A.units+n<cLine):OpR X (compareOp .NotEq) (rNeC X.K n):=by
 intro pins s σ H x y v u Q I rx ry h
 obtain⟨b,c,q⟩:=h
 exact (c X pins σ s X.A _ _ rfl I rx ry hu).2.2 _ _ _ _ ⟨.bl (!b),H,I,rfl,q⟩
end
section
variable {X:Cx}
theorem op_mulX:OpR X (binaryOp .Mult) (rI IntMulOk fun i j=>.int (i*j)):=opI fun _ _ _ _ _ _ _ hc q=>PyProof.Rows.mul_int q hc
def CDivX (i j:Int):Prop:=0<j/\j.natAbs.log2<9000
theorem op_fdivX:OpR X (binaryOp .FloorDiv) (rI CDivX fun i j=>.int (i / j)):=opI fun i j _ _ _ _ _ hc q=>by
 have h1:(0:Int)<j:=hc.1
 exact floordiv_int (by omega) (by rw [Int.fdiv_eq_ediv_of_nonneg i (by omega)];exact q) (.inl (PyProof.noPylong_of_log2 hc.2))
def rIsi (K:PySem.W.Frag):List V->Hp->VK->Prop:=fun xs H Q=>∃x c t cv b,xs=[x,c]/\RelV c cv/\(∀u,RelV c u->u=cv)/\TyOf K H x t/\PySem.W.kitOne K t cv=some b/\Q (.bl b) H
theorem call_isi:CallR X (.builtin "isinstance") (rIsi X.K):=by
 intro pins s σ H xs us Q I r h
 obtain⟨x,c,t,cv,b,rfl,rc,uc,ty,e,q⟩:=h
 obtain⟨u,v,rfl,ru,rv⟩:=vals2 r
 cases uc v rv
 exact isinst_ok I ru ty e fun tk=>⟨.bl b,H,I.tok tk,rfl,q⟩
def rAll (K:PySem.W.Frag):List V->Hp->VK->Prop:=fun xs H Q=>∃(a:Addr) (bs:List Bool),xs=[.ref a]/\SqL K H a (bs.map V.bl)/\Q (.bl (bs.all id)) H
theorem call_allL (hc:X.calm=true):CallR X (.builtin "all") (rAll X.K):=by
 intro pins s σ H xs us Q I r h
 obtain⟨a,bs,rfl,ha,q⟩:=h
 obtain⟨u,rfl,ru⟩:=vals1 r
 cases ru
 obtain⟨its,r1,p1,hz⟩:=I.list ha
 refine call_all_walk ?_
 refine wpAny_pyIter_list p1.isList ?_
 have hne:a≠s.heap.objs.size:=fun z=>by
  obtain⟨o,n,e,_⟩:=p1
  exact absurd (Heap.lt_size e) (by rw [z];exact Nat.lt_irrefl _)
 refine⟨s.heap.objs.size,_,_,its.toArray.size,_,_,fun i=>bs.getD i true,rfl,Walks.list (A:=X.A.in1) (I.ok.hd hc) _ a hne its.toArray,⟨⟨_,Heap.get?_push_size _ rfl,rfl,rfl⟩,?_⟩,fun i v s' Q' E' hP hQ=>?_,fun h' tk hk=>?_⟩
 ·obtain⟨o,n,e,c,_,d⟩:=p1
  exact⟨o,Heap.get?_push_of_some _ e,c,n,d⟩
 ·have hi:its[i]?=some v:=by simpa using hP
  have hl:=r1.length
  rw [List.length_map] at hl
  have hlt:i<bs.length:=by
   have:=(List.getElem?_eq_some_iff.mp hi).1
   omega
  obtain⟨w',hw,rw'⟩:=r1.get (i:=i) (x:=V.bl bs[i]) (by rw [List.getElem?_map,List.getElem?_eq_getElem hlt];rfl)
  rw [hi] at hw
  cases hw
  cases rw'
  refine wpAny_truthy_bool ?_
  have:bs.getD i true=bs[i]:=by simp [hlt]
  rw [<-this]
  exact hQ
 ·refine⟨.bl _,H,I.kept (t':=tk) (fun b o e=>hk b o (fun z=>?_) (Heap.get?_push_of_some _ e)),rfl,?_⟩
  ·have:b=s.heap.objs.size:=by simpa using z
   exact absurd (Heap.lt_size e) (by rw [this];exact Nat.lt_irrefl _)
  ·have:(List.range its.toArray.size).all (fun i=>bs.getD i true)=bs.all id:=by
    have hl:its.toArray.size=bs.length:=by
     have:=r1.length
     rw [List.length_map] at this
     simpa using this.symm
    rw [hl,Bool.eq_iff_iff,List.all_eq_true,List.all_eq_true]
    constructor
    ·intro h b hb
     obtain⟨i,hi,rfl⟩:=List.getElem_of_mem hb
     have:=h i (by simpa using hi)
     simpa [hi] using this
    ·intro h i hi
     have hi:i<bs.length:=by simpa using hi
     have:=h bs[i] (List.getElem_mem hi)
     simpa [hi] using this
   rw [this]
   exact q
def Its (x:Str):It:=⟨fun i _=>i<x.cps.size,fun i H y H'=>H'=H/\∃c,x.cps[i]?=some c/\y = .str ⟨#[c]⟩,fun i _=>x.cps.size<=i⟩
def iStr (tl:TE):TI:=fun σ H R=>tl σ H fun x H1=>∃z,x = .str z/\R (Its z) H1
theorem turn_str {P:Program}{w:World}{K:PySem.W.Frag}{y:Str}{py:Pos}{z:Str}{t:Tok}{ty:String}(it:Addr)(W:∀A':Around,A'.handled=none->Walks P w A' it [it] [it] z.cps.size (SignAt z) (fun i h=>h.IsStrIter it ty z t i))(hs:∀(A:Around) (i:Nat) (s:Shared) (Q:Value->Shared->Prop) (E:Value->Shared->Prop),s.heap.IsStrIter it ty z t i->Q (.ref it) s->wpAny (model P w) A (pyIter (.ref it)) Q E s):
 Turn P w K (.Name y py) (Its z) [it] it (fun i h=>h.IsStrIter it ty z t i/\i<=z.cps.size) where
 mem:=by simp
 obj:=fun i h st b hb=>by
  have e:b=it:=by simpa using hb
  subst e
  obtain⟨⟨o,e,c,d⟩,_⟩:=st
  exact⟨o,e,fun v z=>by rw [d] at z;cases z⟩
 keep:=fun i h h' st k=>by
  obtain⟨⟨o,e,r⟩,q⟩:=st
  exact⟨⟨o,k it (by simp) o e,r⟩,q⟩
 item:=by
  intro X hP hw hK hc i pins s σ H E I hf st hg
  subst hP hw hK
  obtain⟨f0,f1,f2,f3,f4,f5⟩:=hf it (by simp)
  refine (W X.A (I.ok.hd hc)).item i s _ _ hg st.1 fun v h' tk hv st' hk=>?_
  obtain⟨c,u,e1,rfl⟩:=hv
  have I1:Inv X pins σ H { s with heap:=h',toks:=tk }:=I.turned (t':=tk) (fun b o hb e=>hk b o (by simpa using hb) e) f0 f1 f3 f4 f5
  refine⟨_,rfl,?_⟩
  show wpAny _ _ (pure ()) _ _ _
  exact wpAny_pure ⟨.str ⟨#[c]⟩,H,I1,⟨_,rfl⟩,⟨rfl,c,e1,rfl⟩,⟨st',hg⟩,fun b hb=>(hf b hb).1⟩
 done:=by
  intro X hP hw hK hc i pins s σ H E I hf st hg
  subst hP hw hK
  obtain⟨f0,f1,f2,f3,f4,f5⟩:=hf it (by simp)
  have e:i=z.cps.size:=Nat.le_antisymm st.2 hg
  subst e
  exact (W X.A (I.ok.hd hc)).done s _ _ st.1 fun h' tk hk=>⟨rfl,I.turned (t':=tk) (fun b o hb e=>hk b o (by simpa using hb) e) f0 f1 f3 f4 f5⟩
 self:=fun A i s Q E st h=>hs A i s Q E st.1 h
theorem pi_str {l:Expr}{tl:TE}{y:Str}{py:Pos}(hl:PE X l tl):PI X (.Name y py) l (iStr tl):=by
 intro pins s σ H R I h
 refine thn (hl pins s σ H _ I h) fun v s1 ⟨x,H1,I1,r1,q1⟩=>?_
 obtain⟨z,rfl,q⟩:=q1
 obtain⟨t,rfl⟩:=r1
 have fo:∀b∈[s1.heap.objs.size],FpOk X pins H1 b:=fun b hb=>by
  have e:b=s1.heap.objs.size:=by simpa using hb
  subst e
  exact I1.fpOk (Nat.le_refl _) (I1.hok.fresh (Nat.le_refl _))
 cases ha:z.cps.all (· < 128) with
 | false=>exact wpAny_pyIter_wide ha ⟨s1.heap.objs.size,[s1.heap.objs.size],_,Its z,H1,rfl,I1.kept (t':=s1.toks) fun b o e=>Heap.get?_push_of_some _ e,turn_str _ (fun A' hA=>Walks.strWide hA _ z t) (fun _ _ _ _ _ st h=>wpAny_pyIter_striter_wide st h),⟨⟨_,Heap.get?_push_size _ rfl,rfl,rfl⟩,Nat.zero_le _⟩,fo,q⟩
 | true=>exact wpAny_pyIter_ascii ha ⟨s1.heap.objs.size,[s1.heap.objs.size],_,Its z,H1,rfl,I1.kept (t':=s1.toks) fun b o e=>Heap.get?_push_of_some _ e,turn_str _ (fun A' hA=>Walks.strAscii hA _ z t) (fun _ _ _ _ _ st h=>wpAny_pyIter_striter_ascii st h),⟨⟨_,Heap.get?_push_size _ rfl,rfl,rfl⟩,Nat.zero_le _⟩,fo,q⟩
end
section
variable {prog:Program}{w:World}{A:Around}{E:Value->Shared->Prop}{s:Shared}{it d:Addr}{i n ep:Nat}{od:Obj}{es:Array DictEntry}
end
section
variable {prog:Program}{w:World}{A:Around}{E:Value->Shared->Prop}{s:Shared}{d:Addr}{ep:Nat}{od:Obj}{es:Array DictEntry}
end
section
variable {prog:Program}{w:World}{A:Around}{E:Value->Shared->Prop}{s:Shared}{d:Addr}{ep:Nat}{od:Obj}{es:Array DictEntry}
theorem meets_len_raw (lo:(d==sysModules)=false)(hdd:od.data = .dict es ep):
 MeetsIn prog w (Builtin.«dict.__len__» ⟨[.ref d],[]⟩) (fun _ R s=>s.heap.get? d=some od/\R (.ok (.ret (.int es.size s.toks))) { s with toks:=s.toks+1 }):=
 .of_wp fun A R s ⟨ho,h⟩=>by
  show wpAny _ _ (dictSize d >>= _) _ _ s
  unfold dictSize
  refine wpAny_bind (wpAny_bind (wpAny_dictEntries ho hdd (wpAny_pure ?_)))
  show wpAny _ _ (Builtin.Dict.pendingCount d >>= _) _ _ s
  exact wpAny_bind (wpAny_pendingCount_other lo (wpAny_ret_mkInt (by rw [Nat.add_zero];exact h)))
theorem len_raw {Q:Value->Shared->Prop}(lo:(d==sysModules)=false)(ho:s.heap.get? d=some od)(hx:od.ExactDict)(hdd:od.data = .dict es ep)(hfit:(es.size:Int)<2 ^ 63)
 (h:Q (.int es.size (s.toks+1)) { s with toks:=s.toks+1+1 }):wpAny (model prog w) A (Builtin.«len» ⟨[.ref d],[]⟩) (fun fin s'=>∃r,fin = .done (.ret r)/\Q r s') E s:=by
 have hT:s.TypeIs (.ref d) "dict":=⟨od,ho,hx.1⟩
 unfold Builtin.«len»
 refine wpAny_bind (m:=oneArg "len" _) (wpAny_pure ?_)
 refine wpAny_bind (m:=callSpecial? (.ref d) (Str.ofString "__len__")) (wpAny_callSpecial?_slot (name:=Str.ofString "__len__") hT PySem.F.slot_dict_len (call_meetsIn PySem.F.slot_dict_len hT PySem.F.entry_dict_len (PySem.F.args_dict_len_1 _) (meets_len_raw lo hdd) ⟨ho,?_⟩))
 show wpAny _ _ _ _ _ { s with toks:=s.toks+1 }
 refine wpAny_bind (wpAny_holding (wpAny_pure (wpAny_bind (wpAny_letGo ?_))))
 show wpAny _ _ (if ((es.size:Nat):Int)<0 then _ else _) _ _ _
 rw [if_neg (by omega)]
 show wpAny _ _ (if ((es.size:Nat):Int) >= 2 ^ 63 then _ else _) _ _ _
 rw [if_neg (by omega)]
 exact wpAny_bind (wpAny_mkInt (wpAny_pure ⟨_,rfl,h⟩))
end
section
variable {X:Cx}{pins:List (Addr×Obj)}{σ:St}{H:Hp}{s:Shared}{a:Addr}{kvs:List (List Key×V)}{k:List Key}
theorem dt_raw (I:Inv X pins σ H s)(e:Rd H a (.dT kvs)):∃(od:Obj) (es:Array DictEntry) (ep:Nat),s.heap.get? a=some od/\od.ExactDict/\od.data = .dict es ep/\(a==sysModules)=false/\es.size=kvs.length/\kvs.length<=sizeLine /\
 ∀(i:Nat) (p:List Key×V),kvs[i]?=some p->∃b,es[i]?.map (·.key)=some (.ref b)/\H b=some (.tup (p.1.map kV)):=by
 obtain⟨z,hd,xs,rel,o,es,ep,h1,h2,h3,h4,h5⟩:=(show ObjOk X.prog X.w H s.heap a (.dT kvs) from e.ok I.hok)
 have hl:kvs.length=xs.length:=Paired.length rel
 refine⟨o,es,ep,h1,h2,h3,hd,by rw [size_of_entries h4,hl],z,fun i p hp=>?_⟩
 have all:∀{l:List (List Key×V)} {m:List (List Key×Addr×Value)},KT H l m->∀(i:Nat) p,l[i]?=some p->∃q,m[i]?=some q/\H q.2.1=some (.tup (p.1.map kV)):=by
  intro l m q
  induction q with
  | nil=>intro i p h;simp at h
  | @cons p' q' ps qs hq t ih=>
   intro i p h
   cases i with
   | zero=>
    have:p'=p:=by simpa using h
    subst this
    exact⟨q',by simp,hq.2.1⟩
   | succ i=>obtain⟨q2,e1,e2⟩:=ih i p (by simpa using h);exact⟨q2,by simpa using e1,e2⟩
 obtain⟨q,e1,e2⟩:=all rel i p hp
 refine⟨q.2.1,?_,e2⟩
 rw [entry_at h4 i,e1]
 rfl
theorem call_lenT:CallR X (.builtin "len") (fun xs H Q=>∃a kvs,xs=[V.ref a]/\Rd H a (.dT kvs)/\Q (.int (kvs.length:Nat)) H):=by
 intro pins s σ H xs us Q I r h
 obtain⟨a,kvs,rfl,ha,q⟩:=h
 obtain⟨u,rfl,ru⟩:=vals1 r
 cases ru
 obtain⟨od,es,ep,h1,h2,h3,h4,h5,h6,h7⟩:=dt_raw I ha
 refine Calls.call_function_entry PySem.kind_len PySem.plain_len PySem.entry_len (PySem.args_len1 _) (len_raw h4 h1 h2 h3 (by rw [h5];rw [sizeLine_eq] at h6;omega) ?_)
 exact⟨.int (kvs.length:Nat),H,I.tok _,⟨_,by rw [h5]⟩,q⟩
end
section
variable {κ:Type}[DecidableEq κ]
end
theorem paired_at {α β:Type}{F:α->β->Prop}:∀{l:List α} {m:List β} {i:Nat} {x:α},Paired F l m->l[i]?=some x->∃y,m[i]?=some y/\F x y
 | _,_,_,_,.nil,h=>by simp at h
 | _,b::_,0,x,.cons (a:=a) h _,e=>⟨b,by simp,by
  have e:a=x:=by simpa using e
  rw [<-e];exact h⟩
 | _,_,i+1,x,.cons _ t,e=>by
  obtain⟨y,e1,e2⟩:=paired_at (i:=i) (x:=x) t (by simpa using e)
  exact⟨y,by simpa using e1,e2⟩
section
variable {X:Cx}{pins:List (Addr×Obj)}{σ:St}{H:Hp}{s:Shared}{a b:Addr}{kvs:List (List Key×V)}{k:List Key}{A:Around}{E:Value->Shared->Prop}
end
section
variable {X:Cx}{o i e:Expr}{td ty:TE}{pos tpos apos cpos:Pos}
end
section
variable {X:Cx}{pins:List (Addr×Obj)}{σ:St}{H:Hp}{s:Shared}{d:Addr}{od:Obj}{kvs:List (List Key×V)}
end
section
variable {X:Cx}{pos:Pos}
end
inductive Kn where | non | bl | int | str | tup | lst
def Kn.ty:Kn->String
 | .non=>"NoneType" | .bl=>"bool" | .int=>"int" | .str=>"str" | .tup=>"tuple" | .lst=>"list"
def shapeV:V->Kn->Bool
 | .non,.non=>true
 | .bl _,.bl=>true
 | .int _,.int=>true
 | .str _,.str=>true
 | .ref _,.tup=>true
 | .ref _,.lst=>true
 | _,_=>false
structure KindV (K:PySem.W.Frag)(H:Hp)(v:V)(k:Kn):Prop where
 ty:TyOf K H v (.type k.ty)
 sh:shapeV v k=true
section
variable {K:PySem.W.Frag}{H:Hp}
theorem kn_non:KindV K H .non .non:=⟨.non,rfl⟩
theorem kn_bl (b:Bool):KindV K H (.bl b) .bl:=⟨.bl b,rfl⟩
theorem kn_int (i:Int):KindV K H (.int i) .int:=⟨.int i,rfl⟩
theorem kn_str (x:Str):KindV K H (.str x) .str:=⟨.str x,rfl⟩
theorem kn_tup {a:Addr}{xs:List V}(e:H a=some (.tup xs)):KindV K H (.ref a) .tup:=⟨.tup e,rfl⟩
theorem kn_lst {a:Addr}{xs:List V}(e:H a=some (.lst xs)):KindV K H (.ref a) .lst:=⟨.lst e,rfl⟩
end
def isInt:Kn->Bool | .int=>true | .bl=>true | _=>false
def isBl:Kn->Bool | .bl=>true | _=>false
def isStr:Kn->Bool | .str=>true | _=>false
def isTup:Kn->Bool | .tup=>true | _=>false
def isLst:Kn->Bool | .lst=>true | _=>false
theorem kit_int (K:PySem.W.Frag)(k:Kn):PySem.W.kitOne K (.type k.ty) (.type "int")=some (isInt k):=by cases k<;>with_unfolding_all rfl
theorem kit_bool (K:PySem.W.Frag)(k:Kn):PySem.W.kitOne K (.type k.ty) (.type "bool")=some (isBl k):=by cases k<;>with_unfolding_all rfl
theorem kit_str (K:PySem.W.Frag)(k:Kn):PySem.W.kitOne K (.type k.ty) (.type "str")=some (isStr k):=by cases k<;>with_unfolding_all rfl
theorem kit_tuple (K:PySem.W.Frag)(k:Kn):PySem.W.kitOne K (.type k.ty) (.type "tuple")=some (isTup k):=by cases k<;>with_unfolding_all rfl
theorem kit_list (K:PySem.W.Frag)(k:Kn):PySem.W.kitOne K (.type k.ty) (.type "list")=some (isLst k):=by cases k<;>with_unfolding_all rfl
section
variable {X:Cx}
def rIsiK (K:PySem.W.Frag)(f:Kn->Bool)(T:String):List V->Hp->VK->Prop:=fun xs H Q=>∃x k,xs=[x,.ty T]/\KindV K H x k/\Q (.bl (f k)) H
theorem call_isiK {T:String}{f:Kn->Bool}(hk:∀k,PySem.W.kitOne X.K (.type k.ty) (.type T)=some (f k)):CallR X (.builtin "isinstance") (rIsiK X.K f T):=by
 intro pins s σ H xs us Q I r h
 obtain⟨x,k,rfl,kn,q⟩:=h
 exact call_isi pins s σ H _ us Q I r ⟨x,.ty T,_,.type T,_,rfl,rfl,fun _ z=>z,kn.ty,hk k,q⟩
end
end L2
namespace L2
open PySem
structure LftV (v3:Value)(fs:List Addr)(e:Addr)(oe:Obj)(vs:Array Value)(T:Addr)(h h':Heap):Prop where
 keep:∀b o,h.get? b=some o->b≠e->b∉fs->h'.get? b=some o
 slot:∀b o,h.get? b=some o->b∈fs->∃sl,h'.get? b=some { o with slots:=sl }
 exc:h'.get? e=some { oe with data:=.fields (vs.setIfInBounds 1 (.ref T)) }
 new:h.get? T=none
 big:h.objs.size<=T
 trc:∃oT ts,h'.get? T=some oT/\oT.data = .fields ts/\ts[3]?=some v3
abbrev Lft:=LftV .none
section
variable {M:Model}{A:Around}{E:Value->Shared->Prop}{s:Shared}
theorem mapF {o:Obj}{vs:Array Value}(hd:o.data = .fields vs)(f:Array Value->Array Value):o.mapFields f={ o with data:=.fields (f vs) }:=by
 obtain⟨c,d,dt,sl⟩:=o
 have hd:dt = .fields vs:=hd
 subst hd
 rfl
theorem mapF_same {o:Obj}{vs:Array Value}{i:Nat}{x:Value}(hd:o.data = .fields vs)(hx:vs[i]?=some x):o.mapFields (·.setIfInBounds i x)=o:=by
 rw [mapF hd]
 have e:vs.setIfInBounds i x=vs:=by
  obtain⟨hi,hxi⟩:=Array.getElem?_eq_some_iff.mp hx
  rw [Array.setIfInBounds_def,dif_pos hi,<-hxi,Array.set_getElem_self]
 rw [e,<-hd]
def NxT (M:Model)(A:Around)(e:Addr)(v3:Value)(nx:Sem Unit):Prop:=∀(s1:Shared) (oe:Obj) (vs:Array Value) (T:Addr) (oT:Obj) (ts:Array Value) (Q:Unit->Shared->Prop) (E:Value->Shared->Prop),s1.heap.get? e=some oe->oe.data = .fields vs->vs[1]?=some (.ref T)->s1.heap.get? T=some oT->oT.data = .fields ts->3<ts.size ->
 Q () { s1 with heap:=s1.heap.update T (Obj.mapFields (·.setIfInBounds 3 v3)) }->wpAny M A nx Q E s1
theorem nx_flight {e:Addr}(fr:Option Addr):NxT M A e (fr.elim .none fun f=>rawInt f) (setFlight (.ref e) fr):=by
 intro s1 oe vs T oT ts Q E h1 h2 h3 h4 h5 h6 q
 unfold setFlight
 refine wpAny_bind (wpAny_field h1 h2 h3 ?_)
 rw [if_pos (by simp)]
 exact wpAny_setField h4 h5 h6 q
theorem nx_back {e:Addr}(fr:Option Addr):NxT M A e (fr.elim .none fun f=>rawInt f) (do
 if (<-field (.ref e) 1) == .none then unsupported "frame.own-activation:exception-without-traceback"
 setFlight (.ref e) fr):=by
 intro s1 oe vs T oT ts Q E h1 h2 h3 h4 h5 h6 q
 refine wpAny_bind (wpAny_field h1 h2 h3 ?_)
 rw [if_neg (by simp)]
 exact nx_flight fr s1 oe vs T oT ts Q E h1 h2 h3 h4 h5 h6 q
theorem lft_new {base:Heap}{env:Env}{outer:List Env}{L e:Addr}{oe:Obj}{vs:Array Value}{head:Value}{had:Bool}{v3:Value}{nx:Sem Unit}{Q:Unit->Shared->Prop}(hnx:NxT M A e v3 nx)(fr:A.frames=some (env::outer))(fl:s.heap.FunFrames base (env::outer))
 (hL:env.frame=some L) (he:s.heap.get? e=some oe) (hd:oe.data = .fields vs) (hsz:1<vs.size) (k:∀h' T,LftV v3 ((env::outer).filterMap (·.frame)) e oe vs T s.heap h'->Q () { s with heap:=h' }):
 wpAny M A (do let a <-frameOf env;let pl <-entryPlaceOf L had;let b <-EntryCells.newEntry head a .none (rawInt L) .none pl;setField (.ref e) 1 b) (fun _ s1=>wpAny M A nx Q E s1) E s:=by
 have ne:e∉(env::outer).filterMap (·.frame):=fun z=>by
  obtain⟨_,o,ho,nf⟩:=fl.mem z
  rw [he] at ho
  cases ho
  exact nf vs hd
 refine wpAny_bind (wpAny_frameOf_fun fr fl hL fun h1 S1=>?_)
 refine wpAny_bind (wpAny_entryPlaceOf fun pl ip=>?_)
 unfold EntryCells.newEntry newFields
 refine wpAny_bind (wpAny_newObj_type ?_ (ip.sizeOk5 _ _ _ _ _))
 have e1:h1.get? e=some oe:=(S1.2.1 e ne).trans he
 generalize ho:({ cls:=.type "traceback",dict:=none,data:=.fields ([head,.ref L,.none,rawInt L,.none]++(if pl.isEmpty then List.replicate 6 Value.none else pl)).toArray }:Obj)=oT
 have hoT:oT.data = .fields ([head,.ref L,.none,rawInt L,.none]++(if pl.isEmpty then List.replicate 6 Value.none else pl)).toArray:=by rw [<-ho]
 have fT:oT.isFreed=false:=by rw [<-ho];rfl
 have e2:(h1.push oT).get? e=some oe:=Heap.get?_push_of_some oT e1
 refine wpAny_setField e2 hd hsz ?_
 have nT:h1.objs.size≠e:=Nat.ne_of_gt (Heap.lt_size e1)
 have e3:=Heap.get?_update_self (Obj.mapFields (·.setIfInBounds 1 (Value.ref h1.objs.size))) e2 (Obj.isFreed_of_fields (Obj.data_mapFields hd _))
 have t3:((h1.push oT).update e (Obj.mapFields (·.setIfInBounds 1 (Value.ref h1.objs.size)))).get? h1.objs.size=some oT:=by
  rw [Heap.get?_update_other _ _ (Ne.symm nT)]
  exact Heap.get?_push_size h1 fT
 refine hnx _ _ _ _ _ _ _ _ e3 (Obj.data_mapFields hd _) (by simp [hsz]) t3 hoT (by simp only [List.size_toArray,List.length_append,List.length_cons,List.length_nil]<;>omega) (k _ h1.objs.size ?_)
 have lt:s.heap.objs.size=h1.objs.size:=S1.1.symm
 refine⟨fun b o hb nb nf=>?_,fun b o hb bf=>?_,?_,?_,Nat.le_of_eq lt,?_⟩
 ·have b1:h1.get? b=some o:=(S1.2.1 b nf).trans hb
  rw [Heap.get?_update_other _ _ (Nat.ne_of_gt (Heap.lt_size b1)),Heap.get?_update_other _ _ (Ne.symm nb)]
  exact Heap.get?_push_of_some _ b1
 ·obtain⟨sl,b1⟩:=S1.2.2 b o hb
  refine⟨sl,?_⟩
  rw [Heap.get?_update_other _ _ (Nat.ne_of_gt (Heap.lt_size b1)),Heap.get?_update_other _ _ (fun z=>ne (by rw [z];exact bf))]
  exact Heap.get?_push_of_some _ b1
 ·rw [Heap.get?_update_other _ _ nT,e3,mapF hd]
 ·rw [<-lt]
  exact Heap.get?_none_of_le (Nat.le_refl _)
 ·refine⟨_,_,Heap.get?_update_self _ t3 (Obj.isFreed_of_fields (Obj.data_mapFields hoT _)),Obj.data_mapFields hoT _,?_⟩
  first
   | (simp;done)
   | (rcases ip with rfl | ⟨_,_,_,_,_,_,_,rfl⟩<;>simp)
def Trc (h:Heap)(e:Addr)(vs:Array Value):Prop:=vs[1]?=some .none\/∃T oT ts,vs[1]?=some (.ref T)/\T≠e/\h.get? T=some oT/\oT.data = .fields ts/\ts[3]?=some .none
theorem lft_noteV {base:Heap}{env:Env}{outer:List Env}{L e:Addr}{oe:Obj}{vs:Array Value}{v3:Value}{nx:Sem Unit}{Q:Unit->Shared->Prop}(hnx:NxT M A e v3 nx)(fr:A.frames=some (env::outer))(fl:s.heap.FunFrames base (env::outer))
 (hL:env.frame=some L) (he:s.heap.get? e=some oe) (hd:oe.data = .fields vs) (ht:Trc s.heap e vs) (k:∀h' T,LftV v3 ((env::outer).filterMap (·.frame)) e oe vs T s.heap h'->Q () { s with heap:=h' }):
 wpAny M A (noteFrame (.ref e) env) (fun _ s1=>wpAny M A nx Q E s1) E s:=by
 unfold noteFrame
 simp only [hL]
 rcases ht with h1 | ⟨T,oT,ts,h1,nT,hT,dT,h3⟩
 ·refine wpAny_bind (wpAny_field he hd h1 ?_)
  rw [if_neg (by decide)]
  exact lft_new hnx fr fl hL he hd (Array.getElem?_eq_some_iff.mp h1).1 k
 ·refine wpAny_bind (wpAny_field he hd h1 ?_)
  rw [if_pos (by simp)]
  refine wpAny_bind (wpAny_field hT dT h3 ?_)
  rw [if_neg (by simp [rawInt])]
  refine wpAny_bind (wpAny_setField hT dT (Array.getElem?_eq_some_iff.mp h3).1 ?_)
  have same:∀b o,s.heap.get? b=some o->(s.heap.update T (Obj.mapFields (·.setIfInBounds 3 Value.none))).get? b=some o:=fun b o hb=>by
   by_cases z:b=T
   ·subst z
    rw [hT] at hb
    cases hb
    rw [Heap.get?_update_self _ hT (Obj.isFreed_of_fields (Obj.data_mapFields dT _)),mapF_same dT h3]
   ·rw [Heap.get?_update_other _ _ (Ne.symm z)];exact hb
  have back:∀b,s.heap.get? b=none->(s.heap.update T (Obj.mapFields (·.setIfInBounds 3 Value.none))).get? b=none:=fun b hb=>by
   rw [Heap.get?_update_other _ _ (fun z=>by rw [z,hb] at hT;cases hT)];exact hb
  have back':∀b,(s.heap.update T (Obj.mapFields (·.setIfInBounds 3 Value.none))).get? b=none->s.heap.get? b=none:=fun b hb=>by
   cases z:s.heap.get? b with
   | none=>rfl
   | some o=>rw [same b o z] at hb;cases hb
  refine lft_new hnx (s:={ s with heap:=s.heap.update T (Obj.mapFields (·.setIfInBounds 3 Value.none)) }) fr (fl.of_keeps fun b o hb _=>⟨o,same b o hb,rfl⟩) hL (same e oe he) hd (Array.getElem?_eq_some_iff.mp h1).1 fun h' T' l=>k h' T' ?_
  exact⟨fun b o hb=>l.keep b o (same b o hb),fun b o hb=>l.slot b o (same b o hb),l.exc,back' _ l.new,by have:=l.big;simpa [Heap.update] using this,l.trc⟩
theorem lft_note {base:Heap}{env:Env}{outer:List Env}{L e:Addr}{oe:Obj}{vs:Array Value}{Q:Unit->Shared->Prop}(fr:A.frames=some (env::outer))(fl:s.heap.FunFrames base (env::outer))
 (hL:env.frame=some L) (he:s.heap.get? e=some oe) (hd:oe.data = .fields vs) (ht:Trc s.heap e vs) (k:∀h' T,Lft ((env::outer).filterMap (·.frame)) e oe vs T s.heap h'->Q () { s with heap:=h' }):
 wpAny M A (noteFrame (.ref e) env) (fun _ s1=>wpAny M A (setFlight (.ref e) none) Q E s1) E s:=lft_noteV (nx_flight none) fr fl hL he hd ht k
theorem lft_leave {base:Heap}{env:Env}{outer:List Env}{L e:Addr}{oe:Obj}{vs:Array Value}{Q:Unit->Shared->Prop}(fr:A.frames=some (env::outer))(fl:s.heap.FunFrames base (env::outer))
 (hL:env.frame=some L) (he:s.heap.get? e=some oe) (hd:oe.data = .fields vs) (ht:Trc s.heap e vs) (k:∀h' T,Lft ((env::outer).filterMap (·.frame)) e oe vs T s.heap h'->Q () { s with heap:=h' }):
 wpAny M A (leaving env (.ref e)) Q E s:=by
 unfold leaving
 exact wpAny_bind (lft_note fr fl hL he hd ht k)
end
end L2
namespace L2
open PySem PySem.Spec PyProof.Rows
theorem ObjOk.there {P:Program}{w:World}{H:Hp}{h:Heap}{a:Addr}{o:HO}(x:ObjOk P w H h a o):∃ob,h.get? a=some ob:=by
 cases o with
 | lst xs=>obtain⟨_,_,_,_,e⟩:=x;exact⟨_,e⟩
 | tup xs=>obtain⟨_,_,_,ob,e,_⟩:=x;exact⟨_,e⟩
 | dK kvs=>obtain⟨_,_,_,_,o,_,_,e,_⟩:=x;exact⟨_,e⟩
 | dT kvs=>obtain⟨_,_,_,_,o,_,_,e,_⟩:=x;exact⟨_,e⟩
 | set S n=>obtain⟨o,_,_,_,e,_⟩:=x;exact⟨_,e⟩
 | ins C dx fs=>obtain⟨_,_,_,e,_⟩:=x;exact⟨_,e⟩
 | own y=>exact x
 | xd fs=>obtain⟨_,⟨_,_,_,e,_⟩,_⟩:=x;exact⟨_,e⟩
 | rng lo hi=>obtain⟨_,_,_,e⟩:=x;exact⟨_,e⟩
 | frz ob u=>obtain⟨e,_⟩:=x;exact⟨_,e⟩
 | tbl ps=>exact⟨_,x⟩
 | met f y=>exact⟨_,x⟩
 | ext φ=>exact x.2.1
theorem HOk.free {P:Program}{w:World}{H:Hp}{h:Heap}{a:Addr}(x:HOk P w H h)(e:h.get? a=none):H a=none:=by
 cases q:H a with
 | none=>rfl
 | some o=>
  obtain⟨ob,z⟩:=(x a o q).there
  rw [e] at z
  cases z
def CXF (P:Program)(w:World):CXT:=fun outer H s E e s'=>∃(a C:Addr) (dx:Option Addr) (H':Hp) (o:Obj) (vs:Array Value),e = .ref a/\s'.os=s.os/\AllBare s'.gens/\Un (frs outer) [] H H' s.heap s'.heap/\HOk P w H' s'.heap /\
 s.heap.get? a=none/\H' a=none/\s'.heap.get? a=some o/\o.cls = .ref C/\o.dict=dx/\o.data = .fields vs/\vs[2]?=some .none/\Trc s'.heap a vs/\E (.ref C) dx H'
def Flies (X:Cx)(E:XK):Prop:=∀(pins:List (Addr×Obj)) (σ:St) (H:Hp) (s:Shared) (a C:Addr) (dx:Option Addr) (o:Obj) (vs:Array Value),Inv X pins σ H s->X.s₀.heap.get? a=none->H a=none->s.heap.get? a=some o->o.cls = .ref C->o.dict=dx ->
 o.data = .fields vs->vs[2]?=some .none->Trc s.heap a vs->E (.ref C) dx H->X.xe (.ref a) s
theorem Inv.gone {X:Cx}{pins:List (Addr×Obj)}{σ:St}{H:Hp}{s:Shared}{a:Addr}(I:Inv X pins σ H s)(hx:X.ex=[])(e:s.heap.get? a=none):X.s₀.heap.get? a=none:=by
 cases q:X.s₀.heap.get? a with
 | none=>rfl
 | some o=>
  obtain⟨o',z⟩:=I.base.there a o q (by rw [hx];simp)
  rw [e] at z
  cases z
theorem isCell_slots {h h':Heap}{c:Addr}{v:Option Value}(x:h.IsCell c v)(k:∀o,h.get? c=some o->∃sl,h'.get? c=some { o with slots:=sl }):h'.IsCell c v:=by
 obtain⟨o,e,d⟩:=x
 obtain⟨sl,e'⟩:=k o e
 exact⟨_,e',d⟩
section
variable {X:Cx}{pins:List (Addr×Obj)}{σ:St}{H:Hp}{s:Shared}
theorem Inv.lft {v3:Value}{a T:Addr}{o:Obj}{vs:Array Value}{h':Heap}(I:Inv X pins σ H s)(l:LftV v3 (frs X.stack) a o vs T s.heap h')(ha:s.heap.get? a=some o)(hd:o.data = .fields vs)(haH:H a=none)(h0:X.s₀.heap.get? a=none)(hp:∀p∈X.pn++pins,p.1≠a):Inv X pins σ H { s with heap:=h' }:=by
 have na:∀b ob,X.s₀.heap.get? b=some ob->b≠a:=fun b ob e z=>by rw [z,h0] at e;cases e
 have nl:∀b ob,X.s₀.heap.get? b=some ob->b≠X.env.locals:=fun b ob e=>Nat.ne_of_lt (Nat.lt_of_lt_of_le (Heap.lt_size e) I.ok.above)
 have any:∀b ob,s.heap.get? b=some ob->b≠a->∃sl,h'.get? b=some { ob with slots:=sl }:=fun b ob e n=>by
  by_cases z:b∈frs X.stack
  ·exact l.slot b ob e z
  ·exact⟨ob.slots,l.keep b ob e n z⟩
 have cel:∀c v,s.heap.IsCell c v->h'.IsCell c v:=fun c v x=>by
  refine isCell_slots x fun ob e=>any c ob e fun z=>?_
  obtain⟨oc,e1,d1⟩:=x
  rw [z,ha] at e1
  cases e1
  rw [hd] at d1
  cases d1
 refine⟨I.ok,I.os,I.bare,⟨fun b ob e n hb hx=>?_,fun b ob e n hb hx=>?_,I.base.free,fun b ob e hx=>?_,I.base.tups,I.base.frzs,I.base.tbls⟩,?_,fun x c e=>?_,I.free,I.freeC,fun p q=>?_,fun b u q=>?_,I.len⟩
 ·refine l.keep b ob (I.base.keep b ob e n hb hx) (na b ob e) fun z=>?_
  rcases List.mem_cons.mp (I.stkSub b z) with z | z
  ·exact nl b ob e z
  ·exact hb z
 ·obtain⟨sl,e1⟩:=I.base.slot b ob e n hb hx
  obtain⟨sl2,e2⟩:=any b _ e1 (na b ob e)
  exact⟨sl2,e2⟩
 ·obtain⟨o',e1⟩:=I.base.there b ob e hx
  obtain⟨sl2,e2⟩:=any b _ e1 (na b ob e)
  exact⟨_,e2⟩
 ·obtain⟨m,⟨ol,es,ep,e,d,r⟩,q⟩:=I.loc
  have nla:X.env.locals≠a:=fun z=>by
   rw [z,ha] at e
   cases e
   rw [hd] at d
   cases d
  obtain⟨sl,e2⟩:=any _ _ e nla
  refine⟨m,⟨_,es,ep,e2,d,r⟩,fun i x v h1 h2 vis=>?_⟩
  obtain⟨u,rv,lk⟩:=q i x v h1 h2 vis
  refine⟨u,rv,?_⟩
  rcases lk with lk | ⟨k1,c,k2,k3⟩
  ·exact .inl lk
  ·exact .inr ⟨k1,c,k2,cel c _ k3⟩
 ·obtain⟨v,z⟩:=I.cell x c e
  exact⟨v,cel c v z⟩
 ·obtain⟨e,n,ne,nf,d⟩:=I.pin p q
  refine⟨l.keep _ _ e (hp p q) fun z=>?_,n,ne,nf,d⟩
  rcases List.mem_cons.mp (I.stkSub _ z) with z | z
  ·exact ne z
  ·exact nf z
 ·refine (I.hok b u q).stay (fun c v hc r=>l.keep c v r (fun z=>?_) fun z=>?_) (fun _ r=>r) fun _ _ r=>r
  ·rcases hc with hc | hc
   ·rw [hc] at z;rw [z,haH] at q;cases q
   ·rw [z,haH] at hc;cases hc
  ·have:=I.stkFree c z
   rcases hc with hc | hc
   ·rw [hc,q] at this;cases this
   ·rw [hc] at this;cases this
end
theorem flies_of {X:Cx}{E:XK}(hex:X.ex=[])(hpn:X.pn=[])(hst:X.stack=X.env::X.outer)(hfr:X.env.frame=some X.env.locals)
 (hxe:∀e s',wpAny (model X.prog X.w) X.A (leaving X.env e) (fun _ s''=>CXF X.prog X.w X.outer X.H₀ X.s₀ E e s'') (fun e' s''=>CXF X.prog X.w X.outer X.H₀ X.s₀ E e' s'') s'->X.xe e s'):Flies X E:=by
 intro pins σ H s1 a C dx o vs I ha0 haH he hc hdx hd h2 ht hE
 apply hxe
 refine lft_leave (base:=X.base) (env:=X.env) (outer:=X.outer) (by rw [<-hst];exact I.ok.frames) (by rw [<-hst];exact I.stack) hfr he hd ht fun h' T l=>?_
 have l':Lft (frs X.stack) a o vs T s1.heap h':=by rw [hst];exact l
 have I0:Inv X [] σ H s1:=I.pins_of fun p hp=>absurd hp (by simp)
 have J:=I0.lft l' he hd haH ha0 fun p hp=>absurd hp (by rw [hpn];simp)
 have h1:1<vs.size:=by
  rcases ht with z | ⟨_,_,_,z,_⟩<;>exact (Array.getElem?_eq_some_iff.mp z).1
 have jb:=J.base
 rw [hex] at jb
 refine⟨a,C,dx,H,_,_,rfl,J.os,J.bare,jb,J.hok,ha0,haH,l.exc,hc,hdx,rfl,?_,?_,hE⟩
 ·rw [Array.getElem?_setIfInBounds_ne (by decide)];exact h2
 ·obtain⟨oT,ts,t1,t2,t3⟩:=l.trc
  refine .inr ⟨T,oT,ts,by simp [h1],fun z=>?_,t1,t2,t3⟩
  have:=l.new
  rw [z,he] at this
  cases this
theorem flies_cxOf {P:Program}{w:World}{K:PySem.W.Frag}{mg:Str->Option Value}{base:Heap}{N:List Str}{qual:Str}{scope:Scope}{f:Addr}{cd:Value}{A:Around}{outer:List Env}{s:Shared}{H₀:Hp}{E:XK}:
 Flies (cxOf (CXF P w) P w K mg base N qual scope f cd A outer s H₀ E) E:=flies_of rfl rfl rfl rfl fun _ _ h=>h
theorem passF {X:Cx}{E:XK}(h:Flies X E)(hx:X.ex=[]:=by rfl):Passes (CXF X.prog X.w) X E:=by
 rintro pins σ H s e s' I ⟨a,C,dx,H',o,vs,rfl,os,bare,un,hok,ha,haH,he,hc,hdx,hd,h2,ht,hE⟩
 have I':Inv X pins σ H' s':=I.call' os un hok bare (fun b z=>absurd z (by simp))
 exact h pins σ H' s' a C dx o vs I' (I.gone hx ha) haH he hc hdx hd h2 ht hE
def ExcC (K:PySem.W.Frag)(C:Addr):Prop:=∃nm q N bs bm hdct sn sub ab col dd k0 k1 k2 k3 k5,K.lookup C=some (excClassObj nm q C N bs bm hdct sn sub ab col dd k0 k1 k2 k3 k5 "ValueError.__new__")/\bm.contains (.type "BaseException")=true /\
 (∀h:Heap,K.In h->∃mN,h.Ns N mN/\mN "__init__" = none)/\∀h:Heap,K.In h->OwnTail h [.type "ValueError",.type "Exception",.type "BaseException",.type "object"] bm
section
variable {X:Cx}
def tRaise (C:Addr)(E:XK)(ta:TA):TS:=fun _ σ H=>ta σ H fun vs H1=>vs.length<=sizeLine/\E (.ref C) none H1
theorem ps_raise {E:XK}{C:Addr}{x:Str}{np cpos pos:Pos}{e:Expr}{es:List Expr}{ta:TA}(hF:Flies X E)(hc:X.calm=true)(c:ExcC X.K C)(hg:Gl X x)(hm:X.mg x=some (.ref C))(ha:PA X (e::es) ta)(hx:X.ex=[]:=by rfl)(hdb:(x==("__debug__":Str))=false:=by decide)
 (he:starEach (e::es) X.env=(false,eval e X.env)::starEach es X.env:=by rfl) (hpl:(backTo cpos (starEach es X.env)).any (·.1)=false:=by rfl):
 PS X (.Raise (some (.Call (.Name x np) (e::es) [] cpos)) none pos) (tRaise C E ta):=by
 intro pins s σ H D I h
 obtain⟨nm,q,N,bs,bm,hdct,sn,sub,ab,col,dd,k0,k1,k2,k3,k5,hK,hb,hN,hT⟩:=c
 obtain⟨mN,hns,hni⟩:=hN X.base I.mod.kin
 have tl:=hT X.base I.mod.kin
 have ha:=ha cpos pins s σ H _ I h
 rw [he] at ha
 refine wpAny_Raise_call_subT (nm:=nm) (q:=q) (C:=C) (N:=N) (bs:=bs) (bm:=bm) (hdct:=hdct) (sn:=sn) (sub:=sub) (ab:=ab) (col:=col) (dd:=dd) (k0:=k0) (k1:=k1) (k2:=k2) (k3:=k3) (k5:=k5) PySem.F.excBase_ValueError hb (I.ok.hd hc) (by rw [he];show (false||(backTo cpos (starEach es X.env)).any (·.1))=false;rw [hpl];rfl) hni (ld_glob I hg hm ⟨rfl,?_⟩ hdb)
 rw [he]
 refine Calls.evalArgs_plain (thn ha fun us s2 ⟨vs,H1,I1,r,hl,hE⟩=>?_)
 refine⟨rfl,by rw [<-r.length];exact hl,I1.kIn _ _ hK,hns.keeps I1.bk,tl.keeps I1.bk,fun h' a hm'=>?_⟩
 obtain⟨t,ht,_,_⟩:=hm'.there
 have I2:Inv X pins σ H1 { s2 with heap:=h' }:=I1.kept (t':=s2.toks) hm'.keeps
 exact hF pins σ H1 _ a C none _ _ I2 (I1.gone hx hm'.new) (I1.hok.free hm'.new) ht rfl rfl rfl rfl (.inl rfl) hE
end
abbrev TJ:=St->Hp->Str->(Str->Hp->Prop)->Prop
section
variable {X:Cx}{pos:Pos}{e e1 e2:Expr}{es:List Expr}{te:TE}{t:TJ}
def PJ (X:Cx)(es:List Expr)(t:TJ):Prop:=∀(pins:List (Addr×Obj)) (s:Shared) (σ:St) (H:Hp) (acc:Str) (Q:Str->Hp->Prop),Inv X pins σ H s->t σ H acc Q ->
 wpAny (model X.prog X.w) X.A (joinParts acc (evalEach es X.env)) (EP X pins σ fun v H1=>∃y,v = .str y/\Q y H1) X.xe s
def jNil:TJ:=fun _ H acc Q=>acc.length<=sizeLine/\Q acc H
def jCons (te:TE)(t:TJ):TJ:=fun σ H acc Q=>te σ H fun v H1=>∃y,v = .str y/\(acc++y).length<=sizeLine/\t σ H1 (acc++y) Q
theorem pj_nil:PJ X [] jNil:=by
 intro pins s σ H acc Q I h
 exact joinParts_nil ⟨.str acc,H,I.kept (t':=s.toks+1) (fun _ _ e=>e),⟨_,rfl⟩,acc,rfl,h.2⟩ h.1
theorem pj_cons (he:PE X e te)(hr:PJ X es t):PJ X (e::es) (jCons te t):=by
 intro pins s σ H acc Q I h
 refine joinParts_cons (thn (he pins s σ H _ I h) fun u s1 ⟨v,H1,I1,r,y,ev,hl,q⟩=>?_)
 subst ev
 obtain⟨tk,rfl⟩:=r
 exact⟨hl,hr pins s1 σ H1 _ Q I1 q⟩
def tFstr (t:TJ):TE:=fun σ H Q=>t σ H Str.empty fun out H1=>Q (.str out) H1
theorem pe_fstr (h:PJ X (e1::e2::es) t):PE X (.JoinedStr (e1::e2::es) pos) (tFstr t):=by
 intro pins s σ H Q I hq
 refine JoinedStr_many (thn (h pins s σ H _ _ I hq) fun u s1 ⟨v,H1,I1,r,y,ev,q⟩=>?_)
 subst ev
 exact⟨.str y,H1,I1,r,q⟩
def tFmtI (te:TE):TE:=fun σ H Q=>te σ H fun v H1=>∃i:Int,v = .int i/\i.natAbs.log2<1920/\Q (.str (toString i)) H1
theorem pe_fmtI (he:PE X e te):PE X (.FormattedValue e (-1) none pos) (tFmtI te):=by
 intro pins s σ H Q I hq
 refine FormattedValue_plain (thn (he pins s σ H _ I hq) fun u s1 ⟨v,H1,I1,r,i,ev,hl,q⟩=>?_)
 subst ev
 obtain⟨tk,rfl⟩:=r
 exact formatField_int_small hl ⟨.str (toString i),H1,I1.kept (t':=s1.toks+1+1) (fun _ _ e=>e),⟨_,rfl⟩,q⟩
end
def codeO (qual:Str)(c:Addr):HO:=.ext fun h=>h.CodeRec (.ref c) qual
def Tbl (H:Hp)(P:Addr)(qual:Str):Prop:=∃ps,H P=some (.tbl ps)/\TriplesOk ps.toList/\∀pos cv,codeAmong pos ps.toList=some cv->∃c,cv = .ref c/\H c=some (codeO qual c)
def Grown (d:Addr)(H H':Hp):Prop:=∀b o,b≠d->H b=some o->H' b=some o
theorem Tbl.same {H H':Hp}{P:Addr}{q:Str}(x:Tbl H P q)(e:∀b o,H b=some o->H' b=some o):Tbl H' P q:=
 let ⟨ps,h1,h2,h3⟩:=x
 ⟨ps,e _ _ h1,h2,fun pos cv h=>let ⟨c,e1,e2⟩:=h3 pos cv h;⟨c,e1,e _ _ e2⟩⟩
theorem Tbl.grown {H H':Hp}{P d:Addr}{q:Str}{od:HO}(x:Tbl H P q)(e:Grown d H H')(hd:H d=some od)(n1:∀ps,od ≠ .tbl ps)(n2:∀c,od≠codeO q c):Tbl H' P q:=
 let ⟨ps,h1,h2,h3⟩:=x
 ⟨ps,e _ _ (fun z=>by rw [z,hd] at h1;exact n1 _ (Option.some.inj h1)) h1,h2,fun pos cv h=>let ⟨c,e1,e2⟩:=h3 pos cv h;⟨c,e1,e _ _ (fun z=>by rw [z,hd] at e2;exact n2 _ (Option.some.inj e2)) e2⟩⟩
theorem triples_cases {l:List Value}(ok:TriplesOk l):l=[]\/∃a t b u x r,l = .int a t :: .int b u::x::r/\TriplesOk r:=by
 rcases l with _ | ⟨p,_ | ⟨q,_ | ⟨x,r⟩⟩⟩
 ·exact .inl rfl
 ·cases p<;>exact (show False from ok).elim
 ·cases p with
  | int a t=>cases q<;>exact (show False from ok).elim
  | _=>exact (show False from ok).elim
 ·cases p with
  | int a t=>
   cases q with
   | int b u=>exact .inr ⟨a,t,b,u,x,r,rfl,ok⟩
   | _=>exact (show False from ok).elim
  | _=>exact (show False from ok).elim
theorem among_snoc {pos:Pos}{cv c:Value}{i j:Nat}(l:List Value)(ok:TriplesOk l)(h:codeAmong pos (l++[rawInt i,rawInt j,c])=some cv):codeAmong pos l=some cv\/cv=c:=by
 induction n:l.length using Nat.strongRecOn generalizing l with
 | ind n ih=>
  rcases triples_cases ok with rfl | ⟨a,t,b,u,x,r,rfl,okr⟩
  ·have h:(if ((i:Int)==(pos.line:Int)&&(j:Int)==(pos.col:Int))=true then some c else none)=some cv:=h
   split at h
   ·exact .inr (Option.some.inj h).symm
   ·cases h
  ·have h:(if (a==(pos.line:Int)&&b==(pos.col:Int))=true then some x else codeAmong pos (r++[rawInt i,rawInt j,c]))=some cv:=h
   show (if (a==(pos.line:Int)&&b==(pos.col:Int))=true then some x else codeAmong pos r)=some cv\/cv=c
   split at h
   ·rename_i z
    rw [if_pos z]
    exact .inl h
   ·rename_i z
    rw [if_neg z]
    exact ih r.length (by rw [<-n];simp only [List.length_cons];omega) r okr h rfl
theorem triples_snoc {c:Value}{i j:Nat}(l:List Value)(ok:TriplesOk l):TriplesOk (l++[rawInt i,rawInt j,c]):=by
 induction n:l.length using Nat.strongRecOn generalizing l with
 | ind n ih=>
  rcases triples_cases ok with rfl | ⟨a,t,b,u,x,r,rfl,okr⟩
  ·trivial
  ·exact ih r.length (by rw [<-n];simp only [List.length_cons];omega) r okr rfl
def BmAt (mg:Str->Option Value)(base:Heap):Prop:=∃bm o,mg "__builtins__" = some (.ref bm)/\bm≠builtinsNs/\bm≠mainGlobals/\base.get? bm=some o/\o.cls = .type "module"/\o.dict=some builtinsNs/\o.data = .plain
section
variable {X:Cx}{pins:List (Addr×Obj)}{σ:St}{H:Hp}{s:Shared}
theorem lam_make {E:Value->Shared->Prop}{Q:Value->Shared->Prop}{params:Arguments}{body:Expr}{sc:Scope}{pos:Pos}{c P:Addr}(I:Inv X pins σ H s)(hcode:X.env.code = .ref c)(hC:PySem.W.codeHdIn X.K c P=true)
 (hT:Tbl H P (X.env.qual ++ "<lambda>")) (hB:BmAt X.mg X.base) (hdef:defaultsOf params X.env=([],[])) (hfree:∀p∈sc.names,p.2=NameKind.free->∃c,X.env.cells.lookup p.1=some c)
 (k:∀(f c':Addr) (ctv pm:Value) (H1:Hp) (s1:Shared),Inv X pins σ H1 s1->s1.heap.get? f=some (PySem.W.kla_obj "<lambda>" (X.env.qual ++ "<lambda>") params body sc (closeL X.env sc.names []) pm c' ctv)->H1 f=none ->
   H1 c'=some (codeO (X.env.qual ++ "<lambda>") c')->Grown P H H1->Tbl H1 P (X.env.qual ++ "<lambda>")->Q (.ref f) s1):
 wpAny (model X.prog X.w) X.A (eval (.Lambda params body sc pos) X.env) Q E s:=by
 obtain⟨ps,hP,ht,hcs⟩:=hT
 have hPo:s.heap.get? P=some (PySem.W.tabObj ps):=I.hok P _ hP
 have hcl:=closureFor_eq hfree
 have hg:s.heap.Ns mainGlobals X.mg:=I.mod.glob.keeps I.bk
 have hgP:mainGlobals≠P:=fun z=>by
  obtain⟨o,es,ep,e,d,_⟩:=hg
  rw [z,hPo] at e
  cases e
  cases d
 obtain⟨bm,ob,b1,b2,b3,b4,b5,b6,b7⟩:=hB
 have hbP:bm≠P:=fun z=>by
  have:=(I.bs bm ob b4).2
  rw [z,hP] at this
  cases this
 have hBA:s.heap.BuiltinsAt X.mg P:=⟨bm,ob,b1,b2,b3,hbP,I.bk _ _ b4,b5,b6,b7⟩
 have hCd:=PySem.W.codeHd_of_K I.kIn hC
 refine PySem.W.kla_eval hdef ?_
 cases e:codeAmong pos ps.toList with
 | some cv=>
  obtain⟨c',rfl,hc'⟩:=hcs pos cv e
  refine PySem.W.kla_makeFunctionHit (mg:=X.mg) hcl I.ok.glob hg hcode hCd hPo ht e hBA fun ctv h' tk hk hsz=>?_
  have I1:Inv X pins σ H { s with heap:=h'.push { cls:=.type "function",data:=.func (PySem.W.kla_fn "<lambda>" (X.env.qual ++ "<lambda>") params body sc (closeL X.env sc.names []) ((X.mg "__name__").getD .none) (.ref c') ctv) },toks:=tk }:=
   I.kept fun b u q=>Heap.get?_push_of_some _ (hk b u q)
  exact k h'.objs.size c' ctv _ H _ I1 (Heap.get?_push_size _ rfl) (I.hok.fresh hsz) hc' (fun _ _ _ q=>q) ⟨ps,hP,ht,hcs⟩
 | none=>
  refine PySem.W.kla_makeFunction (mg:=X.mg) hcl I.ok.glob hg hcode hCd hPo ht e hgP hBA fun c' ctv h' tk hx hge hlt hrec htb=>?_
  have fr:H c'=none:=I.hok.fresh hge
  have nP:c'≠P:=fun z=>by rw [z,hP] at fr;cases fr
  have kp:∀b o,b≠P->s.heap.get? b=some o->(h'.push (PySem.W.kla_obj "<lambda>" (X.env.qual ++ "<lambda>") params body sc (closeL X.env sc.names []) ((X.mg "__name__").getD .none) c' ctv)).get? b=some o:=fun b o hb q=>Heap.get?_push_of_some _ (hx b o hb q)
  have notP:∀b,H b=none->b≠P:=fun b q z=>by rw [z,hP] at q;cases q
  have lt:∀b o,s.heap.get? b=some o->b≠c':=fun b o q=>Nat.ne_of_lt (Nat.lt_of_lt_of_le (Heap.lt_size q) hge)
  have trk:∀b o,H b=some o->b≠c':=fun b o q z=>by rw [z,fr] at q;cases q
  have I1:Inv X pins σ (upd (upd H P (.tbl (ps ++ #[rawInt pos.line,rawInt pos.col,.ref c']))) c' (codeO (X.env.qual ++ "<lambda>") c'))
   { s with heap:=h'.push (PySem.W.kla_obj "<lambda>" (X.env.qual ++ "<lambda>") params body sc (closeL X.env sc.names []) ((X.mg "__name__").getD .none) c' ctv),gens:=s.gens,drawn:=s.drawn,toks:=tk }:=by
   refine I.step (ch:=[]) (fun b z=>absurd z (by simp)) (fun b o _ _ _ q n=>kp b o (notP b n) q) (fun b o _ _ _ q n=>⟨o.slots,kp b o (notP b n) q⟩) (fun b o _ q n=>?_) (fun b o _ q=>?_) (fun b xs q=>?_) (fun b o u q=>?_) (fun b qs q=>?_) (fun m hm=>?_) (fun b u q=>?_) I.bare
   ·rw [upd_ne (lt b o q),upd_ne (notP b n)];exact n
   ·by_cases z:b=P
    ·rw [z];exact⟨_,Heap.get?_push_of_some _ htb⟩
    ·exact⟨o,kp b o z q⟩
   ·rw [upd_ne (trk b _ q),upd_ne (fun z=>by rw [z,hP] at q;cases q)];exact q
   ·rw [upd_ne (trk b _ q),upd_ne (fun z=>by rw [z,hP] at q;cases q)];exact q
   ·rw [upd_ne (trk b _ q)]
    by_cases z:b=P
    ·subst z
     rw [hP] at q
     cases q
     exact⟨_,upd_same⟩
    ·rw [upd_ne z];exact⟨#[],by rw [q];simp⟩
   ·obtain⟨o,es,ep,q,r⟩:=hm
    exact⟨o,es,ep,kp _ o (notP _ I.free) q,r⟩
   ·by_cases z:b=c'
    ·subst z
     rw [upd_same] at q
     cases q
     obtain⟨c0,oc,vs,tq,e1,e2,e3,e4⟩:=hrec
     cases e1
     refine⟨⟨b,oc,vs,tq,rfl,Heap.get?_push_of_some _ e2,e3,e4⟩,⟨oc,Heap.get?_push_of_some _ e2⟩,fun h1 h2 ⟨c0,oc',vs',tq',f1,f2,f3,f4⟩ kk=>?_⟩
     cases f1
     exact⟨b,oc',vs',tq',rfl,kk _ f2,f3,f4⟩
    ·rw [upd_ne z] at q
     by_cases z2:b=P
     ·subst z2
      rw [upd_same] at q
      cases q
      exact Heap.get?_push_of_some _ htb
     ·rw [upd_ne z2] at q
      refine (I.hok b u q).stay (fun d v hd r=>kp d v (fun y=>?_) r) (fun d r=>?_) fun d xs r=>?_
      ·rcases hd with hd | hd
       ·rw [hd] at y;exact z2 y
       ·rw [y,hP] at hd;cases hd
      ·rw [upd_ne (trk d _ r),upd_ne (fun y=>by rw [y,hP] at r;cases r)];exact r
      ·rw [upd_ne (trk d _ r),upd_ne (fun y=>by rw [y,hP] at r;cases r)];exact r
  have f0:H h'.objs.size=none:=I.hok.fresh (Nat.le_trans hge (Nat.le_of_lt hlt))
  refine k h'.objs.size c' ctv _ _ _ I1 (Heap.get?_push_size _ rfl) ?_ upd_same (fun b o nb q=>?_) ⟨_,by rw [upd_ne (Ne.symm nP),upd_same],?_,fun pos' cv h=>?_⟩
  ·rw [upd_ne (Nat.ne_of_gt hlt),upd_ne (notP _ f0)];exact f0
  ·rw [upd_ne (trk b _ q),upd_ne nb];exact q
  ·rw [Array.toList_append]
   exact triples_snoc _ ht
  ·rw [Array.toList_append] at h
   rcases among_snoc _ ht h with h | h
   ·obtain⟨c2,e1,e2⟩:=hcs pos' cv h
    refine⟨c2,e1,?_⟩
    rw [upd_ne (trk c2 _ e2),upd_ne (fun y=>by rw [y,hP] at e2;cases e2)]
    exact e2
   ·exact⟨c',h,upd_same⟩
end
def lamOk (sc outer:Scope):Bool:=(sc.kind == .function) && !sc.isCoroutine && !sc.isGenerator&&sc.names.all (fun p=>p.2 != NameKind.cell&&p.2 != NameKind.local) &&
 sc.names.all (fun p=>p.2 != NameKind.free||(outer.names.lookup p.1==some NameKind.cell||outer.names.lookup p.1==some NameKind.free))
structure LamOk (sc outer:Scope):Prop where
 kind:sc.kind = .function
 co:sc.isCoroutine=false
 gen:sc.isGenerator=false
 nocell:∀p∈sc.names,p.2≠NameKind.cell
 noloc:∀p∈sc.names,p.2≠NameKind.local
 free:∀p∈sc.names,p.2=NameKind.free->outer.names.lookup p.1=some NameKind.cell\/outer.names.lookup p.1=some NameKind.free
theorem LamOk.of {sc outer:Scope}(h:lamOk sc outer=true):LamOk sc outer:=by
 unfold lamOk at h
 simp only [Bool.and_eq_true,List.all_eq_true] at h
 obtain⟨⟨⟨⟨h1,h2⟩,h3⟩,h4⟩,h5⟩:=h
 refine⟨eq_of_beq h1,by simpa using h2,by simpa using h3,fun p hp=>by simpa using (h4 p hp).1,fun p hp=>by simpa using (h4 p hp).2,fun p hp e=>?_⟩
 have:=h5 p hp
 rw [e] at this
 simpa using this
abbrev lamEnv (X:Cx)(qual:Str)(sc:Scope)(f c':Addr)(s:Shared):Env:=PySem.W.envX qual sc s.heap.objs.size f (.ref c') (closeL X.env sc.names [])
def lamCx (X:Cx)(qual:Str)(sc:Scope)(f c':Addr)(A:Around)(outer:List Env)(s:Shared)(H:Hp)(E:XK):Cx where
 prog:=X.prog
 w:=X.w
 K:=X.K
 mg:=X.mg
 base:=X.base
 A:=A.deeper (lamEnv X qual sc f c' s)
 N:=X.N
 s₀:=s
 H₀:=H
 env:=lamEnv X qual sc f c' s
 outer:=outer
 stack:=lamEnv X qual sc f c' s::outer
 ex:=[]
 fn:=fun _=>false
 calm:=true
 pn:=[]
 xe:=fun e s'=>wpAny (model X.prog X.w) (A.deeper (lamEnv X qual sc f c' s)) (leaving (lamEnv X qual sc f c' s) e) (fun _ s''=>CXF X.prog X.w outer H s E e s'') (fun e' s''=>CXF X.prog X.w outer H s E e' s'') s'
def DeedAt (P:Program)(w:World)(K:PySem.W.Frag)(mg:Str->Option Value)(base:Heap)(k:Nat)(f:Addr)(h0:Heap)(H:Hp)(pre:VK->XK->Prop):Prop:=
 ∀(A:Around) (outer:List Env) (s:Shared) (Q:VK) (E:XK),Room k A->Env0 P w K mg base A outer s H->(∀b o,h0.get? b=some o->H b=none->∃sl,s.heap.get? b=some { o with slots:=sl })->pre Q E ->
  codeAny (model P w) A (.call (.ref f) ⟨[],[]⟩) (CR (CXF P w) outer P w H s Q E) s
section
variable {X:Cx}{pins:List (Addr×Obj)}{σ:St}{H:Hp}{s:Shared}
theorem lam_deed {k:Nat}{f c':Addr}{ctv pm:Value}{qual:Str}{params:Arguments}{body:Expr}{sc:Scope}{tb:XK->TE}(I:Inv X pins σ H s)(ok:LamOk sc X.env.scope)
 (hf:s.heap.get? f=some (PySem.W.kla_obj "<lambda>" qual params body sc (closeL X.env sc.names []) pm c' ctv)) (hH:H f=none) (hc:H c'=some (codeO qual c'))
 (hbind:bindArgs (PySem.W.kla_fn "<lambda>" qual params body sc (closeL X.env sc.names []) pm (.ref c') ctv) ⟨[],[]⟩=pure [])
 (hb:∀(A:Around) (outer:List Env) (s':Shared) (E:XK),Room k (A.deeper (PySem.W.envX qual sc s'.heap.objs.size f (.ref c') (closeL X.env sc.names [])))->PE (lamCx X qual sc f c' A outer s' H E) body (tb E)):
 DeedAt X.prog X.w X.K X.mg X.base (k+1) f s.heap H (fun Q E=>tb E σ H Q):=by
 intro A outer s' Q E hr e0 kp hq
 obtain⟨sl,hf'⟩:=kp f _ hf hH
 have hrec:s'.heap.CodeRec (.ref c') qual:=(e0.hok c' _ hc).1
 have lim:s'.heap.NoLimit:=e0.mod.nolimit.keeps fun b o e=>(e0.bs b o e).1
 refine PySem.W.kla_callFunE hr.depth hf' rfl ok.co ok.gen rfl hrec ?_
 rw [hbind]
 refine wpAny_pure (wpAny_newFunctionEnv ok.nocell (fun x hx=>absurd hx (by simp)) (fun h1 hns hsb=>?_) ok.kind)
 have hk1:∀b o,s'.heap.get? b=some o->h1.get? b=some o:=fun b o e=>hsb.extBut b o (Nat.ne_of_lt (Heap.lt_size e)) (Heap.get?_push_of_some _ e)
 have sub:∀x c,(closeL X.env sc.names []).lookup x=some c->X.env.cells.lookup x=some c:=fun x c e=>by
  rcases closeL_sub X.env sc.names [] x c e with z | z
  ·simp at z
  ·exact z
 have cel:∀c v,H c=none->s.heap.IsCell c v->h1.IsCell c v:=fun c v n x=>by
  refine isCell_slots x fun o e=>?_
  obtain⟨sl,e'⟩:=kp c o e n
  exact⟨sl,hk1 _ _ e'⟩
 have fr:∀x,(sc.names.lookup x=some .local\/sc.names.lookup x=some .cell\/sc.names.lookup x=some .free)->sc.names.lookup x=some .free:=fun x h=>by
  rcases h with h | h | h
  ·exact absurd rfl (ok.noloc _ (PySem.mem_of_lookup h))
  ·exact absurd rfl (ok.nocell _ (PySem.mem_of_lookup h))
  ·exact h
 have J:Inv (lamCx X qual sc f c' A outer s' H E) [] σ H { s' with heap:=h1,toks:=s'.toks+([]:List (Str×Value)).length }:=by
  refine⟨⟨e0.mod,ok.kind,rfl,rfl,Nat.le_refl _,fun x y c h1 h2=>I.ok.inj x y c (sub x c h1) (sub y c h2),fun x hx=>?_,fun x c h=>(by cases h),fun _=>hr.hd,Around.frames_deeper e0.frames,.inr ⟨rfl,rfl⟩,fun b z=>absurd (show b∈([]:List Addr) from z) (by simp),e0.bs,e0.bsz,
   fun b o _ z=>absurd (show b∈([]:List Addr) from z) (by simp),fun b z=>absurd (show b∈([]:List Addr) from z) (by simp),e0.funs,e0.frf⟩,rfl,e0.bare,Un.kept hk1,⟨_,hns,fun i x v h1 h2 vis=>?_⟩,fun x c h=>?_,e0.hok.fresh (Nat.le_refl _),fun x c h=>I.freeC x c (sub x c h),
   fun p hp=>absurd (show p∈([]:List (Addr×Obj)) from hp) (by simp),e0.hok.kept hk1,I.len⟩
  ·have hx:sc.names.lookup x=some .cell\/sc.names.lookup x=some .free:=hx
   have hx:=fr x (.inr hx)
   have hm:=PySem.mem_of_lookup hx
   exact closeL_has X.env sc.names [] x hm (I.ok.has x (ok.free _ hm rfl))
  ·have hx:=fr x vis
   have hm:=PySem.mem_of_lookup hx
   have ho:=ok.free _ hm rfl
   obtain⟨m,_,hl⟩:=I.loc
   obtain⟨u,rv,lk⟩:=hl i x v h1 h2 (by rcases ho with z | z;exact .inr (.inl z);exact .inr (.inr z))
   refine⟨u,rv,.inr ⟨.inr hx,?_⟩⟩
   rcases lk with⟨z,_⟩|⟨_,c,hc1,hc2⟩
   ·have z:X.env.scope.names.lookup x=some .local:=z
    rcases ho with y | y<;>rw [z] at y<;>cases y
   ·obtain⟨c2,hc3⟩:=closeL_has X.env sc.names [] x hm ⟨c,hc1⟩
    have:=sub x c2 hc3
    rw [hc1] at this
    cases this
    exact⟨c,hc3,cel c _ (I.freeC x c hc1) hc2⟩
  ·have h':=sub x c h
   obtain⟨v,hv⟩:=I.cell x c h'
   exact⟨v,cel c v (I.freeC x c h') hv⟩
 refine⟨lim.keeps hk1,PySem.W.kla_codeExpr ?_⟩
 refine wpAny_mono (hb A outer s' E (hr.deeper _) [] _ σ H Q J hq) (fun v s2 hs=>?_) fun _ _ x=>x
 obtain⟨v',H',J',rv,q⟩:=hs
 exact⟨v',H',J'.os,J'.bare,J'.base,J'.hok,rv,q⟩
end
end L2
namespace L2
open PySem
section
variable {prog:Program}{w:World}{A:Around}{E:Value->Shared->Prop}{s:Shared}
end
end L2
namespace L2
open PySem PySem.W
section
variable {prog:Program}{w:World}{A:Around}{E:Value->Shared->Prop}{s:Shared}{K:Frag}{x C:Addr}{ox:Obj}{odo:Option Obj}
theorem findObj_exc {name:Str}{a g:Value}(hc:(clsIn K C).isSome=true)(ha:findIn K (.ref C) name=some (some a))(hg:specialIn K a "__get__" = some (some g))(ht:takesIn K a=some true):findObj K C odo name=some (.bind g a):=by
 obtain⟨cd,hc⟩:=Option.isSome_iff_exists.mp hc
 unfold findObj
 rw [hc,Option.bind_some,ha,Option.bind_some]
 simp [hg,ht]
theorem exc_class {Q:Option Value->Shared->Prop}(X:K.In s.heap)(I:InstAt s.heap x ox C odo)(hga:findIn K (.ref C) "__getattribute__" = some (some (.builtin "BaseException.__getattribute__")))(hgh:findIn K (.ref C) "__getattr__" = some none)
 (hf:findObj K C odo "__class__" = some (.bind (.builtin "getset_descriptor.__get__") (.builtin "object.__class__"))) (hm:mroIn K C (.type "object")=some true) (hb:mroIn K C (.type "BaseException")=some true)
 (h:Q (some (.ref C)) { s with toks:=s.toks+1 }):wpAny (model prog w) A (getAttr? (.ref x) "__class__") Q E s:=by
 obtain⟨hh,g,d,t,os⟩:=s
 have T0:=I.type (M:=model prog w)
 have T1:=looks_findIn (M:=model prog w) X hga
 have T2:Looks (model prog w) hh (hookBefore (.ref C)) none:=looks_hook X hgh
 have T3:=looks_find (M:=model prog w) X I hf
 have T4:=looks_mroIn (M:=model prog w) X hb
 have f3:=PySem.F.attrBase_ValueError.ga.bind (.ref x)
 unfold getAttr? getAttrBy? getAttrBy
 refine wpAny_bind (wpAny_mkText (wpAny_bind (wpAny_attempt (wpAny_holding (wpAny_bind (T0.at (wpAny_bind (T1.at ?_))))))))
 dsimp only
 rw [if_neg (by simp)]
 unfold getAttrByItsOwn
 refine wpAny_bind (T2.at (wpAny_bind (wpAny_attempt (wpAny_holding ?_))))
 unfold callGetattribute
 rw [if_neg (by simp)]
 unfold boundAndCalled
 rw [f3]
 refine wpAny_bind (wpAny_pure ?_)
 dsimp only
 have hk:builtinKind "BaseException.__getattribute__" = some .slot:=by decide +kernel
 have hsp:splitId "BaseException.__getattribute__" = some ("BaseException","__getattribute__"):=by decide +kernel
 have hargs:=PySem.F.args_bexc_ga (.ref x) (.str (Str.ofString "__class__") t)
 refine wpAny_call (codeAny_call_builtin PySem.F.attrBase_ValueError.ga.plain PySem.F.entry_bexc_ga ?_)
 simp only [checkBuiltinCall,hk,hsp]
 refine wpAny_bind ?_
 unfold isInstance
 refine wpAny_bind (T0.at (T4.at ?_))
 rw [if_neg (by simp)]
 unfold argsOk at hargs
 refine wpAny_of_eq hargs ?_
 unfold Builtin.«object.__getattribute__»
 refine wpAny_bind (wpAny_pure ?_)
 refine wpAny_bind (wpAny_pure ?_)
 refine wpAny_bind (T0.at (wpAny_bind (T3.at ?_)))
 dsimp only
 show wpAny _ _ (do ret (<-holding [Value.builtin "object.__class__"] (call (Value.builtin "getset_descriptor.__get__") [Value.builtin "object.__class__",Value.ref x,Value.ref C]))) _ _ _
 refine wpAny_bind (wpAny_holding (wpAny_call (class_get (ox:=ox) (od:=odo) X I hm ?_)))
 exact wpAny_pure (handed_on rfl (wpAny_pure h))
structure ExcIs (K:Frag)(C:Addr):Prop where
 ga:findIn K (.ref C) "__getattribute__" = some (some (.builtin "BaseException.__getattribute__"))
 gh:findIn K (.ref C) "__getattr__" = some none
 ca:findIn K (.ref C) "__class__" = some (some (.builtin "object.__class__"))
 gn:specialIn K (.builtin "object.__class__") "__get__" = some (some (.builtin "getset_descriptor.__get__"))
 tk:takesIn K (.builtin "object.__class__")=some true
 ob:mroIn K C (.type "object")=some true
 be:mroIn K C (.type "BaseException")=some true
 cl:(clsIn K C).isSome=true
end
end L2
namespace L2
open PySem PySem.Spec PyProof.Rows
section
variable {X:Cx}{pins:List (Addr×Obj)}{σ:St}{H:Hp}{s:Shared}
theorem Inv.trackN {a:Addr}{o:HO}(I:Inv X pins σ H s)(hn:H a=none)(h0:X.s₀.heap.get? a=none)(hL:X.env.locals≠a)(hc:∀x c,X.env.cells.lookup x=some c->c≠a)(hp:∀p∈X.pn++pins,p.1≠a)(new:ObjOk X.prog X.w (upd H a o) s.heap a o):
 Inv X pins σ (upd H a o) s:=by
 refine⟨I.ok,I.os,I.bare,⟨I.base.keep,I.base.slot,fun b ob e n x=>?_,I.base.there,fun b xs e=>?_,fun b ob u e=>?_,fun b ps e=>?_⟩,I.loc,I.cell,?_,fun y c e=>?_,fun p q=>?_,I.hok.track hn new,I.len⟩
 ·rw [upd_ne (fun z=>by rw [z,h0] at e;cases e)]
  exact I.base.free b ob e n x
 ·rw [upd_ne (ne_of_none (I.base.tups b xs e) hn)];exact I.base.tups b xs e
 ·rw [upd_ne (ne_of_none (I.base.frzs b ob u e) hn)];exact I.base.frzs b ob u e
 ·obtain⟨mr,q⟩:=I.base.tbls b ps e
  exact⟨mr,by rw [upd_ne (ne_of_none q hn)];exact q⟩
 ·rw [upd_ne hL];exact I.free
 ·rw [upd_ne (hc y c e)];exact I.freeC y c e
 ·obtain⟨e,n,ne,nf,d⟩:=I.pin p q
  exact⟨e,by rw [upd_ne (hp p q)];exact n,ne,nf,d⟩
abbrev Cx.marked (X:Cx)(A2:Around):Cx:={ X with A:=A2,calm:=false,xe:=fun _ _=>False }
theorem Inv.marked {A2:Around}(I:Inv X pins σ H s)(hf:A2.frames=X.A.frames):Inv (X.marked A2) pins σ H s:=
 ⟨⟨I.ok.mod,I.ok.kind,I.ok.glob,I.ok.blt,I.ok.above,I.ok.inj,I.ok.has,I.ok.cab,fun z=>(by cases z),hf.trans I.ok.frames,I.ok.stk,I.ok.exf,I.ok.bs,I.ok.bsz,I.ok.noex,I.ok.exfs,I.ok.funs,I.ok.frf⟩,I.os,I.bare,I.base,I.loc,I.cell,I.free,I.freeC,I.pin,I.hok,I.len⟩
theorem Inv.unmarked {A2:Around}(I:Inv (X.marked A2) pins σ H s)(ok:X.Ok):Inv X pins σ H s:=⟨ok,I.os,I.bare,I.base,I.loc,I.cell,I.free,I.freeC,I.pin,I.hok,I.len⟩
end
theorem kitx_exc {K:PySem.W.Frag}{x C:Addr}{ox:Obj}{odo:Option Obj}(Z:ExcIs K C):PySem.W.KitX K (.ref x) (.ref C) (fun h=>PySem.W.InstAt h x ox C odo) where
 ty:=fun _ _ _ I=>I.type
 it:=fun _ _ X _=>by
  obtain⟨cd,hc⟩:=Option.isSome_iff_exists.mp Z.cl
  unfold PySem.W.clsIn at hc
  split at hc
  ·rename_i ho
   intro A' Q' E' s' k q
   unfold isType loadHead
   exact wpAny_bind (wpAny_loadPart (k _ _ (X _ _ ho)) (wpAny_pure q))
  ·cases hc
 ne:=fun h tp dd its n sl X htp=>by
  obtain⟨cd,hc⟩:=Option.isSome_iff_exists.mp Z.cl
  refine Bool.eq_false_iff.mpr fun q=>?_
  have e:C=tp:=Value.ref.inj (beq_iff_eq.mp q)
  subst e
  unfold PySem.W.clsIn at hc
  split at hc
  ·rename_i ho
   have z:=(X _ _ ho).symm.trans htp
   cases z
  ·cases hc
 ca:=fun X I k=>exc_class X I Z.ga Z.gh (findObj_exc Z.cl Z.ca Z.gn Z.tk) Z.ob Z.be k
def excH (o:Obj):HO:=.frz o (.ext fun _=>True)
structure ExcObj (o:Obj)(C:Addr):Prop where
 cls:o.cls = .ref C
 data:∃vs,o.data = .fields vs/\vs[2]?=some .none
def XdAt (H:Hp)(o:Obj):Prop:=∀D,o.dict=some D->∃u,H D=some u
theorem ExcObj.inst {o:Obj}{C:Addr}(x:ExcObj o C){h:Heap}{a:Addr}(e:h.get? a=some o)(hd:∀D,o.dict=some D->∃od,h.get? D=some od):∃odo,PySem.W.InstAt h a o C odo:=by
 obtain⟨vs,d,_⟩:=x.data
 have nc:PySem.W.notCls o=true:=by unfold PySem.W.notCls;rw [d]
 cases z:o.dict with
 | none=>exact⟨none,e,x.cls,nc,by rw [z];trivial⟩
 | some D=>
  obtain⟨od,h1⟩:=hd D z
  exact⟨some od,e,x.cls,nc,by rw [z];exact h1⟩
section
variable {X:Cx}
def rIsiE (K:PySem.W.Frag):List V->Hp->VK->Prop:=fun xs H Q=>∃(a:Addr) (o:Obj) (C:Addr) (c:V) (cv:Value) (b:Bool),xs=[.ref a,c]/\H a=some (excH o)/\ExcObj o C/\XdAt H o/\ExcIs K C/\(∀u,RelV c u->u=cv)/\PySem.W.kitOne K (.ref C) cv=some b/\Q (.bl b) H
theorem call_isiE:CallR X (.builtin "isinstance") (rIsiE X.K):=by
 intro pins s σ H xs us Q I r h
 obtain⟨a,o,C,c,cv,b,rfl,ha,eo,xd,z,uc,e,q⟩:=h
 obtain⟨u,v,rfl,ru,rv⟩:=vals2 r
 cases uc v rv
 cases ru
 have h1:s.heap.get? a=some o:=(I.hok a _ ha).1
 obtain⟨odo,hi⟩:=eo.inst h1 fun D hD=>by
  obtain⟨u,hu⟩:=xd D hD
  exact (I.hok D u hu).there
 exact PySem.W.kia_one (kitx_exc (ox:=o) (odo:=odo) z) I.kIn hi e (fun y=>nomatch y) fun tk=>⟨.bl b,H,I.tok tk,rfl,q⟩
end
def lcOkN (sc outer:Scope)(xs M:List Str):Bool:=
 (sc.kind == .function)&&sc.names.all (fun p=>p.2 != NameKind.cell)&&xs.all (fun x=>sc.names.lookup x==some NameKind.local)&&sc.names.all (fun p=>p.2 != NameKind.local||sc.names.lookup p.1==some NameKind.local) &&
 sc.names.all (fun p=>p.2 != NameKind.free||(outer.names.lookup p.1==some NameKind.cell||outer.names.lookup p.1==some NameKind.free))&&M.all (fun y=>sc.names.lookup y != some NameKind.local)
structure LcOkN (sc outer:Scope)(xs M:List Str):Prop where
 kind:sc.kind = .function
 nocell:∀p∈sc.names,p.2≠NameKind.cell
 var:∀x∈xs,sc.names.lookup x=some NameKind.local
 locs:∀p∈sc.names,p.2=NameKind.local->sc.names.lookup p.1=some NameKind.local
 free:∀p∈sc.names,p.2=NameKind.free->outer.names.lookup p.1=some NameKind.cell\/outer.names.lookup p.1=some NameKind.free
 out:∀y∈M,sc.names.lookup y≠some NameKind.local
theorem LcOkN.of {sc outer:Scope}{xs M:List Str}(h:lcOkN sc outer xs M=true):LcOkN sc outer xs M:=by
 unfold lcOkN at h
 simp only [Bool.and_eq_true,List.all_eq_true] at h
 obtain⟨⟨⟨⟨⟨h1,h2⟩,h3⟩,h4⟩,h5⟩,h6⟩:=h
 refine⟨eq_of_beq h1,fun p hp=>by simpa using h2 p hp,fun x hx=>eq_of_beq (h3 x hx),fun p hp e=>?_,fun p hp e=>?_,fun y hy=>by simpa using h6 y hy⟩
 ·have:=h4 p hp
  rw [e] at this
  simpa using this
 ·have:=h5 p hp
  rw [e] at this
  simpa using this
def blkN (X:Cx)(sc:Scope)(xs M:List Str)(C:Addr)(s:Shared)(H:Hp)(fp:List Addr):Cx:=
 { X with env:=compEnvC sc (closeL X.env sc.names []) C X.env,N:=xs++M,s₀:=s,H₀:=H,outer:=X.stack,ex:=fp,fn:=fun _=>false,pn:=[],xe:=fun _ _=>False }
section
variable {X:Cx}{pins:List (Addr×Obj)}{σ:St}{H:Hp}{s:Shared}{sc:Scope}{xs M:List Str}{C:Addr}{fp:List Addr}
theorem blkN_ok (I:Inv X pins σ H s)(ok:LcOkN sc X.env.scope xs M)(hC:s.heap.objs.size<=C)(hf:∀b∈fp,FpOk X pins H b)(hl:∀b∈fp,b<s.heap.objs.size):(blkN X sc xs M C s H fp).Ok where
 mod:=I.ok.mod
 kind:=ok.kind
 glob:=I.ok.glob
 blt:=I.ok.blt
 above:=hC
 inj:=fun a b c h1 h2=>by
  rcases closeL_sub _ _ _ _ _ h1 with h1 | h1
  ·cases h1
  rcases closeL_sub _ _ _ _ _ h2 with h2 | h2
  ·cases h2
  exact I.ok.inj a b c h1 h2
 has:=fun y hy=>by
  have hm:(y,NameKind.free)∈sc.names:=by
   rcases hy with hy | hy
   ·exact mem_of_lookup_relabel ok.nocell hy (.inl rfl)
   ·exact mem_of_lookup_relabel ok.nocell hy (.inr rfl)
  exact closeL_has X.env sc.names [] y hm (I.ok.has y (ok.free _ hm rfl))
 cab:=fun y c h=>by cases h
 hd:=I.ok.hd
 frames:=I.ok.frames
 stk:=.inl rfl
 exf:=fun b hb=>⟨Nat.ne_of_lt (Nat.lt_of_lt_of_le (hl b hb) hC),fun y c h=>by
  rcases closeL_sub _ _ _ _ _ h with h | h
  ·cases h
  ·exact (hf b hb).2.2.2.2.1 y c h⟩
 bs:=I.bs
 bsz:=Nat.le_trans I.ok.bsz I.sz
 noex:=fun b o e hb=>by
  rcases (hf b hb).2.2.2.1 with z | z
  ·exact I.ok.noex b o e z
  ·exact absurd (Nat.lt_of_lt_of_le (Heap.lt_size e) (Nat.le_trans I.ok.bsz z)) (Nat.lt_irrefl _)
 exfs:=fun b hb hb2=>by
  rcases List.mem_cons.mp (I.stkSub b hb2) with z | z
  ·exact (hf b hb).2.1 z
  ·exact (hf b hb).2.2.1 z
 funs:=I.stack
 frf:=I.stkFree
theorem blkN_inv {s1:Shared}{m:Str->Option Value}(I:Inv X pins σ H s)(ok:LcOkN sc X.env.scope xs M)(hM:∀(j:Nat) (y:Str),M[j]?=some y->(∃p∈sc.names,p.1=y)->X.N[j]?=some y)(hlen:M.length=X.N.length)(hC:s.heap.objs.size<=C)(hf:∀b∈fp,FpOk X pins H b)(hl:∀b∈fp,b<s.heap.objs.size)
 (hk:∀b o,s.heap.get? b=some o->s1.heap.get? b=some o) (hns:s1.heap.Ns C m) (hos:s1.os=s.os) (hg:s1.gens=s.gens):Inv (blkN X sc xs M C s H fp) [] (List.replicate xs.length none++σ) H s1 where
 ok:=blkN_ok I ok hC hf hl
 os:=hos
 bare:=by rw [hg];exact I.bare
 base:=Un.kept hk
 loc:=⟨m,hns,fun i y v h1 h2 h3=>by
  rcases Nat.lt_or_ge i xs.length with hi | hi
  ·rw [List.getElem?_append_left (by simpa using hi),List.getElem?_replicate,if_pos hi] at h2
   cases h2
  ·obtain⟨j,rfl⟩:∃j,i=xs.length+j:=⟨i-xs.length,by omega⟩
   have h1:M[j]?=some y:=by
    have h1:(xs++M)[xs.length+j]?=some y:=h1
    rwa [List.getElem?_append_right (by omega),Nat.add_sub_cancel_left] at h1
   have h2:σ[j]?=some (some v):=by
    rwa [List.getElem?_append_right (by simp),List.length_replicate,Nat.add_sub_cancel_left] at h2
   have hm:(y,NameKind.free)∈sc.names:=by
    rcases h3 with h3 | h3 | h3
    ·exact absurd (lookup_relabel_back h3) (ok.out y (List.mem_of_getElem? h1))
    ·exact mem_of_lookup_relabel ok.nocell h3 (.inl rfl)
    ·exact mem_of_lookup_relabel ok.nocell h3 (.inr rfl)
   obtain⟨m0,hn0,hl0⟩:=I.loc
   have ko:=ok.free _ hm rfl
   obtain⟨u,r,lk⟩:=hl0 j y v (hM j y h1 ⟨_,hm,rfl⟩) h2 (.inr ko)
   refine⟨u,r,.inr ⟨?_,?_⟩⟩
   ·rcases h3 with h3 | h3 | h3
    ·exact absurd (lookup_relabel_back h3) (ok.out y (List.mem_of_getElem? h1))
    ·exact .inl h3
    ·exact .inr h3
   ·rcases lk with⟨k,_⟩|⟨_,c,hc,z⟩
    ·have k:X.env.scope.names.lookup y=some .local:=k
     rcases ko with q | q
     ·rw [q] at k;cases k
     ·rw [q] at k;cases k
    ·obtain⟨c',hc'⟩:=closeL_has X.env sc.names [] y hm ⟨c,hc⟩
     have e:c'=c:=by
      rcases closeL_sub _ _ _ _ _ hc' with q | q
      ·cases q
      ·rw [hc] at q;exact (Option.some.inj q).symm
     exact⟨c,e ▸ hc',z.keeps hk⟩⟩
 cell:=fun y c h=>by
  rcases closeL_sub _ _ _ _ _ h with h | h
  ·cases h
  ·obtain⟨v,z⟩:=I.cell y c h
   exact⟨v,z.keeps hk⟩
 free:=I.hok.fresh hC
 freeC:=fun y c h=>by
  rcases closeL_sub _ _ _ _ _ h with h | h
  ·cases h
  ·exact I.freeC y c h
 pin:=fun p hp=>absurd (show p∈([]:List (Addr×Obj)) from hp) (by simp)
 hok:=I.hok.kept hk
 len:=by
  show (List.replicate xs.length none++σ).length=(xs++M).length
  rw [List.length_append,List.length_append,List.length_replicate,hlen,I.len]
end
def Ts (H H':Hp):Prop:=∀b xs,H b=some (.tup xs)->H' b=some (.tup xs)
theorem Ts.refl (H:Hp):Ts H H:=fun _ _ h=>h
def gath:HO->Prop
 | .lst _ | .dK _ | .dT _=>True
 | _=>False
theorem ObjOk.gath {P:Program}{w:World}{H H':Hp}{h h':Heap}{a:Addr}{o:HO}(x:ObjOk P w H h a o)(g:gath o)(k:∀u,h.get? a=some u->h'.get? a=some u)(ht:Ts H H'):ObjOk P w H' h' a o:=by
 cases o with
 | lst xs=>obtain⟨z,its,n,r,e⟩:=x;exact⟨z,its,n,r,k _ e⟩
 | dK kvs=>obtain⟨z,y,vs,r,ob,es,ep,e,c⟩:=x;exact⟨z,y,vs,r,ob,es,ep,k _ e,c⟩
 | dT kvs=>
  obtain⟨z,y,xs,r,ob,es,ep,e,c⟩:=x
  exact⟨z,y,xs,Paired.mapP r fun p q z=>⟨z.1,ht _ _ z.2.1,z.2.2⟩,ob,es,ep,k _ e,c⟩
 | _=>exact g.elim
structure AccAt (X:Cx)(pins:List (Addr×Obj))(D:Addr)(o:HO)(H:Hp)(s:Shared):Prop where
 fp:FpOk X pins H D
 young:X.s₀.heap.objs.size<=D
 ok:ObjOk X.prog X.w H s.heap D o
 kind:gath o
theorem AccAt.obj {X:Cx}{pins:List (Addr×Obj)}{D:Addr}{o:HO}{H:Hp}{s:Shared}(A:AccAt X pins D o H s):∃ob,s.heap.get? D=some ob/\∀v,ob.data ≠ .cell v:=by
 have x:=A.ok
 have g:=A.kind
 cases o with
 | lst xs=>obtain⟨_,_,_,_,e⟩:=x;exact⟨_,e,fun v z=>nomatch z⟩
 | dK kvs=>obtain⟨_,_,_,_,ob,_,_,e,_,d,_⟩:=x;exact⟨_,e,fun v z=>by rw [d] at z;cases z⟩
 | dT kvs=>obtain⟨_,_,_,_,ob,_,_,e,_,d,_⟩:=x;exact⟨_,e,fun v z=>by rw [d] at z;cases z⟩
 | _=>exact g.elim
section
variable {X:Cx}{pins:List (Addr×Obj)}{D:Addr}{o:HO}{H H':Hp}{s s':Shared}{σ σ':St}
theorem AccAt.pin (A:AccAt X pins D o H s)(I:Inv X pins σ H s){ob:Obj}(e:s.heap.get? D=some ob)(d:∀v,ob.data ≠ .cell v):Inv X (pins++[(D,ob)]) σ H s:=
 I.pins_of fun p hp=>(List.mem_append.mp hp).elim (fun z=>I.pin p (List.mem_append_right _ z)) fun z=>by
  rw [List.mem_singleton.mp z]
  exact⟨e,A.fp.1,A.fp.2.1,A.fp.2.2.1,d⟩
theorem FpOk.to {b:Addr}(f:FpOk X pins H b)(n:H' b=none):FpOk X pins H' b:=⟨n,f.2⟩
theorem AccAt.back {ob:Obj}{pl:List (Addr×Obj)}(A:AccAt X pins D o H s)(e:s.heap.get? D=some ob)(I:Inv X pl σ' H' s')(hp:(D,ob)∈pl)(ts:Ts H H'):AccAt X pins D o H' s':=by
 obtain⟨e1,n1,_⟩:=I.pin (D,ob) (List.mem_append_right _ hp)
 exact⟨A.fp.to n1,A.young,A.ok.gath A.kind (fun u h=>by rw [e] at h;cases h;exact e1) ts,A.kind⟩
theorem AccAt.more {pl:List (Addr×Obj)}(A:AccAt X pins D o H s)(h:∀p∈pl,p.1≠D):AccAt X (pins++pl) D o H s:=
 ⟨⟨A.fp.1,A.fp.2.1,A.fp.2.2.1,A.fp.2.2.2.1,A.fp.2.2.2.2.1,fun p hp=>by
  rw [<-List.append_assoc] at hp
  rcases List.mem_append.mp hp with z | z
  ·exact A.fp.2.2.2.2.2 p z
  ·exact h p z⟩,A.young,A.ok,A.kind⟩
theorem AccAt.less {pl:List (Addr×Obj)}(A:AccAt X (pins++pl) D o H s):AccAt X pins D o H s:=
 ⟨⟨A.fp.1,A.fp.2.1,A.fp.2.2.1,A.fp.2.2.2.1,A.fp.2.2.2.2.1,fun p hp=>A.fp.2.2.2.2.2 p (by rw [<-List.append_assoc];exact List.mem_append_left _ hp)⟩,A.young,A.ok,A.kind⟩
end
abbrev TB (α:Type):=α->St->Hp->(α->St->Hp->Prop)->Prop
def PB {α:Type}(X:Cx)(D:Addr)(ob:α->HO)(m:Sem Unit)(t:TB α):Prop:=
 ∀(pins:List (Addr×Obj)) (s:Shared) (σ:St) (H:Hp) (a:α) (Q:α->St->Hp->Prop),Inv X pins σ H s->AccAt X pins D (ob a) H s->t a σ H Q ->
  wpAny (model X.prog X.w) X.A m (fun _ s'=>∃a' σ' H',Inv X pins σ' H' s'/\AccAt X pins D (ob a') H' s'/\Q a' σ' H') X.xe s
section
variable {X:Cx}{D:Addr}
def bList (te:TE):TB (List V):=fun ys σ H Q=>te σ H fun y H'=>ys.length<sizeLine/\Ts H H'/\Q (ys++[y]) σ H'
theorem pb_list {elt:Expr}{te:TE}(he:PE X elt te):PB X D HO.lst (eval elt X.env >>= fun x=>call (.builtin "list.append") [.ref D,x] >>= fun _=>pure ()) (bList te):=by
 intro pins s σ H ys Q I A h
 obtain⟨ob,e,d⟩:=A.obj
 refine wpAny_bind (thn (he _ s σ H _ (A.pin I e d) h) fun u s1 ⟨y,H1,I1,r1,hz,ts,q⟩=>?_)
 have A1:=A.back e I1 (List.mem_append_right _ (List.mem_singleton.mpr rfl)) ts
 obtain⟨hl,its,n,rv,e1⟩:=A1.ok
 have I1':=I1.unpinned
 refine wpAny_bind (append_at e1 (fun h' hs' hD'=>wpAny_pure ⟨ys++[y],σ,H1,?_,?_,q⟩) (by rw [List.size_toArray,<-rv.length];exact hl))
 ·exact I1'.turned (t':=s1.toks) (it:=D) (fun b o hb e=>(hs'.2 b hb).trans e) A1.fp.1 A1.fp.2.1 A1.fp.2.2.2.1 A1.fp.2.2.2.2.1 A1.fp.2.2.2.2.2
 ·exact⟨A1.fp,A1.young,⟨by rw [List.length_append,List.length_singleton];omega,its++[u],n+1,rv.append (.cons r1 .nil),by rw [hD'];simp⟩,trivial⟩
def bDict (tk tv:TE):TB (List (List Key×V)):=fun kvs σ H Q=>tk σ H fun y H1=>tv σ H1 fun v H2=>∃b k,y = .ref b/\H2 b=some (.tup (k.map kV))/\kvs.length<sizeLine/\Ts H H2/\Q (putK kvs k v) σ H2
theorem pb_dict {kx vx:Expr}{tk tv:TE}{pos:Pos}(hu:X.A.units+1<cLine)(hk:PE X kx tk)(hv:PE X vx tv):PB X D HO.dT (eval kx X.env >>= fun kv=>holding [kv] (eval vx X.env) >>= fun vv=>standAt pos >>= fun _=>holding [kv,vv] (dictSet D kv vv)) (bDict tk tv):=by
 intro pins s σ H kvs Q I A h
 obtain⟨ob,e,d⟩:=A.obj
 refine wpAny_bind (thn (hk _ s σ H _ (A.pin I e d) h) fun u s1 ⟨y,H1,I1,r1,h1⟩=>?_)
 refine wpAny_bind (wpAny_holding (thn (hv _ s1 σ H1 _ I1 h1) fun u2 s2 ⟨v,H2,I2,r2,b,k,ey,eb,hz,ts,q⟩=>?_))
 subst ey
 cases (show u=Value.ref b from r1)
 have A2:=A.back e I2 (List.mem_append_right _ (List.mem_singleton.mpr rfl)) ts
 have I2':=I2.unpinned
 obtain⟨hl,hd,xs,rel,o,es,ep,g1,g2,g3,g4,g5⟩:=A2.ok
 have dd:s2.heap.DictOfH (tupleKind (mixKind X.prog X.w)) D xs:=by
  refine⟨o,es,ep,g1,g2,g3,g4,fun x hx=>?_,g5⟩
  have all:∀{l:List (List Key×V)} {m:List (List Key×Addr×Value)},KT H2 l m->∀x∈m,(tupleKind (mixKind X.prog X.w)).is s2.heap x.1 x.2.1:=by
   intro l m q
   induction q with
   | nil=>intro x hx;exact nomatch hx
   | @cons p q ps qs hq t ih=>
    intro x hx
    rcases List.mem_cons.mp hx with e | hx
    ·subst e
     exact key_of I2.hok (by rw [<-hq.1];exact hq.2.1)
    ·exact ih x hx
  exact all rel x hx
 have hxz:xs.length<=sizeLine:=by rw [<-Paired.length rel];exact hl
 have hpl:(putK kvs k v).length<=sizeLine:=by have:=length_putK kvs k v;omega
 refine wpAny_bind (wpAny_standAt (wpAny_holding (wpAny_dictSet_heap (show X.A.units<cLine from Nat.lt_of_succ_lt hu) (key_of I2.hok eb) dd (fun h' dd' hs=>?_) hxz)))
 refine⟨putK kvs k v,σ,H2,?_,?_,q⟩
 ·exact I2'.turned (t':=s2.toks+(tupleKind (mixKind X.prog X.w)).draws k) (it:=D) (fun b o hb e=>(hs.2 b hb).trans e) A2.fp.1 A2.fp.2.1 A2.fp.2.2.2.1 A2.fp.2.2.2.2.1 A2.fp.2.2.2.2.2
 ·obtain⟨o',es',ep',k1,k2,k3,k4,_,k5⟩:=dd'
  exact⟨A2.fp,A2.young,⟨hpl,hd,_,KT.put rel k eb r2,o',es',ep',k1,k2,k3,k4,k5⟩,trivial⟩
end
def CpW {α:Type}(J:It)(gt:TG)(tt:TT)(tb:TB α)(R:α->St->Hp->Prop)(a:α)(σ:St)(H:Hp):Prop:=
 ∃W:Nat->Nat->α->St->Hp->Prop,(∃m,W 0 m a σ H)/\∀i m a σ H,W i m a σ H ->
  (J.stop i H/\R a σ H)\/(J.go i H/\∃N:α->St->Hp->Prop,(∀a' σ' H',N a' σ' H'->∃m',m'<m/\W (i+1) m' a' σ' H') /\
    ∀x H',J.yld i H x H'->Ts H H'/\gt x σ H' fun σ2 H2=>Ts H H2/\tt σ2 H2 fun b H3=>Ts H H3/\if b=true then tb a σ2 H3 N else N a σ2 H3)
def LoopEq (X:Cx)(e:Expr)(d:Nat)(it D:Addr)(tg:Expr)(ifs:List Expr)(inn:Sem Unit):Prop:=∀(I:Nat->Shared->Prop) (R:Result->Shared->Prop),
 (∀n s,I n s->wpAny (model X.prog X.w) X.A (pyNext (.ref it)) (fun r s₁=>match r with
   | none=>R (.ok .next) s₁
   | some v=>wpAny (model X.prog X.w) X.A (letOwnedTupleGo tg (.ref it) v) (fun _ s₂=>wpAny (model X.prog X.w) X.A (assign tg X.env v) (fun _ s₃=>
    wpAny (model X.prog X.w) X.A (forIn ifs true fun c r=>if r=true then do let ok <-isTrue c X.env (eval c X.env);pure (ForInStep.yield ok) else pure (ForInStep.yield r)) (fun ok s₄=>
     if ok=true then wpAny (model X.prog X.w) X.A inn (fun _ s₅=>∃m,m<n/\I m s₅) (fun _ _=>False) s₄ else ∃m,m<n/\I m s₄) (fun _ _=>False) s₃) (fun _ _=>False) s₂) (fun _ _=>False) s₁) (fun _ _=>False) s) ->
 ∀n s,I n s->codeAny (model X.prog X.w) X.A (.compLoop e d (.ref it) (.ref D) X.env) R s
section
variable {X:Cx}{D:Addr}{α:Type}{ob:α->HO}{inn:Sem Unit}{tb:TB α}{gt:TG}{tt:TT}{J:It}{fp:List Addr}{it:Addr}{tn:Nat->Heap->Prop}{tg e:Expr}{d:Nat}{ifs:List Expr}{pins:List (Addr×Obj)}{s:Shared}{σ:St}{H:Hp}{a:α}{R:α->St->Hp->Prop}{q:Cx->Prop}
theorem comp_loop (hx:X.xe=fun _ _=>False)(L:LoopEq X e d it D tg ifs inn)(T:TurnQ q X.prog X.w X.K tg J fp it tn)(hq:q X)(hD:D∉fp)(hG:PG X tg gt)(ht:PF X ifs tt)(hb:PB X D ob inn tb)
 (I:Inv X pins σ H s) (A:AccAt X pins D (ob a) H s) (st:tn 0 s.heap) (hf:∀b∈fp,FpOk X pins H b) (h:CpW J gt tt tb R a σ H):
 codeAny (model X.prog X.w) X.A (.compLoop e d (.ref it) (.ref D) X.env) (fun r s'=>r = .ok .next/\∃a' σ' H',Inv X pins σ' H' s'/\AccAt X pins D (ob a') H' s'/\R a' σ' H') s:=by
 obtain⟨W,⟨m0,w0⟩,turn⟩:=h
 refine L (fun n s'=>∃i a' σ' H',Inv X pins σ' H' s'/\AccAt X pins D (ob a') H' s'/\tn i s'.heap/\(∀b∈fp,H' b=none)/\W i n a' σ' H') _ ?_ m0 s ⟨0,a,σ,H,I,A,st,fun b hb=>(hf b hb).1,w0⟩
 rintro n s3 ⟨i,a3,σ3,H3,I3,A3,st3,fr3,w3⟩
 obtain⟨o3,e3,d3⟩:=A3.obj
 have I3':=A3.pin I3 e3 d3
 have stat:∀{H':Hp},(∀b∈fp,H' b=none)->∀b∈fp,FpOk X (pins++[(D,o3)]) H' b:=fun hn b hb=>by
  obtain⟨_,f1,f2,f3,f4,f5⟩:=hf b hb
  refine⟨hn b hb,f1,f2,f3,f4,fun p hp=>?_⟩
  rw [<-List.append_assoc] at hp
  rcases List.mem_append.mp hp with z | z
  ·exact f5 p z
  ·rw [List.mem_singleton.mp z];intro y;subst y;exact hD hb
 rcases turn i n a3 σ3 H3 w3 with⟨stop,qn⟩|⟨go,N,hN,step⟩
 ·refine thn (T.done X rfl rfl rfl hq i _ s3 σ3 H3 _ I3' (stat fr3) st3 stop) fun r s4 ⟨hr,I4⟩=>?_
  subst hr
  exact⟨rfl,a3,σ3,H3,I4.unpinned,A3.back e3 I4 (List.mem_append_right _ (List.mem_singleton.mpr rfl)) (Ts.refl _),qn⟩
 ·refine thn (T.item X rfl rfl rfl hq i _ s3 σ3 H3 _ I3' (stat fr3) st3 go) fun r s4 ⟨u,hr,h4⟩=>?_
  subst hr
  refine thn h4 fun _ s5 ⟨x,H5,I5,r5,y5,st5,fr5⟩=>?_
  obtain⟨ts5,step⟩:=step x H5 y5
  have I5':=I5.pinned (stat fr5) (T.obj _ _ st5)
  have mD:∀{l:List (Addr×Obj)},(D,o3)∈(pins++[(D,o3)])++l:=fun {l}=>List.mem_append_left _ (List.mem_append_right _ (List.mem_singleton.mpr rfl))
  have hg:=hG _ s5 σ3 H5 x u _ I5' r5 step
  rw [hx] at hg
  refine thn hg fun _ s6 ⟨σ6,H6,I6,ts6,q6⟩=>?_
  have hte:=ht _ s6 σ6 H6 _ I6 q6
  rw [hx] at hte
  refine thn hte fun b s7 ⟨H7,I7,ts7,q7⟩=>?_
  have back:∀{pl:List (Addr×Obj)} {σ8:St} {H8:Hp} {s8:Shared},Inv X pl σ8 H8 s8->(∀p∈pinsAt fp s5.heap,p∈pl)->tn (i+1) s8.heap/\∀b∈fp,H8 b=none:=fun {pl σ8 H8 s8} I8 hs=>by
   refine⟨T.keep _ _ _ st5 fun b hb o e=>(I8.pin (b,o) (List.mem_append_right _ (hs _ (mem_pinsAt hb e)))).1,fun b hb=>?_⟩
   obtain⟨o,e,d⟩:=T.obj _ _ st5 b hb
   exact (I8.pin (b,o) (List.mem_append_right _ (hs _ (mem_pinsAt hb e)))).2.1
  have A7:=A3.back e3 I7 mD ts7
  cases b with
  | false=>
   simp only [Bool.false_eq_true,if_false] at q7 ⊢
   obtain⟨m',hm,w7⟩:=hN _ _ _ q7
   obtain⟨b1,b2⟩:=back I7 fun p hp=>List.mem_append_right _ hp
   exact⟨m',hm,i+1,a3,σ6,H7,I7.unpinned.unpinned,A7,b1,b2,w7⟩
  | true=>
   simp only [if_true] at q7 ⊢
   have I7':Inv X (pins++pinsAt fp s5.heap) σ6 H7 s7:=I7.pins_of fun p hp=>I7.pin p (List.mem_append_right _ (by
    rcases List.mem_append.mp hp with z | z
    ·exact List.mem_append_left _ (List.mem_append_left _ z)
    ·exact List.mem_append_right _ z))
   have hbb:=hb _ s7 σ6 H7 a3 _ I7' (A7.more fun p hp z=>hD (by rw [<-z];exact (of_pinsAt hp).1)) q7
   rw [hx] at hbb
   refine thn hbb fun _ s8 ⟨a8,σ8,H8,I8,A8,q8⟩=>?_
   obtain⟨m',hm,w8⟩:=hN _ _ _ q8
   obtain⟨b1,b2⟩:=back I8 fun p hp=>List.mem_append_right _ hp
   exact⟨m',hm,i+1,a8,σ8,H8,I8.unpinned,A8.less,b1,b2,w8⟩
end
def turnF (p:Pos)(it:Value)(tg:Expr)(env:Env)(ifs:List Expr)(inn:Sem Unit)(c:Code):Sem Fin:=standAt p >>= fun _=>pyNext it >>= fun r=>match r with
 | none=>pure (.done .next)
 | some v=>letOwnedTupleGo tg it v >>= fun _=>assign tg env v >>= fun _=>
  (forIn ifs true fun c r=>if r=true then do let ok <-isTrue c env (eval c env);pure (ForInStep.yield ok) else pure (ForInStep.yield r)) >>= fun ok=>if ok=true then inn >>= fun _=>again c else again c
def innL (elt:Expr)(D:Addr)(env:Env):Sem Unit:=eval elt env >>= fun x=>call (.builtin "list.append") [.ref D,x] >>= fun _=>pure ()
def innD (kx vx:Expr)(D:Addr)(env:Env):Sem Unit:=eval kx env >>= fun kv=>holding [kv] (eval vx env) >>= fun vv=>standAt { kx.pos with endLine:=vx.pos.endLine,endCol:=vx.pos.endCol } >>= fun _=>holding [kv,vv] (dictSet D kv vv)
section
variable {elt kx vx tg tg1 iter iter1:Expr}{ifs ifs1:List Expr}{sc:Scope}{pos:Pos}{it:Value}{D:Addr}{env:Env}
theorem turn_l:compTurn (.ListComp elt [⟨tg,iter,ifs,0⟩] sc pos) 0 it (.ref D) env=turnF iter.pos it tg env ifs (innL elt D env) (.compLoop (.ListComp elt [⟨tg,iter,ifs,0⟩] sc pos) 0 it (.ref D) env):=rfl
theorem turn_d:compTurn (.DictComp kx vx [⟨tg,iter,ifs,0⟩] sc pos) 0 it (.ref D) env=turnF iter.pos it tg env ifs (innD kx vx D env) (.compLoop (.DictComp kx vx [⟨tg,iter,ifs,0⟩] sc pos) 0 it (.ref D) env):=rfl
end
section
variable {X:Cx}{it D:Addr}{e tg:Expr}{d:Nat}{ifs:List Expr}{inn:Sem Unit}{p:Pos}
theorem loop_of (hq:(Code.compLoop e d (.ref it) (.ref D) X.env).quiet=true)(hd:(model X.prog X.w).den (.compLoop e d (.ref it) (.ref D) X.env)=(compTurn e d (.ref it) (.ref D) X.env).onRaise (fun x=>do noteFrame x X.env;theTreesLotGoes x))
 (ha:X.A.under (.compLoop e d (.ref it) (.ref D) X.env)=X.A) (ht:compTurn e d (.ref it) (.ref D) X.env=turnF p (.ref it) tg X.env ifs inn (.compLoop e d (.ref it) (.ref D) X.env)):LoopEq X e d it D tg ifs inn:=by
 intro I R turn n s h
 refine codeAny_loop hq I (fun n s hI=>?_) n h
 rw [hd,ha,ht]
 refine wpAny_noted ?_
 unfold turnF
 refine wpAny_bind (wpAny_standAt (wpAny_bind (wpAny_mono (turn n s hI) (fun r s₁ h₁=>?_) fun _ _ h'=>h'.elim)))
 cases r with
 | none=>exact wpAny_pure h₁
 | some v=>
  refine wpAny_bind (wpAny_mono h₁ (fun _ s₂ h₂=>wpAny_bind (wpAny_mono h₂ (fun _ s₃ h₃=>wpAny_bind (wpAny_mono h₃ (fun ok s₄ h₄=>?_) fun _ _ h'=>h'.elim)) fun _ _ h'=>h'.elim)) fun _ _ h'=>h'.elim)
  cases ok with
  | false=>exact wpAny_pure ⟨rfl,h₄⟩
  | true=>exact wpAny_bind (wpAny_mono h₄ (fun _ s₅ h₅=>wpAny_pure ⟨rfl,h₅⟩) fun _ _ h'=>h'.elim)
end
section
variable {X:Cx}{elt kx vx tg tg1 iter iter1:Expr}{ifs ifs1:List Expr}{sc:Scope}{pos:Pos}{it D:Addr}
theorem loop_l:LoopEq X (.ListComp elt [⟨tg,iter,ifs,0⟩] sc pos) 0 it D tg ifs (innL elt D X.env):=loop_of rfl rfl rfl turn_l
theorem loop_d:LoopEq X (.DictComp kx vx [⟨tg,iter,ifs,0⟩] sc pos) 0 it D tg ifs (innD kx vx D X.env):=loop_of rfl rfl rfl turn_d
end
def StartEq (prog:Program)(w:World)(e:Expr)(d:Nat):Prop:=∀(A:Around) (it acc:Value) (env:Env) (R:Result->Shared->Prop) (s:Shared),
 codeAny (model prog w) A (.compLoop e d it acc env) R s->wpAny (model prog w) A (pyIter it) (fun it' s'=>codeAny (model prog w) A (.compLoop e d it' acc env) R s') (fun _ _=>False) s->codeAny (model prog w) A (.compStart e d it acc env) R s
section
variable {prog:Program}{w:World}{elt kx vx tg tg1 iter iter1:Expr}{ifs ifs1:List Expr}{sc:Scope}{pos:Pos}
theorem start_of {e:Expr}{d:Nat}{p:Pos} (hd:∀it acc env,(model prog w).den (.compStart e d it acc env)=(ask >>= fun t=>if t.params.followText "comprehension-iter-twice" = true then again (.compLoop e d it acc env) else
 rule "comprehension.iter-twice" >>= fun _=>standAt p >>= fun _=>pyIter it >>= fun it'=>again (.compLoop e d it' acc env)).onRaise (fun x=>do noteFrame x env;standAt theWindowsPlace)) (hu:∀A it acc env,Around.under A (.compStart e d it acc env)=A):StartEq prog w e d:=by
 intro A it acc env R s h0 h
 refine codeAny_of_tree ?_
 rw [hu]
 rw [hd]
 refine wpAny_notedAt ?_
 refine wpAny_bind (wpAny_askSetting (wpAny_ite ?_))
 split
 ·exact wpAny_pure (And.intro rfl h0)
 ·exact wpAny_bind (wpAny_rule (wpAny_bind (wpAny_standAt (wpAny_bind (wpAny_mono h (fun it' s' h'=>wpAny_pure (And.intro rfl h')) fun _ _ x=>x.elim)))))
theorem start_l:StartEq prog w (.ListComp elt [⟨tg,iter,ifs,0⟩] sc pos) 0:=start_of (p:=iter.pos) (fun _ _ _=>rfl) fun _ _ _ _=>rfl
theorem start_d:StartEq prog w (.DictComp kx vx [⟨tg,iter,ifs,0⟩] sc pos) 0:=start_of (p:=iter.pos) (fun _ _ _=>rfl) fun _ _ _ _=>rfl
end
section
variable {X:Cx}{pins:List (Addr×Obj)}{σ:St}{H:Hp}{s:Shared}{sc:Scope}{xs M:List Str}{fp:List Addr}{J:It}{it:Addr}{tn:Nat->Heap->Prop}{e tg:Expr}{ifs:List Expr}{gt:TG}{tt:TT}{α:Type}{ob:α->HO}{tb:TB α}{a0:α}{R:α->Hp->Prop}{inn:Addr->Env->Sem Unit}{mk:Sem Value}{o0:Obj}
theorem comp_block {E:Value->Shared->Prop}{RR:Value->Addr->Result->Shared->Prop}(I:Inv X pins σ H s)(ok:LcOkN sc X.env.scope xs M)(hM:∀(j:Nat) (y:Str),M[j]?=some y->(∃p∈sc.names,p.1=y)->X.N[j]?=some y)(hlen:M.length=X.N.length){q:Cx->Prop}(hq:∀C,q (blkN X sc xs M C s H fp))
 (hmk:∀(Q:Value->Shared->Prop) (E:Value->Shared->Prop) (s:Shared),Q (.ref s.heap.objs.size) { s with heap:=s.heap.push o0 }->wpAny (model X.prog X.w) X.A mk Q E s) (hf0:o0.isFreed=false) (hk:∀a,gath (ob a)) (h0:∀(h:Heap) (D:Addr),h.get? D=some o0->sysModules<D->ObjOk X.prog X.w H h D (ob a0))
 (S:StartEq X.prog X.w e 0) (L:∀C D,LoopEq (blkN X sc xs M C s H fp) e 0 it D tg ifs (inn D (blkN X sc xs M C s H fp).env))
 (T:TurnQ q X.prog X.w X.K tg J fp it tn) (st:tn 0 s.heap) (hf:∀b∈fp,FpOk X pins H b)
 (hG:∀C,PG (blkN X sc xs M C s H fp) tg gt) (ht:∀C,PF (blkN X sc xs M C s H fp) ifs tt) (hb:∀C D,PB (blkN X sc xs M C s H fp) D ob (inn D (blkN X sc xs M C s H fp).env) tb)
 (h:CpW J gt tt tb (fun a _ H=>R a H) a0 (List.replicate xs.length none++σ) H)
 (hRR:∀D C a H' s' m,R a H'->H' D=none->Inv X pins σ (upd H' D (ob a)) s'->FpOk X pins (upd H' D (ob a)) C->s'.heap.Ns C m->RR (.ref D) C (.ok .next) s'):
 wpAny (model X.prog X.w) X.A mk (fun acc s₃=>wpAny (model X.prog X.w) X.A (newFunctionEnv sc X.env.globals (closeL X.env sc.names []) [] X.env.qual none .none (some X.env)) (fun cenv s₄=>
  codeAny (model X.prog X.w) X.A (.compStart e 0 (.ref it) acc { cenv with scope:=relabel sc X.env }) (RR acc cenv.locals) s₄) E s₃) E s:=by
 refine hmk _ _ _ (wpAny_newFunctionEnv ok.nocell (by intro y hy;simp at hy) (fun h₁ hns₁ hsb₁=>?_) ok.kind)
 dsimp only at hns₁ hsb₁ ⊢
 generalize hH2:s.heap.push o0=H2 at hns₁ hsb₁ ⊢
 have hC:H2.objs.size=s.heap.objs.size+1:=by rw [<-hH2,Heap.size_push]
 have hDC:s.heap.objs.size≠H2.objs.size:=by rw [hC];exact Nat.ne_of_lt (Nat.lt_succ_self _)
 have hCle:s.heap.objs.size<=H2.objs.size:=by rw [hC];exact Nat.le_succ _
 have hl:∀b∈fp,b<s.heap.objs.size:=fun b hb=>by
  obtain⟨o,e,_⟩:=T.obj 0 _ st b hb
  exact Heap.lt_size e
 have old:∀b o,s.heap.get? b=some o->h₁.get? b=some o:=fun b o e=>
  (hsb₁.2 b (by rw [hC];exact Nat.ne_of_lt (Nat.lt_succ_of_lt (Heap.lt_size e)))).trans (Heap.get?_push_of_some _ (hH2 ▸ Heap.get?_push_of_some _ e))
 have hacc:h₁.get? s.heap.objs.size=some o0:=(hsb₁.2 _ hDC).trans (Heap.get?_push_of_some _ (hH2 ▸ Heap.get?_push_size _ hf0))
 have I0:Inv (blkN X sc xs M H2.objs.size s H fp) [] (List.replicate xs.length none++σ) H { s with heap:=h₁,toks:=s.toks+([]:List (Str×Value)).length }:=blkN_inv I ok hM hlen hCle hf hl old hns₁ rfl rfl
 have fsF:∀{b:Addr},b≠X.env.locals->b∉X.fs->b∉frs X.stack:=fun {b} h1 h2 z=>by
  rcases List.mem_cons.mp (I.stkSub b z) with q | q
  ·exact h1 q
  ·exact h2 q
 have cne:∀y c,(closeL X.env sc.names []).lookup y=some c->c<s.heap.objs.size:=fun y c e=>by
  rcases closeL_sub _ _ _ _ _ e with q | q
  ·cases q
  ·obtain⟨v,z⟩:=I.cell y c q
   exact z.lt
 have f0:=I.fpOk (b:=s.heap.objs.size) (H':=H) (Nat.le_refl _) (I.hok.fresh (Nat.le_refl _))
 have A0:AccAt (blkN X sc xs M H2.objs.size s H fp) [] s.heap.objs.size (ob a0) H { s with heap:=h₁,toks:=s.toks+([]:List (Str×Value)).length }:=
  ⟨⟨f0.1,hDC,fsF f0.2.1 f0.2.2.1,.inr (Nat.le_refl _),fun y c e z=>absurd (cne y c e) (by rw [z];exact Nat.lt_irrefl _),fun p hp=>absurd (show p∈([]:List (Addr×Obj)) from hp) (by simp)⟩,Nat.le_refl _,h0 _ _ hacc I.big,hk _⟩
 have hD:s.heap.objs.size∉fp:=fun z=>absurd (hl _ z) (Nat.lt_irrefl _)
 have fB:∀b∈fp,FpOk (blkN X sc xs M H2.objs.size s H fp) [] H b:=fun b hb=>
  ⟨(hf b hb).1,Nat.ne_of_lt (Nat.lt_of_lt_of_le (hl b hb) hCle),fsF (hf b hb).2.1 (hf b hb).2.2.1,.inl hb,((blkN_ok I ok hCle hf hl).exf b hb).2,fun p hp=>absurd (show p∈([]:List (Addr×Obj)) from hp) (by simp)⟩
 have loop:∀s₃:Shared,s₃={ s with heap:=h₁,toks:=s.toks+([]:List (Str×Value)).length } ->
  codeAny (model X.prog X.w) X.A (.compLoop e 0 (.ref it) (.ref s.heap.objs.size) (compEnvC sc (closeL X.env sc.names []) H2.objs.size X.env)) (RR (.ref s.heap.objs.size) H2.objs.size) s₃:=by
  rintro s₃ rfl
  refine codeAny_mono (comp_loop (X:=blkN X sc xs M H2.objs.size s H fp) rfl (L _ _) T (hq _) hD (hG _) (ht _) (hb _ _) I0 A0 (T.keep 0 _ _ st fun b hb o e=>old b o e) fB h) fun r s4 hr=>?_
  obtain⟨rfl,a,σ',H',I4,A4,q⟩:=hr
  have I5:Inv X pins σ H' s4:=I.call' (ch:=fp) I4.os I4.base I4.hok I4.bare fun b hb=>⟨(hf b hb).2.2.2.1,(hf b hb).2.1,(hf b hb).2.2.2.2.1,(hf b hb).2.2.2.2.2⟩
  obtain⟨m,hn,_⟩:=I4.loc
  have nD:H' s.heap.objs.size=none:=A4.fp.1
  have tsD:Ts H' (upd H' s.heap.objs.size (ob a)):=fun b xs e=>by rw [upd_ne (ne_of_none e nD)];exact e
  have I6:Inv X pins σ (upd H' s.heap.objs.size (ob a)) s4:=I5.track (I.fpOk (Nat.le_refl _) nD) I.sz (A4.ok.gath A4.kind (fun _ e=>e) tsD)
  refine hRR _ _ a H' s4 m q nD I6 (I.fpOk hCle ?_) hn
  rw [upd_ne (Ne.symm hDC)]
  exact I4.free
 exact S X.A (.ref it) _ _ _ _ (loop _ rfl) (T.self X.A 0 _ _ _ (T.keep 0 _ _ st fun b hb o e=>old b o e) (loop _ rfl))
end
structure Mks (P:Program)(w:World)(α:Type)(ob:α->HO)(a0:α)(mk:Sem Value):Prop where
 kind:∀a,gath (ob a)
 made:∃o0:Obj,o0.isFreed=false/\(∀(A:Around) (Q:Value->Shared->Prop) (E:Value->Shared->Prop) (s:Shared),Q (.ref s.heap.objs.size) { s with heap:=s.heap.push o0 }->wpAny (model P w) A mk Q E s) /\
  ∀(H:Hp) (h:Heap) (D:Addr),h.get? D=some o0->sysModules<D->ObjOk P w H h D (ob a0)
theorem mk_list {P:Program}{w:World}:Mks P w (List V) HO.lst [] (newList []) where
 kind:=fun _=>trivial
 made:=⟨_,rfl,fun A Q E s h=>wpAny_newObj_type h,fun H h D e _=>⟨Nat.zero_le _,[],0,.nil,e⟩⟩
theorem mk_dict {P:Program}{w:World}:Mks P w (List (List Key×V)) HO.dT [] newDict where
 kind:=fun _=>trivial
 made:=⟨_,rfl,fun A Q E s h=>wpAny_newObj_type h,fun H h D e z=>⟨Nat.zero_le _,by simpa using Nat.ne_of_gt z,[],.nil,_,#[],0,e,⟨rfl,rfl,rfl⟩,rfl,rfl,List.nodup_nil⟩⟩
structure Cpr (X:Cx)(e:Expr)(sc:Scope)(tg iter:Expr)(ifs:List Expr)(mk:Sem Value)(inn:Addr->Env->Sem Unit):Prop where
 cl:∃gs,clausesOf e=⟨tg,iter,ifs,0⟩::gs
 ev:∃p,eval e X.env=comprehension e sc X.env p mk false (eval iter X.env)
 start:∀(P:Program) (w:World),StartEq P w e 0
 loop:∀(X:Cx) it D,LoopEq X e 0 it D tg ifs (inn D X.env)
section
variable {X:Cx}{elt kx vx tg tg1 iter iter1:Expr}{ifs ifs1:List Expr}{sc:Scope}{pos:Pos}
theorem cpr_l:Cpr X (.ListComp elt [⟨tg,iter,ifs,0⟩] sc pos) sc tg iter ifs (newList []) (innL elt):=⟨⟨_,rfl⟩,⟨_,rfl⟩,fun _ _=>start_l,fun _ _ _=>loop_l⟩
theorem cpr_d:Cpr X (.DictComp kx vx [⟨tg,iter,ifs,0⟩] sc pos) sc tg iter ifs newDict (innD kx vx):=⟨⟨_,rfl⟩,⟨_,rfl⟩,fun _ _=>start_d,fun _ _ _=>loop_d⟩
end
def tCp {α:Type}(wi:TI)(gt:TG)(tt:TT)(tb:TB α)(ob:α->HO)(a0:α)(n:Nat):TE:=fun σ H Q=>wi σ H fun J H1=>CpW J gt tt tb (fun a _ H2=>∀D,H2 D=none->Q (.ref D) (upd H2 D (ob a))) a0 (List.replicate n none++σ) H1
section
variable {X:Cx}{e tg iter:Expr}{ifs:List Expr}{sc:Scope}{pos:Pos}{mk:Sem Value}{inn:Addr->Env->Sem Unit}{xs M:List Str}{wi:TI}{gt:TG}{tt:TT}{α:Type}{tb:TB α}{ob:α->HO}{a0:α}
theorem closN_of {pins:List (Addr×Obj)}{σ:St}{H:Hp}{s:Shared}(I:Inv X pins σ H s)(ok:LcOkN sc X.env.scope xs M):closureFor sc X.env=pure (closeL X.env sc.names []):=
 closureFor_eq fun p hp e=>I.ok.has p.1 (ok.free p hp e)
theorem pe_comp (hc:X.calm=true)(c:Cpr X e sc tg iter ifs mk inn)(hmk:Mks X.prog X.w α ob a0 mk)(ok:lcOkN sc X.env.scope xs M=true)(hM:∀(j:Nat) (y:Str),M[j]?=some y->(∃p∈sc.names,p.1=y)->X.N[j]?=some y)(hlen:M.length=X.N.length)
 (hi:PI X tg iter wi) (hG:∀C s H fp,PG (blkN X sc xs M C s H fp) tg gt) (ht:∀C s H fp,PF (blkN X sc xs M C s H fp) ifs tt) (hb:∀C s H fp D,PB (blkN X sc xs M C s H fp) D ob (inn D (blkN X sc xs M C s H fp).env) tb)
 (hs:∀x,foldedSetIterable iter X.env x=pure x):PE X e (tCp wi gt tt tb ob a0 xs.length):=by
 intro pins s σ H Q I h
 have ok:=LcOkN.of ok
 obtain⟨gs,hcl⟩:=c.cl
 obtain⟨p,ev⟩:=c.ev
 obtain⟨o0,hf0,hm,h0⟩:=hmk.made
 rw [ev]
 refine wpAny_comprehension_free (use:=none) hcl hs (closN_of I ok) ok.kind ok.locs (thn (hi pins s σ H _ I h) fun v s1 h1=>thn h1 fun itv s2 h2=>?_)
 obtain⟨it,fp,tn,J,H2,rfl,I2,T,st2,f2,lw⟩:=h2
 refine comp_block (RR:=fun acc C=>compPost (model X.prog X.w) X.A X.xe none (EP X pins σ Q) acc C) I2 ok hM hlen (fun _=>hc) (fun Q E s=>hm X.A Q E s) hf0 hmk.kind (fun h D=>h0 _ h D) (c.start _ _) (fun C D=>c.loop _ it D) T.q st2 f2 (fun C=>hG _ _ _ _) (fun C=>ht _ _ _ _) (fun C D=>hb _ _ _ _ _) lw ?_
 intro D C a H' s' m q hD I' fC hn
 exact⟨m,hn,fun h' hs'=>⟨.ref D,_,I'.turned (t':=s'.toks) (it:=C) (fun b o hb e=>(hs'.2 b hb).trans e) fC.1 fC.2.1 fC.2.2.2.1 fC.2.2.2.2.1 fC.2.2.2.2.2,rfl,q D hD⟩⟩
theorem ps_comp {y:Str}{py spos:Pos}{i:Nat}(hc:X.calm=true)(hN:X.N.Nodup)(hiy:X.N[i]?=some y)(hy:X.env.scope.names.lookup y=some .local)
 (hsw:exec (.Assign [.Name y py] e spos) X.env=(standAt spos >>= fun _=>(do let _ <-comprehension e sc X.env pos mk false (eval iter X.env) (some (assign (.Name y py) X.env))) >>= fun _=>pure .next))
 (c:Cpr X e sc tg iter ifs mk inn) (hmk:Mks X.prog X.w α ob a0 mk) (ok:lcOkN sc X.env.scope xs M=true) (hM:∀(j:Nat) (y:Str),M[j]?=some y->(∃p∈sc.names,p.1=y)->X.N[j]?=some y) (hlen:M.length=X.N.length)
 (hi:PI X tg iter wi) (hG:∀C s H fp,PG (blkN X sc xs M C s H fp) tg gt) (ht:∀C s H fp,PF (blkN X sc xs M C s H fp) ifs tt) (hb:∀C s H fp D,PB (blkN X sc xs M C s H fp) D ob (inn D (blkN X sc xs M C s H fp).env) tb)
 (hs:∀x,foldedSetIterable iter X.env x=pure x):PS X (.Assign [.Name y py] e spos) (tLcSet i (tCp wi gt tt tb ob a0 xs.length)):=by
 intro pins s σ H D I h
 have ok:=LcOkN.of ok
 obtain⟨gs,hcl⟩:=c.cl
 obtain⟨o0,hf0,hm,h0⟩:=hmk.made
 rw [hsw]
 refine wpAny_bind (wpAny_standAt (wpAny_bind (wpAny_bind (wpAny_mono (wpAny_comprehension_free (use:=some (assign (.Name y py) X.env)) (Q:=fun _ s'=>SP X pins D .next s') hcl hs (closN_of I ok) ok.kind ok.locs
  (thn (hi pins s σ H _ I h) fun v s1 h1=>thn h1 fun itv s2 h2=>?_)) (fun _ s' hq=>wpAny_pure (wpAny_pure hq)) fun _ _ e=>e))))
 obtain⟨it,fp,tn,J,H2,rfl,I2,T,st2,f2,lw⟩:=h2
 refine comp_block (RR:=fun acc C=>compPost (model X.prog X.w) X.A X.xe (some (assign (.Name y py) X.env)) (fun _ s'=>SP X pins D .next s') acc C) I2 ok hM hlen (fun _=>hc) (fun Q E s=>hm X.A Q E s) hf0 hmk.kind (fun h D=>h0 _ h D) (c.start _ _) (fun C D=>c.loop _ it D) T.q st2 f2 (fun C=>hG _ _ _ _) (fun C=>ht _ _ _ _) (fun C D=>hb _ _ _ _ _) lw ?_
 intro L C a H' s' m q hD I' fC hn
 show wpAny _ X.A (assign (.Name y py) X.env (.ref L)) _ _ _
 refine wpAny_assign_Name (store_ok2 (v:=.ref L) I' hN hiy (.inl hy) rfl (fun s2 I2 hs2=>?_) (.inr hy))
 obtain⟨ad,sb,ha⟩:=hs2
 have hCa:C≠ad:=by
  rcases ha with e | e
  ·rw [e];exact fC.2.1
  ·exact Ne.symm (fC.2.2.2.2.1 _ _ e)
 exact⟨m,hn.sameBut sb hCa,fun h' hs'=>⟨_,_,I2.turned (t':=s2.toks) (it:=C) (fun b o hb e=>(hs'.2 b hb).trans e) fC.1 fC.2.1 fC.2.2.2.1 fC.2.2.2.2.1 fC.2.2.2.2.2,q L hD⟩⟩
end
section
variable {X:Cx}{sc:Scope}{x:Str}{px pos:Pos}{elt iter:Expr}{ifs:List Expr}{tt:TT}{te tl:TE}
end
end L2
namespace L2
open PySem PySem.Spec PyProof.Rows PySem.SeqAt
section
variable {X:Cx}
end
section
variable {X:Cx}
end
end L2
namespace L2
open PySem PySem.Spec PyProof.Rows
section
variable {prog:Program}{w:World}{A:Around}{E:Value->Shared->Prop}{s:Shared}{K:PySem.W.Frag}
theorem exc_match {a C W:Addr}{o:Obj}{Q:Bool->Shared->Prop}(X:K.In s.heap)(he:s.heap.get? a=some o)(hc:o.cls = .ref C)(hW:PySem.W.kitCls K (.ref C) (.ref W)=some true)(hB:PySem.W.mroIn K W (.type "BaseException")=some true)
 (h:Q true s):wpAny (model prog w) A (excMatches (.ref a) (.ref W)) Q E s:=by
 obtain⟨hp,g,d,t,os⟩:=s
 obtain⟨l1,l2,l3⟩:=PySem.W.kit_cls (M:=model prog w) X hW
 have l4:=PySem.W.looks_mroIn (M:=model prog w) X hB
 have l5:PySem.W.Looks (model prog w) hp (typeOf (.ref a)) (.ref C):=by rw [<-hc];exact (PySem.W.Looks.ld he).andThen .now
 have f:=tc_notTuple
 unfold excMatches isInstance
 refine wpAny_bind (wpAny_bind (l1.at (wpAny_of_eq f ?_)))
 rw [if_neg (by decide)]
 refine wpAny_bind (wpAny_pure ?_)
 refine wpAny_bind ?_
 rw [List.forIn_cons]
 unfold isExcClass
 refine wpAny_bind (wpAny_bind (wpAny_bind (l2.at ?_)))
 rw [if_pos rfl]
 refine l4.at ?_
 rw [if_neg (by decide)]
 refine wpAny_pure (wpAny_pure ?_)
 refine wpAny_bind (l5.at (wpAny_bind ?_))
 rw [List.forIn_cons]
 refine wpAny_bind (wpAny_bind (l3.at ?_))
 rw [if_pos rfl]
 refine wpAny_pure (wpAny_pure ?_)
 exact wpAny_pure h
end
section
variable {X:Cx}{pins:List (Addr×Obj)}{σ:St}{H:Hp}{s:Shared}
theorem Inv.forget {h':Heap}{m':Str->Option Value}{tk:Nat}(I:Inv X [] σ H s)(hpn:X.pn=[])(hns:h'.Ns X.env.locals m')(sb:Heap.SameBut X.env.locals s.heap h'):Inv X [] (List.replicate X.N.length none) H { s with heap:=h',toks:=tk }:=by
 have kp:∀b o,b≠X.env.locals->s.heap.get? b=some o->h'.get? b=some o:=fun b o n e=>(sb.2 b n).trans e
 have nl:∀b ob,X.s₀.heap.get? b=some ob->b≠X.env.locals:=fun b ob e=>Nat.ne_of_lt (Nat.lt_of_lt_of_le (Heap.lt_size e) I.ok.above)
 refine⟨I.ok,I.os,I.bare,⟨fun b o e n hb hx=>kp b o (nl b o e) (I.base.keep b o e n hb hx),fun b o e n hb hx=>?_,I.base.free,fun b o e hx=>?_,I.base.tups,I.base.frzs,I.base.tbls⟩,⟨m',hns,fun i x v h1 h2 _=>?_⟩,fun x c e=>?_,I.free,I.freeC,fun p hp=>absurd hp (by rw [hpn];simp),fun b u q=>?_,by simp⟩
 ·obtain⟨sl,e1⟩:=I.base.slot b o e n hb hx
  exact⟨sl,kp b _ (nl b o e) e1⟩
 ·obtain⟨o',e1⟩:=I.base.there b o e hx
  exact⟨o',kp b _ (nl b o e) e1⟩
 ·rw [List.getElem?_replicate] at h2
  split at h2<;>cases h2
 ·obtain⟨v,oc,e1,d1⟩:=I.cell x c e
  refine⟨v,oc,kp c oc (fun z=>?_) e1,d1⟩
  obtain⟨m,⟨ol,es,ep,e2,d2,_⟩,_⟩:=I.loc
  rw [z,e2] at e1
  cases e1
  rw [d2] at d1
  cases d1
 ·refine (I.hok b u q).stay (fun c v hc r=>kp c v (fun z=>?_) r) (fun _ r=>r) fun _ _ r=>r
  have:=I.free
  rcases hc with hc | hc
  ·rw [<-z,hc,q] at this;cases this
  ·rw [<-z,hc] at this;cases this
theorem caught {e:Value}{s2:Shared}{E':XK}{W:Addr}{i:Nat}{n xw:Str}{p4 p5:Pos}{b0:Stmt}{bs:List Stmt}{D:Ends}{pre:Addr->Option Addr->Hp->Prop}(I:Inv X [] σ H s)(hex:X.ex=[])(hpn:X.pn=[])(hst:X.stack=X.env::X.outer)(hfr:X.env.frame=some X.env.locals)
 (hx:CXF X.prog X.w X.stack H s E' e s2) (hN:X.N.Nodup) (hi:X.N[i]?=some n) (hn:X.env.scope.names.lookup n=some .local) (hg:Gl X xw) (hm:X.mg xw=some (.ref W)) (hB:PySem.W.mroIn X.K W (.type "BaseException")=some true)
 (hE:∀cv dx H2,E' cv dx H2->∃C,cv = .ref C/\PySem.W.kitCls X.K (.ref C) (.ref W)=some true/\pre C dx H2)
 (hs:∀(a C:Addr) (o:Obj) (H2:Hp),ExcObj o C->pre C o.dict H2->H2 a=none->∃t,PSs (X.marked (X.A.mark (some (.ref a)))) (b0::bs) t/\t { nx:=fun _ _=>False,rt:=D.rt } (σ.set i (some (.ref a))) (upd H2 a (excH o)))
 (hdb:(xw==("__debug__":Str))=false:=by decide):
 wpAny (model X.prog X.w) X.A (noteFrame e X.env) (fun _ s3=>wpAny (model X.prog X.w) X.A (setFlight e none) (fun _ s4=>wpAny (model X.prog X.w) X.A (handleBy e X.env [.ExceptHandler (some (.Name xw p4)) (some n) (b0::bs) p5]) (SP X [] D) (fun _ _=>False) s4) (fun _ _=>False) s3) (fun _ _=>False) s2:=by
 obtain⟨a,C,dx,H2,o,vs,rfl,os,bare,un,hok,ha,haH,he,hc,hdx,hd,h2,ht,hEv⟩:=hx
 obtain⟨C',e1,hW,hpre⟩:=hE _ _ _ hEv
 cases e1
 rw [<-hdx] at hpre
 have I2:Inv X [] σ H2 s2:=I.call' os un hok bare (fun b z=>absurd z (by simp))
 have gone:=I.gone hex ha
 refine lft_note (base:=X.base) (env:=X.env) (outer:=X.outer) (by rw [<-hst];exact I2.ok.frames) (by rw [<-hst];exact I2.stack) hfr he hd ht fun h' T l=>?_
 have l':Lft (frs X.stack) a o vs T s2.heap h':=by rw [hst];exact l
 have I3:=I2.lft l' he hd haH gone fun p hp=>absurd hp (by rw [hpn];simp)
 have h1:1<vs.size:=by
  rcases ht with z | ⟨_,_,_,z,_⟩<;>exact (Array.getElem?_eq_some_iff.mp z).1
 have eo:ExcObj { o with data:=.fields (vs.setIfInBounds 1 (.ref T)) } C:=⟨hc,_,rfl,by rw [Array.getElem?_setIfInBounds_ne (by decide)];exact h2⟩
 have hpre:pre C ({ o with data:=.fields (vs.setIfInBounds 1 (.ref T)) }:Obj).dict H2:=hpre
 generalize ho3:({ o with data:=.fields (vs.setIfInBounds 1 (.ref T)) }:Obj)=o3 at eo hpre
 have g3:h'.get? a=some o3:=by rw [<-ho3];exact l.exc
 have d3:o3.data = .fields (vs.setIfInBounds 1 (.ref T)):=by rw [<-ho3]
 have hmk:(X.A.mark (some (.ref a))).frames=X.A.frames:=rfl
 have I3m:=I3.marked hmk
 have hg':Gl (X.marked (X.A.mark (some (.ref a)))) xw:=hg
 refine wpAny_handleBy_cons (codeAny_handlers_test (ld_glob I3m hg' hm (exc_match I3.kIn g3 eo.cls hW hB ?_) hdb)) (by intro q;cases q)
 refine codeAny_handlers_suite_as ?_
 obtain⟨oT,ts,t1,t2,t3⟩:=l.trc
 unfold setFlight
 refine wpAny_bind (wpAny_field g3 d3 (x:=.ref T) (by simp [h1]) ?_)
 rw [if_pos (by simp)]
 refine wpAny_setField t1 t2 (Array.getElem?_eq_some_iff.mp t3).1 ?_
 have same:∀b u,h'.get? b=some u->(h'.update T (Obj.mapFields (·.setIfInBounds 3 ((none:Option Addr).elim Value.none fun f=>rawInt f)))).get? b=some u:=fun b u hb=>by
  by_cases z:b=T
  ·subst z
   rw [t1] at hb
   cases hb
   rw [Heap.get?_update_self _ t1 (Obj.isFreed_of_fields (Obj.data_mapFields t2 _))]
   exact congrArg some (mapF_same t2 t3)
  ·rw [Heap.get?_update_other _ _ (Ne.symm z)];exact hb
 have nloc:a≠X.env.locals:=fun z=>by
  obtain⟨m,⟨ol,es,ep,e2,d2,_⟩,_⟩:=I3.loc
  rw [<-z,g3] at e2
  cases e2
  rw [d3] at d2
  cases d2
 have nfs:a∉X.fs:=fun z=>by
  obtain⟨_,ob,e2,nf⟩:=I3.funs.mem z
  rw [g3] at e2
  cases e2
  exact nf _ d3
 have ncell:∀x c,X.env.cells.lookup x=some c->c≠a:=fun x c ec z=>by
  obtain⟨v,oc,e2,d2⟩:=I3.cell x c ec
  rw [z,g3] at e2
  cases e2
  rw [d3] at d2
  cases d2
 have I4:=(I3m.kept (t':=s2.toks) same)
 have I4p:=I4.pins_of (pins':=[(a,o3)]) fun p hp=>by
  rw [List.mem_singleton.mp hp]
  exact⟨same _ _ g3,haH,nloc,nfs,fun v z=>by rw [d3] at z;cases z⟩
 refine store_ok (X:=X.marked (X.A.mark (some (.ref a)))) (v:=.ref a) I4p hN hi (.inl hn) rfl (fun s5 I5=>?_) (.inr hn)
 have g5:s5.heap.get? a=some o3:=(I5.pin (a,o3) (List.mem_append_right _ (List.mem_singleton.mpr rfl))).1
 have I5':=I5.pins_of (pins':=[]) fun p hp=>absurd hp (by simp)
 have I6:=I5'.trackN (o:=excH o3) haH gone (Ne.symm nloc) ncell (fun p hp=>absurd hp (by rw [show (X.marked (X.A.mark (some (.ref a)))).pn=[] from hpn];simp)) ⟨g5,trivial,⟨o3,g5⟩,fun _ _ _ _=>trivial⟩
 obtain⟨t,hPS,hq⟩:=hs a C o3 H2 eo hpre haH
 refine wpAny_mono (hPS [] s5 _ _ _ I6 hq) (fun f s6 q=>?_) fun _ _ x=>x.elim
 cases f with
 | ret u=>
  obtain⟨v,σ',H',I7,rv,q⟩:=q
  have I7u:=I7.unmarked I.ok
  obtain⟨m,hns,_⟩:=I7u.loc
  refine wpAny_nameGoes hn hns (by rw [I.ok.kind];rfl) fun h8 m8 n8 sb8=>?_
  exact⟨v,_,H',I7u.forget hpn n8 sb8,rv,q⟩
 | next=>obtain⟨_,_,_,q⟩:=q;exact q.elim
 | brk=>obtain⟨_,_,_,q⟩:=q;exact q.elim
 | cont=>obtain⟨_,_,_,q⟩:=q;exact q.elim
end
abbrev NTold:List Str:=["_law_deed","_law_e"]
section
variable {P:Program}{w:World}{K:PySem.W.Frag}{mg:Str->Option Value}{base:Heap}{A:Around}{outer:List Env}{s:Shared}{H:Hp}
def xWant (K:PySem.W.Frag)(W:Addr)(pre:Addr->Option Addr->Hp->Prop):XK:=fun cv dx H2=>∃C,cv = .ref C/\PySem.W.kitCls K (.ref C) (.ref W)=some true/\pre C dx H2
end
def told (wd:Addr->Str->Option Str->Prop)(Q:VK):Addr->Option Addr->Hp->Prop:=fun C dx H2=>∃wrd fo,wd C wrd fo/\∃us,(match dx,fo with
 | none,none=>us=[]
 | some D,some f=>∃v,H2 D=some (.xd [(f,v)])/\us=[v]
 | _,_=>False)/\∀(t:Addr) (H':Hp),(∀b o,H2 b=some o->H' b=some o)->H' t=some (.tup ([.str "refused",.str wrd]++us))->Q (.ref t) H'
section
variable {X:Cx}
theorem flies_lam {qual:Str}{sc:Scope}{f c':Addr}{A:Around}{outer:List Env}{s:Shared}{H:Hp}{E:XK}:Flies (lamCx X qual sc f c' A outer s H E) E:=flies_of rfl rfl rfl rfl fun _ _ h=>h
end
def OnlyT (Ps:List Addr)(H:Hp):Prop:=∀b,H b=none\/(∃o xs,H b=some (.frz o (.lst xs)))\/(b∈Ps/\H b=some (.tbl #[]))
section
variable {P:Program}{w:World}{K:PySem.W.Frag}{mg:Str->Option Value}{base:Heap}
end
theorem passX {X:Cx}:Passes (CXF X.prog X.w) X E0:=fun _ _ _ _ _ _ _ ⟨_,_,_,_,_,_,_,_,_,_,_,_,_,_,_,_,_,_,_,h⟩=>h.elim
theorem ints_vals:∀{ns:List Int} {its:List Value},Vals (ns.map V.int) its->IntsAre its ns
 | [],_,.nil=>.nil
 | n::r,_,.cons h t=>by
  obtain⟨tk,rfl⟩:=h
  exact .cons n tk (ints_vals t)
theorem map_getD (ns:List Int):(List.range ns.length).map (fun i=>ns.getD i 0)=ns:=by
 apply List.ext_getElem
 ·simp
 ·intro i h1 h2
  simp at h1
  simp [List.getD_eq_getElem?_getD,h1]
section
variable {X:Cx}
theorem call_lenS:CallR X (.builtin "len") (fun xs H Q=>∃(a:Addr) (S:Int->Bool) (n:Nat),xs=[V.ref a]/\H a=some (.set S n)/\Q (.int (n:Nat)) H):=by
 intro pins s σ H xs us Q I r h
 obtain⟨a,S,n,rfl,ha,q⟩:=h
 obtain⟨u,rfl,ru⟩:=vals1 r
 cases ru
 obtain⟨o,es,ep,t,e,ex,d,_,_,sb,ft,rfl⟩:=(show s.heap.SetOf (intKind X.prog X.w) a S n from I.hok a _ ha)
 refine call_len_set e ex d ft (by have:scanBound=4096:=rfl;omega) ?_
 exact⟨.int (es.size:Nat),H,I.kept (t':=s.toks+1+1) (fun _ _ z=>z),⟨_,rfl⟩,q⟩
end
section
variable {prog:Program}{w:World}{A:Around}{E:Value->Shared->Prop}{s:Shared}
theorem sort_small {a:Addr}{vs:List Value}{n:Nat}{Q:PySem.Fin->Shared->Prop}(ho:s.heap.get? a=some (seqObj "list" vs.toArray n))(h1:vs.length<=1)
 (h:∀(h':Heap) (c:Nat),h'.get? a=some (seqObj "list" vs.toArray c)->(∀b o,b≠a->s.heap.get? b=some o->h'.get? b=some o)->Q (.done (.ret .none)) { s with heap:=h' }):
 wpAny (model prog w) A (Builtin.«list.sort» ⟨[.ref a],[]⟩) Q E s:=by
 rw [list_sort_plain]
 have ha:a<s.heap.objs.size:=Heap.lt_size ho
 have sl:1<=sizeLine:=by decide
 refine wpAny_bind (listItems_at ho rfl ?_)
 refine wpAny_bind (listUpdate_at ho rfl ?_ (by rw [List.size_toArray];omega) (Nat.zero_le _))
 obtain⟨e1,ho1⟩:∃e1,(s.heap.update a (Obj.mapSeq fun _=>#[])).get? a=some (seqObj "list" #[] e1):=⟨_,get?_update_seq ho (fun _=>#[])⟩
 refine wpAny_bind (seqEpoch_at ho1 rfl ?_)
 refine wpAny_bind (wpAny_newTuple ?_ (by show vs.length<=_;omega))
 refine wpAny_bind (wpAny_newList ?_ (Nat.zero_le _))
 refine wpAny_holding ?_
 have ho6:(((s.heap.update a (Obj.mapSeq fun _=>#[])).push (seqObj "tuple" vs.toArray 0)).push (seqObj "list" #[] 0)).get? a=some (seqObj "list" #[] e1):=
  Heap.get?_push_of_some _ (Heap.get?_push_of_some _ ho1)
 show wpAny (model prog w) A _ Q E { s with heap:=((s.heap.update a (Obj.mapSeq fun _=>#[])).push (seqObj "tuple" vs.toArray 0)).push (seqObj "list" #[] 0) }
 dsimp only
 have h2:vs.toArray.size<2:=by rw [List.size_toArray];omega
 rw [if_pos h2,if_pos h2]
 refine wpAny_bind (wpAny_pure ?_)
 rw [StateT.run_pure]
 refine wpAny_bind (wpAny_pure ?_)
 dsimp only
 refine wpAny_bind (seqEpoch_at ho6 rfl ?_)
 have eo:((vs.toArray.zip vs.toArray).map (·.2))=vs.toArray:=by
  apply Array.toList_inj.mp
  match vs,h1 with
  | [],_=>simp
  | [_],_=>simp
 have eo':(arrOf (SortSt.mk' general' (vs.toArray.zip vs.toArray) #[] 7 none)).map (·.2)=vs.toArray:=eo
 rw [eo']
 refine wpAny_bind (listUpdate_at ho6 rfl ?_ (Nat.zero_le _) (by rw [List.size_toArray];omega))
 simp only [bne_self_eq_false,Bool.false_eq_true,if_false]
 refine wpAny_pure (h _ _ (get?_update_seq ho6 fun _=>vs.toArray) fun b o hb e=>?_)
 rw [Heap.get?_update_ne _ _ _ _ hb]
 refine Heap.get?_push_of_some _ (Heap.get?_push_of_some _ ?_)
 rw [Heap.get?_update_ne _ _ _ _ hb]
 exact e
end
section
variable {X:Cx}
end
end L2
namespace L2
open PySem PySem.Spec PyProof.Rows PySem.AutoSeq1
theorem noFill_tuple_mul:fillsNumberSlot (.type "tuple") "mul" = pure false:=
 PySem.fillsNumberSlot_seq (id:="tuple.__mul__") (r:=some (.builtin "tuple.__rmul__")) PySem.F.slot_tuple_mul.lookup (by decide +kernel) PySem.F.slot_tuple_rmul.lookup (by decide +kernel)
theorem repeat_tuple:seqRepeat? (.type "tuple")=pure (some (.builtin "tuple.__mul__")):=by
 unfold seqRepeat?
 rw [PySem.seqSlot_of (T:="tuple") (name:="__mul__") (id:="tuple.__mul__") PySem.F.slot_tuple_mul.lookup (by decide +kernel),PySem.seqSlot_of (T:="tuple") (name:="__rmul__") (id:="tuple.__rmul__") PySem.F.slot_tuple_rmul.lookup (by decide +kernel)]
 rfl
theorem int_rmul_tup (a:Int)(t:Tok)(l:Addr)(items:Array Value)(n:Nat)(dd:Option Addr)(sl:Array (Option Value)):
 Meets (Builtin.«int.__rmul__» ⟨[.int a t,.ref l],[]⟩) (fun _ R s=>s.heap.get? l=some { cls:=.type "tuple",dict:=dd,data:=.seq items n,slots:=sl }/\R (.ok (.ret Value.notImplemented)) s):=
 .of_wp fun prog w A R s h=>by obtain⟨hp,g,d,tk,os⟩:=s;obtain⟨hl,h⟩:=h;wp_walk;exact⟨_,rfl,h⟩
theorem tuple_mulW (l:Addr)(items:Array Value)(n:Nat)(dd:Option Addr)(sl:Array (Option Value))(x:Int)(u:Tok)(hc0:¬(decide (x < -(2 ^ 63))||decide (x >= 2 ^ 63))=true)(hc1:¬(items.isEmpty||x==1)=true)(hc2:¬(decide (x<=0)||items.isEmpty)=true)
 (hc3:¬(items.size:Int)*x > (2 ^ 63-1) / 8) (hc4:¬Builtin.Tuple.tupleTooMany ((items.size:Int)*x)=true) (hz:(List.foldl (fun x1 x2=>x1++x2) #[] (List.replicate x.toNat items)).size<=sizeLine):
 Meets (Builtin.«tuple.__mul__» ⟨[.ref l,.int x u],[]⟩) (fun _ R s=>s.heap.get? l=some { cls:=.type "tuple",dict:=dd,data:=.seq items n,slots:=sl }/\R (.ok (.ret (Value.ref s.heap.objs.size))) { s with heap:=s.heap.push { cls:=Value.type "tuple",data:=Data.seq (List.foldl (fun x1 x2=>x1++x2) #[] (List.replicate x.toNat items)) },toks:=s.toks }):=
 .of_wp fun prog w A R s h=>by
  obtain⟨hp,g,d,tk,os⟩:=s;obtain⟨hl,h⟩:=h
  have f1:=PySem.AutoSeq1.idx_int;have f2:=PySem.AutoSeq1.sub_tuple_tuple
  wp_walk using wpAny_loadPart' hl
  refine wpAny_ite_false (decide_eq_false hc0) ?_
  wp_walk using wpAny_loadPart' hl
  refine wpAny_ite_false (decide_eq_false hc3) ?_
  wp_walk
  exact⟨_,rfl,h⟩
def rRepT (K:PySem.W.Frag):R2:=fun x y H Q=>∃l k xs,x = .ref l/\y = .int k/\SqT K H l xs/\xs≠[]/\2<=k/\k<=1000/\xs.length<=1000/\∀p,H p=none->Q (.ref p) (upd H p (.tup (List.replicate k.toNat xs).flatten))
section
variable {X:Cx}
theorem op_repT:OpR X (binaryOp .Mult) (rRepT X.K):=by
 intro pins s σ H x y v u Q I rx ry h
 obtain⟨l,k,xs,rfl,rfl,ha,hne,k2,k9,hl9,q⟩:=h
 cases rx
 obtain⟨t,rfl⟩:=ry
 obtain⟨its,r,p,_⟩:=I.tuple ha
 obtain⟨⟨c1,d1,dt1,sl1⟩,ho,hc,n,hd⟩:=id p
 simp only at hc hd
 subst hc hd
 have hni:¬its=[]:=fun z=>hne (r.nil_iff.mp z)
 have hil:its.length<=1000:=by rw [<-r.length];exact hl9
 have hie:its.toArray.isEmpty=false:=by
  cases its with
  | nil=>exact absurd rfl hni
  | cons a b=>rfl
 have hnew:List.foldl (fun x1 x2=>x1++x2) #[] (List.replicate k.toNat its.toArray)=(List.replicate k.toNat its).flatten.toArray:=by
  have:=foldl_rep its k.toNat []
  rw [List.nil_append] at this
  exact this
 have hk:k.toNat<=1000:=by omega
 have hm:k.toNat*its.length<=1000000:=Nat.mul_le_mul hk hil
 have hmi:(its.toArray.size:Int)*k<=1000000:=by
  rw [List.size_toArray]
  have:((k.toNat*its.length:Nat):Int)=(its.length:Int)*k:=by rw [Nat.mul_comm,Int.natCast_mul,Int.toNat_of_nonneg (by omega)]
  omega
 have hsl:sizeLine=16777216:=sizeLine_eq
 refine wpAny_binaryOp_repeat_ref (T:="tuple") (U:="int") (by decide) ⟨_,ho,rfl⟩ (fun s'=>typeIs_int s' k t) noFill_tuple_mul PySem.F.fills_int_mul PySem.F.slot_int_rmul repeat_tuple PySem.F.slot_int_index.lookup
  (call_meets PySem.F.slot_int_rmul (typeIs_int s k t) PySem.F.entry_int_rmul (PySem.F.args_int_rmul_2 _ _) (int_rmul_tup k t l its.toArray n d1 sl1)
    ⟨ho,rfl,⟨_,ho,rfl⟩,call_meets PySem.F.slot_tuple_mul ⟨_,ho,rfl⟩ PySem.F.entry_tuple_mul (PySem.F.args_tuple_mul_2 _ _) (tuple_mulW l its.toArray n d1 sl1 k t ?_ ?_ ?_ (by omega) ?_ ?_) ⟨ho,?_⟩⟩)
 ·have a1:¬k < -(2 ^ 63):=by omega
  have a2:¬k >= 2 ^ 63:=by omega
  rw [decide_eq_false a1,decide_eq_false a2]
  decide
 ·rw [hie]
  have:¬k=1:=by omega
  simp [this]
 ·rw [hie]
  have:¬k<=0:=by omega
  simp [this]
 ·unfold Builtin.Tuple.tupleTooMany
  have:¬(its.toArray.size:Int)*k > (sizeLine:Int):=by omega
  simp only [decide_eq_true_eq]
  exact this
 ·rw [hnew,List.size_toArray,len_rep]
  omega
 ·rw [hnew]
  exact⟨.ref _,_,I.laid (t':=s.toks) (o:=.tup (List.replicate k.toNat xs).flatten) (fun b ob e=>Heap.get?_push_of_some _ e) (Nat.le_refl _) ⟨by rw [len_rep,r.length];omega,_,r.rep k.toNat,IsTup.new _ _⟩,rfl,q _ I.fresh⟩
end
end L2
namespace L2
open PySem PySem.Spec
section
variable {X:Cx}{es:List Expr}{t:TA}{te:TE}
end
end L2
namespace HT
open PySem PySem.Spec PyProof.Rows
section
variable {prog:Program}{w:World}{A:Around}{E:Value->Shared->Prop}{s:Shared}
end
end HT
namespace L2
open PySem PySem.Spec PyProof.Rows
section
variable {X:Cx}
theorem sl_str:SlR X (fun x lo hi H Q=>∃z,x = .str z/\z.length<=sizeLine/\Q (.str (Txt.slice z lo hi)) H):=by
 intro pins s σ H x v vl vu lo hi sl Q I rx hs pl pu h
 obtain⟨z,rfl,hz,q⟩:=h
 obtain⟨t,rfl⟩:=rx
 have e1:∃l:Option (Int×Tok),partValue l=vl/\l.map (·.1)=lo:=by
  cases pl with
  | none=>exact⟨none,rfl,rfl⟩
  | int i t=>exact⟨some (i,t),rfl,rfl⟩
 have e2:∃l:Option (Int×Tok),partValue l=vu/\l.map (·.1)=hi:=by
  cases pu with
  | none=>exact⟨none,rfl,rfl⟩
  | int i t=>exact⟨some (i,t),rfl,rfl⟩
 obtain⟨l,rfl,rfl⟩:=e1
 obtain⟨u,rfl,rfl⟩:=e2
 refine⟨"str",_,PyProof.Rows.slot_str_getitem.lookup,typeIs_str s z t,wpAny_getItem_str_slice (l:=l) (u:=u) (st:=none) hs rfl ?_⟩
 have hle:=Nat.le_trans (Txt.slice_le z (l.map (·.1)) (u.map (·.1))) hz
 unfold Txt.slice at q hle
 show (if ((1:Int)==1&&(Builtin.Str.strSliceIndices (l.map (·.1)) (u.map (·.1)) 1 z.length).length==z.length)=true then Made.val (Value.str z t) else Made.str { cps:=(List.filterMap (fun x_1=>z.cps[x_1]?) (Builtin.Str.strSliceIndices (l.map (·.1)) (u.map (·.1)) 1 z.length)).toArray }).post _ s
 by_cases hc:((1:Int)==1&&(Builtin.Str.strSliceIndices (l.map (·.1)) (u.map (·.1)) 1 z.length).length==z.length)=true
 ·rw [if_pos hc] at q ⊢
  exact⟨.str z,H,I,⟨_,rfl⟩,q⟩
 ·rw [if_neg hc] at q hle ⊢
  exact⟨hle,.str _,H,I.tok _,⟨_,rfl⟩,q⟩
theorem vals_strs:∀(l:List (Str×Tok)),Vals ((l.map (·.1)).map V.str) (strValues l)
 | []=>.nil
 | p::l=>.cons ⟨p.2,rfl⟩ (vals_strs l)
theorem parts_le (x y:Str)(h:(y.length==0)=false):(Builtin.Str.partsBetween x (Builtin.Str.occurrences x y 0 x.length (x.length+1)) y.length).length<=x.length+2:=by
 rw [length_partsBetween]
 have:=StrLaws.occ_length_le x y 0 x.length (x.length+1)
 omega
theorem split_le (x y:Str)(h:(y.length==0)=false):(Txt.split x y).length<=x.length+2:=by
 unfold Txt.split
 split
 ·simp
 ·split
  ·simp
  ·exact parts_le x y h
end
section
variable {X:Cx}{CX:CXT}{k:Nat}{f C:Addr}{fd:FuncData}{ps ks:List Str}{sp:Sp}{E:XK}{x:Str}{p pos:Pos}{e:Expr}{es:List Expr}{kws:List Keyword}{t tk:TA}{g:List Value->List Value->List Value}{gV:List V->List V->List V}
def tMakeK (C:Addr)(sp:Sp)(gV:List V->List V->List V)(E:XK)(t tk:TA):TE:=fun σ H Q=>t σ H fun vs H1=>tk σ H1 fun zs H2=>∀x dx,H2 x=none->H2 dx=none->dx≠x->sp (gV (.ref x::vs) zs) (upd (upd H2 dx (.own x)) x (.ins C dx [])) (fun v H3=>v = .non/\Q (.ref x) H3) E
theorem run_makeK {pins:List (Addr×Obj)}{σ:St}{H:Hp}{s:Shared}{Q:VK}{us ws:List Value}{vs zs:List V}(M:Mk X.K C f)(F:FnOk X.prog X.w X.K X.mg X.base CX k f fd ps sp)(hr:Room (k+1) X.A)(hb:KBinds X.K fd ps ks g gV)
 (hx:Passes CX X E) (I:Inv X pins σ H s) (r:Vals vs us) (rz:Vals zs ws)
 (h:∀x dx,H x=none->H dx=none->dx≠x->sp (gV (.ref x::vs) zs) (upd (upd H dx (.own x)) x (.ins C dx [])) (fun v H2=>v = .non/\Q (.ref x) H2) E):
 wpAny (model X.prog X.w) X.A (call (.ref C) us (ks.zip ws)) (EP X pins σ Q) X.xe s:=by
 have hq:=h (s.heap.objs.size+1) s.heap.objs.size (I.hok.fresh (Nat.le_succ _)) (I.hok.fresh (Nat.le_refl _)) (Nat.ne_of_lt (Nat.lt_succ_self _))
 have I2:=Inv.made (C:=C) I
 have r2:=hb.rel (vs:=V.ref (s.heap.objs.size+1)::vs) (us:=Value.ref (s.heap.objs.size+1)::us) (.cons rfl r) rz
 have hl:(g (Value.ref (s.heap.objs.size+1)::us) ws).length=ps.length:=by rw [<-r2.length];exact F.len _ _ _ _ hq
 refine wpAny_call (make_map (f:=f) I.kIn M.makes M.init (beq_iff_eq.mp M.fn) (codeAny_mono (F.run _ X.stack _ _ ⟨Value.ref (s.heap.objs.size+1)::us,ks.zip ws⟩ _ _ _ E (hr.make C us (ks.zip ws)) (I2.env0.make C us (ks.zip ws)) (hb.to _ (Value.ref (s.heap.objs.size+1)::us) ws I2.kIn hl) r2 hq) fun r s' hq'=>?_))
 cases r with
 | error e=>exact hx pins σ _ _ e s' I2 hq'
 | ok fl=>
  cases fl with
  | ret u=>
   obtain⟨v,H',I3,rv,ev,q3⟩:=I2.after hq'
   subst ev
   exact⟨rv,⟨V.ref (s.heap.objs.size+1),H',I3,rfl,q3⟩⟩
  | next=>exact False.elim hq'
  | brk=>exact False.elim hq'
  | cont=>exact False.elim hq'
theorem pe_makeK (M:Mk X.K C f)(F:FnOk X.prog X.w X.K X.mg X.base CX k f fd ps sp)(hr:Room (k+1) X.A)(hg:Gl X x)(hm:X.mg x=some (.ref C))(hb:KBinds X.K fd ps ks g gV)(hx:Passes CX X E)
 (ha:PA X (e::es) t) (hkw:PK X kws tk) (hall:(backToKw pos (keywordEach kws X.env)).all (·.1.isSome)=true) (hks:(backToKw pos (keywordEach kws X.env)).filterMap (·.1)=ks)
 (hdb:(x==("__debug__":Str))=false) (he:starEach (e::es) X.env=(false,eval e X.env)::starEach es X.env)
 (hpl:((backTo pos (starEach (e::es) X.env)).any (·.1)||(backToKw pos (keywordEach kws X.env)).any (·.1.isNone))=false):
 PE X (.Call (.Name x p) (e::es) kws pos) (tMakeK C sp gV E t tk):=by
 intro pins s σ H Q I h
 refine wpAny_Call_Name_kw (ld_glob I hg hm ?_ hdb)
 refine PySem.W.callWith_KW (h₀:=X.base) I.ok.mod.kin M.kp hall (thn (ha pos pins s σ H _ I h) fun us s1 ⟨vs,H1,I1,r,q⟩=>?_) hpl he
 refine thn (hkw pos pins s1 σ H1 _ I1 q) fun ws s2 ⟨zs,H2,I2,rz,q2⟩=>⟨I2.kIn,?_⟩
 rw [hks]
 exact run_makeK M F hr hb hx I2 r rz q2
def rSetE (K:PySem.W.Frag):List V->Hp->VK->Prop:=fun xs H Q=>∃(a:Addr) (ns:List Int),xs=[.ref a]/\SqL K H a (ns.map V.int)/\ns.length<=1000/\∀(p:Addr) (S:Int->Bool),H p=none->Q (.ref p) (upd H p (.set S (ns.foldl step_dedup []).length))
theorem call_setE (hc:X.calm=true):CallR X (.type "set") (rSetE X.K):=by
 intro pins s σ H xs us Q I r h
 obtain⟨a,ns,rfl,hq,hl,q⟩:=h
 obtain⟨u,rfl,ru⟩:=vals1 r
 cases ru
 obtain⟨its,rv,p,hz⟩:=I.list hq
 have hi:=ints_vals rv
 have el:its.length=ns.length:=by rw [<-rv.length,List.length_map]
 have es:its.toArray.size=ns.length:=by rw [List.size_toArray,el]
 have bd:its.toArray.size+1<scanBound:=by rw [es];exact Nat.lt_of_le_of_lt (Nat.add_le_add_right hl 1) (by decide)
 refine call_set_list (I.ok.hd hc) p.isList (by simpa using hi) bd fun h' tk hS hk=>?_
 have fm:firstMet (fun i=>ns.getD i 0) its.toArray.size=ns.foldl step_dedup []:=by
  unfold firstMet
  rw [es,map_getD]
 rw [fm] at hS
 exact⟨.ref s.heap.objs.size,_,I.laid (h':=h') (t':=tk) (o:=.set _ _) (fun b ob z=>hk b ob (Heap.lt_size z) z) (Nat.le_refl _) hS,rfl,q _ _ (I.hok.fresh (Nat.le_refl _))⟩
end
section
variable {X:Cx}{pins:List (Addr×Obj)}{σ:St}{H:Hp}{s:Shared}{d:Addr}{od:Obj}{fs:List (Str×V)}
theorem Inv.freezeX (I:Inv X pins σ H s)(e:H d=some (.xd fs))(he:s.heap.get? d=some od):Inv X pins σ (upd H d (.frz od (.xd fs))) s:=by
 have nn:∀b,H b=none->b≠d:=fun b n z=>by rw [z,e] at n;cases n
 have ot:∀{b:Addr} {u:HO},H b=some u->(∀z:u = .xd fs,False)->upd H d (.frz od (.xd fs)) b=some u:=fun {b u} q n=>by rw [upd_ne (ne_of q e n)];exact q
 have stay:∀{b:Addr} {o:HO},ObjOk X.prog X.w H s.heap b o->ObjOk X.prog X.w (upd H d (.frz od (.xd fs))) s.heap b o:=fun {b o} x=>
  x.stay (fun _ _ _ q=>q) (fun c q=>ot q (fun z=>nomatch z)) fun c xs q=>ot q (fun z=>nomatch z)
 refine⟨I.ok,I.os,I.bare,⟨I.base.keep,I.base.slot,fun b ob q n x=>?_,I.base.there,fun b xs q=>ot (I.base.tups b xs q) (fun z=>nomatch z),fun b ob u q=>ot (I.base.frzs b ob u q) (fun z=>nomatch z),fun b ps q=>?_⟩,I.loc,I.cell,?_,fun y c q=>?_,fun p q=>?_,fun b u q=>?_,I.len⟩
 ·have z:=I.base.free b ob q n x
  rw [upd_ne (nn b z)];exact z
 ·obtain⟨mr,q'⟩:=I.base.tbls b ps q
  exact⟨mr,ot q' (fun z=>nomatch z)⟩
 ·rw [upd_ne (nn _ I.free)];exact I.free
 ·have z:=I.freeC y c q
  rw [upd_ne (nn _ z)];exact z
 ·obtain⟨h1,h2,h3,h4,h5⟩:=I.pin p q
  exact⟨h1,by rw [upd_ne (nn _ h2)];exact h2,h3,h4,h5⟩
 ·by_cases hb:b=d
  ·subst hb
   rw [upd_same] at q
   cases q
   exact⟨he,stay (I.hok _ _ e)⟩
  ·rw [upd_ne hb] at q
   exact stay (I.hok b u q)
end
def frX (Q:VK):VK:=fun v H=>Q v H\/∃d fs,H d=some (.xd fs)/\∀od,Q v (upd H d (.frz od (.xd fs)))
def metP (Q:VK):Addr->Option Addr->Hp->Prop:=fun C dx H2=>∀(a:Addr) (o:Obj),ExcObj o C->o.dict=dx->H2 a=none->frX Q (.ref a) (upd H2 a (excH o))
abbrev metCx (P:Program)(w:World)(K:PySem.W.Frag)(mg:Str->Option Value)(base:Heap)(st:Stmt)(ft:Addr)(cd:Value)(A:Around)(outer:List Env)(s:Shared)(H:Hp):Cx:=cxOf CX0 P w K mg base NTold "_law_met" (defScope st) ft cd A outer s H E0
section
variable {P:Program}{w:World}{K:PySem.W.Frag}{mg:Str->Option Value}{base:Heap}{A:Around}{outer:List Env}{s:Shared}{H:Hp}
theorem met_run {kd:Nat}{ft f W:Addr}{fdt:FuncData}{st:Stmt}{p1 p2 p3 p4 p5 p6 p7 p8 p9 p10:Pos}{kk:Nat}{Q:VK}{args:Args}{pr:VK->XK->Prop}(F:Fun K "_law_met" "_law_met" st ft fdt)(S:FnScope NTold ["_law_deed"] (defScope st))
 (hbd:defBody st=[.Try [.Expr (.Call (.Name "_law_deed" p1) [] [] p2) p3] [.ExceptHandler (some (.Name "WantError" p4)) (some "_law_e") [.Return (some (.Name "_law_e" p7)) p8] p5] [] [] p6,.Return (some (.Constant .none kk p9)) p10])
 (hd1:(defScope st).names.lookup ("_law_deed":Str)=some .local) (he1:(defScope st).names.lookup ("_law_e":Str)=some .local) (hgW:∀cd,Gl (metCx P w K mg base st ft cd A outer s H) "WantError")
 (mW:mg "WantError" = some (.ref W)) (hB:PySem.W.mroIn K W (.type "BaseException")=some true) (hr:Room (kd+1) A) (e0:Env0 P w K mg base A outer s H) (hb:BindsTo s fdt args [("_law_deed",.ref f)])
 (hD:DeedAt P w K mg base kd f s.heap H pr) (hfn:PySem.W.FnAt f s.heap) (hf0:H f=none) (hpr:pr (fun _ H'=>Q .non H') (xWant K W (metP Q))):
 codeAny (model P w) A (.call (.ref ft) args) (CR CX0 outer P w H s Q E0) s:=by
 obtain⟨oc,od,kV,doc,pm,an,cdv,ct,osl,rfl,lk,hcd⟩:=F.ex
 have KX:K.In s.heap:=e0.mod.kin.keeps fun b o e=>(e0.bs b o e).1
 have lim:s.heap.NoLimit:=e0.mod.nolimit.keeps fun b o e=>(e0.bs b o e).1
 refine codeAny_call_function hr.depth (KX _ _ lk) rfl S.co S.gen rfl (PySem.W.codeRec_of KX hcd) (hb _ _ _ _ ?_)
 refine wpAny_newFunctionEnv_cells S.kind (fun y hy=>?_) fun env he s1 x=>?_
 ·rw [List.mem_singleton.mp hy];exact .inl hd1
 subst he
 refine⟨lim.keeps x.toInCall.keep,codeAny_func ?_⟩
 have I:Inv (metCx P w K mg base st ft cdv A outer s H) [] [some (.ref f),none] H s1:=inv_start (vs:=[.ref f]) (us:=[.ref f]) S hr.hd e0 rfl (.cons rfl .nil) x
 have main:wpAny (model P w) (A.deeper (envOfC "_law_met" (defScope st) s.heap.objs.size ft cdv)) (execs (defBody st) (envOfC "_law_met" (defScope st) s.heap.objs.size ft cdv)) (SP (metCx P w K mg base st ft cdv A outer s H) [] { nx:=fun _ _=>False,rt:=frX Q }) (fun _ _=>False) s1:=by
  rw [hbd]
  refine wpAny_execs_cons (thn (Q:=SP (metCx P w K mg base st ft cdv A outer s H) [] { nx:=fun _ H'=>Q .non H',rt:=frX Q }) (wpAny_Try_except ?_) fun f s1 q=>?_)
  rotate_left
  ·cases f with
   | next=>
    obtain⟨σ',H',I',q⟩:=q
    have hN:PSs (metCx P w K mg base st ft cdv A outer s H) [.Return (some (.Constant .none kk p9)) p10] (tRet (tC .non)):=pss_one (ps_ret pe_non)
    exact hN [] s1 σ' H' { nx:=fun _ _=>False,rt:=frX Q } I' (show frX Q .non H' from .inl q)
   | ret v=>exact q
   | brk=>exact q
   | cont=>exact q
  refine wpAny_execs_cons (wpAny_Expr_any (wpAny_Call_Name_kw ?_) I.quiet)
  have hv:=(pv (X:=(metCx P w K mg base st ft cdv A outer s H).nox) 0 (pos:=p1) (x:="_law_deed") rfl (Or.inl hd1)) [] s1 [some (.ref f),none] H (fun v H'=>v = .ref f/\H'=H) (I.wish _) ⟨_,rfl,rfl,rfl⟩
  refine wpAny_mono hv (fun u s2 hq=>?_) fun _ _ z=>z.elim
  obtain⟨v,H',I2,rv,e1,e2⟩:=hq
  subst e1
  subst e2
  cases rv
  have I2:=I2.unwish
  have kp:∀b o,s.heap.get? b=some o->H' b=none->∃sl,s2.heap.get? b=some { o with slots:=sl }:=fun b o q n=>I2.base.any q n (fun z=>absurd (show b∈([]:List Addr) from z) (by simp))
  have fa:PySem.W.FnAt f s2.heap:=by
   obtain⟨oc,od,fd,sl,e⟩:=hfn
   obtain⟨sl2,e2⟩:=kp f _ e hf0
   exact⟨_,_,_,_,e2⟩
  refine PySem.W.callWith_F0 fa (wpAny_call (codeAny_mono (hD _ _ s2 (fun _ H'=>Q .non H') (xWant K W (metP Q)) (hr.deeper _) I2.env0 kp hpr) fun r s3 hq=>?_))
  cases r with
  | error e=>exact caught (bs:=[]) (D:={ nx:=fun _ H'=>Q .non H',rt:=frX Q }) (i:=1) I2 rfl rfl rfl rfl hq S.nd rfl he1 (hgW cdv) mW hB (fun _ _ _ z=>z) fun a C o H2 eo hp hn=>⟨_,pss_one (ps_ret (pv 1 rfl (Or.inl he1))),_,rfl,hp a o eo rfl hn⟩
  | ok fl=>
   cases fl with
   | ret u=>
    obtain⟨v,H3,I3,rv,q⟩:=I2.after hq
    exact wpAny_execs_nil (wpAny_execs_nil ⟨_,H3,I3,q⟩)
   | next=>exact False.elim hq
   | brk=>exact False.elim hq
   | cont=>exact False.elim hq
 refine wpAny_mono main (fun fl s' hs=>?_) fun _ _ x=>x.elim
 cases fl with
 | ret u=>
  obtain⟨v,σ',H',J,rv,q⟩:=hs
  rcases q with q | ⟨d,fs,e,q⟩
  ·exact⟨v,H',J.os,J.bare,J.base,J.hok,rv,q⟩
  ·obtain⟨od,he⟩:=(J.hok d _ e).there
   have J':=J.freezeX e he
   exact⟨v,_,J'.os,J'.bare,J'.base,J'.hok,rv,q od⟩
 | next=>obtain⟨_,_,_,q⟩:=hs;exact q.elim
 | brk=>obtain⟨_,_,_,q⟩:=hs;exact q.elim
 | cont=>obtain⟨_,_,_,q⟩:=hs;exact q.elim
end
structure MetOk (P:Program)(w:World)(K:PySem.W.Frag)(mg:Str->Option Value)(base:Heap)(ft W:Addr):Prop where
 run:∀(kd:Nat) (A:Around) (outer:List Env) (s:Shared) (H:Hp) (f:Addr) (Q:VK) (pr:VK->XK->Prop),Room (kd+1) A->Env0 P w K mg base A outer s H->DeedAt P w K mg base kd f s.heap H pr->PySem.W.FnAt f s.heap->H f=none->pr (fun _ H'=>Q .non H') (xWant K W (metP Q)) ->
  codeAny (model P w) A (.call (.ref ft) ⟨[.ref f],[]⟩) (CR CX0 outer P w H s Q E0) s
section
variable {X:Cx}
def tMet (P:Addr)(qual:Str)(K:PySem.W.Frag)(W:Addr)(tb:XK->TE):TE:=fun σ H Q=>Tbl H P qual/\∀H1,Grown P H H1->Tbl H1 P qual->tb (xWant K W (metP Q)) σ H1 (fun _ H'=>Q .non H')
theorem pe_met {k:Nat}{ft W c P:Addr}{params:Arguments}{body:Expr}{sc:Scope}{pl pt pos:Pos}{tb:XK->TE}(T:MetOk X.prog X.w X.K X.mg X.base ft W)(hg:Gl X "_law_met")(hm:X.mg "_law_met" = some (.ref ft))(hk:PySem.W.keepIn X.K (.ref ft)=true)
 (hcode:X.env.code = .ref c) (hC:PySem.W.codeHdIn X.K c P=true) (hB:BmAt X.mg X.base) (hr:Room (k+2) X.A) (ok:lamOk sc X.env.scope=true)
 (hb:∀(f c':Addr) (A:Around) (outer:List Env) (s':Shared) (H':Hp) (E:XK),Room k (A.deeper (lamEnv X (X.env.qual ++ "<lambda>") sc f c' s'))->PE (lamCx X (X.env.qual ++ "<lambda>") sc f c' A outer s' H' E) body (tb E))
 (hbind:∀(cl:List (Str×Addr)) (pm ctv:Value) (c':Addr),bindArgs (PySem.W.kla_fn "<lambda>" (X.env.qual ++ "<lambda>") params body sc cl pm (.ref c') ctv) ⟨[],[]⟩=pure []:=by intros;rfl) (hdef:defaultsOf params X.env=([],[]):=by rfl)
 (hs:starEach [.Lambda params body sc pl] X.env=[(false,eval (.Lambda params body sc pl) X.env)]:=by rfl):
 PE X (.Call (.Name "_law_met" pt) [.Lambda params body sc pl] [] pos) (tMet P (X.env.qual ++ "<lambda>") X.K W tb):=by
 intro pins s σ H Q I h
 obtain⟨hT,h⟩:=h
 have ok:=LamOk.of ok
 refine wpAny_Call_Name_kw (ld_glob I hg hm ?_ (by decide))
 refine PySem.W.callWith_K (h₀:=X.base) I.ok.mod.kin hk ?_ hs rfl
 rw [hs]
 refine Calls.spliced_cons (lam_make I hcode hC hT hB hdef (fun p hp e=>I.ok.has p.1 (ok.free p hp e)) fun f c' ctv pm H1 s1 I1 hf hf0 hc' gr tb1=>Calls.spliced_nil ⟨I1.kIn,?_⟩)
 have hD:=lam_deed (k:=k) I1 ok hf hf0 hc' (hbind _ _ _ _) fun A outer s' E hr'=>hb f c' A outer s' H1 E hr'
 refine wpAny_call (codeAny_mono (T.run (k+1) X.A X.stack s1 H1 f Q _ hr I1.env0 hD ⟨_,_,_,_,hf⟩ hf0 (h H1 gr tb1)) fun r s' hq=>?_)
 cases r with
 | error e=>exact hq.elim
 | ok fl=>
  cases fl with
  | ret u=>exact I1.after hq
  | next=>exact False.elim hq
  | brk=>exact False.elim hq
  | cont=>exact False.elim hq
end
end L2
namespace HT
open PySem PySem.Spec PyProof.Rows
section
open PySem.SeqAt
open PySem.AutoSeq1 (wpAny_loadPart')
open PySem.MeetsSeq PySem.MeetsSeq2 PySem.MeetsSeq3
end
section
variable {prog:Program}{w:World}{A:Around}{E:Value->Shared->Prop}{s:Shared}
end
section
variable {prog:Program}{w:World}{A:Around}{E:Value->Shared->Prop}{s:Shared}
def ev {α:Type}(lt:Nat->Nat->Bool):PySem.W.KasT α->α
 | .ret a=>a
 | .ask i j k=>ev lt (k (lt i j))
def Rng {α:Type}(n:Nat)(P:α->Prop):PySem.W.KasT α->Prop
 | .ret a=>P a
 | .ask i j k=>i<n/\j<n/\∀b,Rng n P (k b)
theorem wp_ev {α:Type}{cmp:Nat->Nat->(Bool->Shared->Prop)->Shared->Prop}{lt:Nat->Nat->Bool}{n:Nat}{P:α->Prop}{Q:α->Shared->Prop}{s:Shared}(hc:∀i j (C:Bool->Shared->Prop),i<n->j<n->C (lt i j) s->cmp i j C s):
 ∀t:PySem.W.KasT α,Rng n P t->(P (ev lt t)->Q (ev lt t) s)->PySem.W.KasT.kasWp cmp t Q s
 | .ret a,h,q=>q h
 | .ask i j k,h,q=>hc i j _ h.1 h.2.1 (wp_ev hc (k (lt i j)) (h.2.2 _) q)
theorem rng_ev {α:Type}{n:Nat}{P:α->Prop}{lt:Nat->Nat->Bool}:∀t:PySem.W.KasT α,Rng n P t->P (ev lt t)
 | .ret a,h=>h
 | .ask i j k,h=>rng_ev (k (lt i j)) (h.2.2 _)
theorem rng_bind {α β:Type}{n:Nat}{P:β->Prop}{f:α->PySem.W.KasT β}:∀t:PySem.W.KasT α,Rng n (fun a=>Rng n P (f a)) t->Rng n P (t.bind f)
 | .ret a,h=>h
 | .ask i j k,h=>⟨h.1,h.2.1,fun b=>rng_bind (k b) (h.2.2 b)⟩
theorem rng_mono {α:Type}{n:Nat}{P P':α->Prop}(m:∀a,P a->P' a):∀t:PySem.W.KasT α,Rng n P t->Rng n P' t
 | .ret a,h=>m a h
 | .ask i j k,h=>⟨h.1,h.2.1,fun b=>rng_mono m (k b) (h.2.2 b)⟩
def Pm (n:Nat)(p:Array Nat):Prop:=p.Perm (List.range n).toArray
theorem Pm.lt {n:Nat}{p:Array Nat}(h:Pm n p)(h0:0<n)(i:Nat):p.getD i 0<n:=by
 by_cases hi:i<p.size
 ·have m:p[i]∈(List.range n).toArray:=h.mem_iff.mp (Array.getElem_mem hi)
  rw [Array.getD_eq_getD_getElem?,Array.getElem?_eq_getElem hi]
  simpa using m
 ·rw [Array.getD_eq_getD_getElem?,Array.getElem?_eq_none (by omega)]
  exact h0
theorem Pm.rev {n:Nat}{p:Array Nat}(h:Pm n p)(i j:Nat):Pm n (PySem.W.kas_rev p i j):=(mirror_perm p i j _).trans h
theorem Pm.bub {n:Nat}{p:Array Nat}(h:Pm n p)(i j:Nat):Pm n (bubble p i j):=(bubble_perm p i j).trans h
theorem rng_asc {n:Nat}(h0:0<n){p:Array Nat}(h:Pm n p):∀(f a:Nat),Rng n (fun _=>True) (PySem.W.kas_asc p f a)
 | 0,_=>trivial
 | f+1,a=>by
  show Rng n _ (PySem.W.KasT.ask _ _ _)
  refine⟨h.lt h0 _,h.lt h0 _,fun b=>?_⟩
  cases b with
  | true=>trivial
  | false=>exact rng_asc h0 h f (a+1)
theorem rng_desc {n:Nat}(h0:0<n):∀(f:Nat) (p:Array Nat) (a q:Nat),Pm n p->Rng n (fun r=>Pm n r.1) (PySem.W.kas_desc f p a q)
 | 0,p,_,_,h=>h
 | f+1,p,a,q,h=>by
  show Rng n _ (PySem.W.KasT.ask _ _ _)
  refine⟨h.lt h0 _,h.lt h0 _,fun b=>?_⟩
  cases b with
  | true=>
   show Rng n _ (if q > 0 then _ else _)
   split
   ·exact rng_desc h0 f _ _ _ (h.rev _ _)
   ·exact rng_desc h0 f _ _ _ h
  | false=>
   refine⟨h.lt h0 _,h.lt h0 _,fun b=>?_⟩
   cases b with
   | true=>exact h
   | false=>exact rng_desc h0 f _ _ _ h
theorem rng_tail3 {n:Nat}(h0:0<n){p:Array Nat}(h:Pm n p)(a m:Nat):Rng n (fun r=>Pm n r.2) (PySem.W.kas_tail3 a m p):=
 rng_bind _ (rng_mono (fun _ _=>h.rev _ _) _ (rng_asc h0 (h.rev 0 a) _ _))
theorem rng_part {n:Nat}(h0:0<n){p:Array Nat}(h:Pm n p)(a m:Nat):Rng n (fun r=>Pm n r.2) (PySem.W.kas_descPart a m p):=by
 refine rng_bind _ (rng_mono (fun r hr=>?_) _ (rng_desc h0 _ _ _ _ h))
 show Rng n _ (if _ then _ else _)
 split
 ·exact rng_tail3 h0 (hr.rev _ _) _ _
 ·exact rng_tail3 h0 hr _ _
theorem rng_count {n:Nat}(h0:0<n){p:Array Nat}(h:Pm n p)(m:Nat):Rng n (fun r=>Pm n r.2) (PySem.W.kas_count m p):=by
 refine rng_bind _ (rng_mono (fun a _=>?_) _ (rng_asc h0 h _ _))
 show Rng n _ (if _ then _ else _)
 split
 ·exact h
 ·split
  ·refine⟨h.lt h0 _,h.lt h0 _,fun b=>?_⟩
   cases b with
   | true=>exact h
   | false=>exact rng_part h0 (h.rev _ _) _ _
  ·exact rng_part h0 h _ _
theorem rng_place {n:Nat}(h0:0<n){p:Array Nat}(h:Pm n p)(k:Nat):∀(f l r:Nat),Rng n (fun _=>True) (PySem.W.kas_place p k f l r)
 | 0,_,_=>trivial
 | f+1,l,r=>by
  rw [PySem.W.kas_place.eq_def]
  show Rng n _ (if _ then _ else _)
  split
  ·trivial
  ·refine⟨h.lt h0 _,h.lt h0 _,fun b=>?_⟩
   cases b with
   | true=>exact rng_place h0 h k f _ _
   | false=>exact rng_place h0 h k f _ _
theorem rng_bin {n:Nat}(h0:0<n):∀(f:Nat) (p:Array Nat) (k:Nat),Pm n p->Rng n (Pm n) (PySem.W.kas_bin f p k)
 | 0,p,_,h=>h
 | f+1,p,k,h=>rng_bind (f:=fun l=>PySem.W.kas_bin f (bubble p k (k-l)) (k+1)) _ (rng_mono (fun l _=>rng_bin h0 f _ _ (h.bub _ _)) _ (rng_place h0 h k _ _ _))
theorem rng_sort {n:Nat}(h0:0<n):Rng n (Pm n) (PySem.W.kas_sort n):=by
 refine rng_bind _ (rng_mono (fun r hr=>?_) _ (rng_count h0 (Array.Perm.refl _) n))
 show Rng n _ (if _ then _ else _)
 split
 ·exact rng_bin h0 _ _ _ hr
 ·exact hr
end
end HT
namespace L2
open PySem PySem.Spec PyProof.Rows HT
section
variable {prog:Program}{w:World}{A:Around}{E:Value->Shared->Prop}{s:Shared}
end
end L2
namespace HT
open PySem PySem.Spec PyProof.Rows
theorem ints_lenI:∀{vs:List Value} {ns:List Int},IntsAre vs ns->vs.length=ns.length
 | _,_,.nil=>rfl
 | _,_,.cons _ _ h=>by rw [List.length_cons,List.length_cons,ints_lenI h]
section
variable {prog:Program}{w:World}{A:Around}{E:Value->Shared->Prop}{s:Shared}
theorem keyLt_genI {l b:Addr}{items items2:Array Value}{ns ms:List Int}{Q:Bool->Shared->Prop}(hl:IsTup s.heap l items)(hb:IsTup s.heap b items2)(hi:IntsAre items.toList ns)(hj:IntsAre items2.toList ms)
 (hu:A.units<cLine) (h:Q (lexLt ns ms) s):wpAny (model prog w) A (keyLt' general' (.ref l) (.ref b)) Q E s:=by
 have e:keyLt' general' (.ref l) (.ref b)=oneLt' false (.ref l) (.ref b):=rfl
 rw [e]
 exact PySem.W.kat_one _ _ (lt_tupInts hl hb hi hj hu h)
theorem keyLt_oneI {l b:Addr}{items items2:Array Value}{ns ms:List Int}{Q:Bool->Shared->Prop}(hl:IsTup s.heap l items)(hb:IsTup s.heap b items2)(hi:IntsAre items.toList ns)(hj:IntsAre items2.toList ms)
 (hu:A.units<cLine) (h:Q (lexLt ns ms) s):wpAny (model prog w) A (keyLt' oneType' (.ref l) (.ref b)) Q E s:=by
 rw [keyLt'_oneType,oneLt'_eq]
 obtain⟨⟨cls,dd,data,sl⟩,ho,hc,n,hd⟩:=id hl
 obtain⟨⟨cls2,dd2,data2,sl2⟩,ho2,hc2,n2,hd2⟩:=id hb
 simp only at hc hd hc2 hd2
 subst hc hd hc2 hd2
 dsimp only
 rw [if_pos rfl]
 refine wpAny_bind (wpAny_cRoomFor hu ?_)
 refine wpAny_bind (wpAny_callSpecialIfBound?_slot (name:=Str.ofString "__lt__") hl.typeIs PySem.F.slot_tuple_lt (call_meets PySem.F.slot_tuple_lt ⟨_,ho,rfl⟩ PySem.F.entry_tuple_lt (PySem.F.args_tuple_lt_2 _ _) (tuple_lt_ints l b items items2 n n2 dd dd2 sl sl2 ns ms hi hj) ⟨ho,ho2,?_⟩))
 show wpAny (model prog w) A (truthOfDropped (.bool (lexLt ns ms))) Q E s
 unfold truthOfDropped
 exact wpAny_truthy_bool h
theorem keyLt_tupI {k:Bool}{l b:Addr}{items items2:Array Value}{ns ms:List Int}{Q:Bool->Shared->Prop}(hl:IsTup s.heap l items)(hb:IsTup s.heap b items2)(hi:IntsAre items.toList ns)(hj:IntsAre items2.toList ms)
 (hu:A.units<cLine) (h:Q (lexLt ns ms) s):wpAny (model prog w) A (keyLt' (tuples' k) (.ref l) (.ref b)) Q E s:=by
 obtain⟨o1,e1,c1,n1,d1⟩:=hl
 obtain⟨o2,e2,c2,n2,d2⟩:=hb
 refine PySem.W.kat_lt e1 d1 e2 d2 ?_
 have z1:items.size=ns.length:=by rw [<-ints_lenI hi];simp
 have z2:items2.size=ms.length:=by rw [<-ints_lenI hj];simp
 have go:∀(i:Nat) (vs ws:List Value) (ns' ms':List Int),IntsAre vs ns'->IntsAre ws ms'->ns'.length+items2.size=ms'.length+items.size->Q (lexLt ns' ms') s->PySem.W.KatLex prog w A k (decide (items.size<items2.size)) Q (vs.zip ws) i s:=by
  intro i vs ws ns' ms' hvi
  induction hvi generalizing i ws ms' with
  | nil=>
   intro hwi hl hq
   have e:lexLt [] ms'=decide (items.size<items2.size):=by
    cases hwi with
    | nil=>exact (decide_eq_false (by simp at hl;omega)).symm
    | cons c u hw=>exact (decide_eq_true (by simp at hl;omega)).symm
   rw [e] at hq
   rw [List.zip_nil_left]
   exact hq
  | @cons a t vs0 ys0 hv ih=>
   intro hwi hl hq
   cases hwi with
   | nil=>
    have e:lexLt (a::ys0) []=decide (items.size<items2.size):=(decide_eq_false (by simp at hl;omega)).symm
    rw [e] at hq
    rw [List.zip_nil_right]
    exact hq
   | cons c u hw=>
    rw [List.zip_cons_cons]
    refine SeqAt.EqAt.int_int a t c u _ _ _ _ ?_
    have hq:Q (if a=c then lexLt _ _ else decide (a<c)) s:=hq
    by_cases e:a=c
    ·rw [if_pos e] at hq
     rw [beq_iff_eq.mpr e,if_pos rfl]
     exact ih _ _ _ hw (by simp at hl;omega) hq
    ·rw [if_neg e] at hq
     rw [beq_eq_false_iff_ne.mpr e,if_neg (by decide)]
     cases hb:(k&&i==0) with
     | true=>exact oneLt_int hq
     | false=>exact PySem.W.kat_one _ _ (lt_int hq)
 exact go 0 _ _ _ _ hi hj (by omega) h
def TupI (h:Heap)(v:Value)(ns:List Int):Prop:=∃(l:Addr) (items:Array Value),v = .ref l/\IsTup h l items/\IntsAre items.toList ns
theorem firsts_ofI {h:Heap}:∀(vs:List Value) (ks:List (List Int)) {s:Shared} {Q:List (Option Value)->Shared->Prop},s.heap=h->Paired (TupI h) vs ks ->
 (∀fs:List (Option Value),(∀f∈fs,f=none\/∃x t,f=some (.int x t))->Q fs s)->wpAny (model prog w) A (List.mapM firstOfTuple' vs) Q E s
 | [],_,s,Q,_,_,k=>by rw [List.mapM_nil];exact wpAny_pure (k [] (fun _ z=>by cases z))
 | v::vs,_,s,Q,e,.cons ⟨l,items,e1,e2,e3⟩ r,k=>by
  subst e
  subst e1
  rw [List.mapM_cons,PySem.W.kas_first_eq]
  obtain⟨o,ho,hc,n,hd⟩:=id e2
  refine wpAny_bind (wpAny_bind (wpAny_typeOf e2.typeIs ?_))
  rw [if_neg (by decide)]
  refine wpAny_bind (listItems_at ho hd (wpAny_pure ?_))
  refine wpAny_bind (firsts_ofI vs _ rfl r fun fs hf=>wpAny_pure (k _ fun f hm=>?_))
  rcases List.mem_cons.mp hm with rfl | hm
  ·cases q:items.toList with
   | nil=>exact .inl (by rw [<-Array.getElem?_toList,q];rfl)
   | cons x r'=>
    rw [q] at e3
    cases e3 with
    | cons y t _=>exact .inr ⟨y,t,by rw [<-Array.getElem?_toList,q];rfl⟩
  ·exact hf f hm
theorem tup_memI {h:Heap}:∀{vs:List Value} {ks:List (List Int)},Paired (TupI h) vs ks->∀v∈vs,∃(l:Addr) (items:Array Value),v = .ref l/\IsTup h l items/\∃ns,IntsAre items.toList ns
 | _,_,.nil,_,hv=>by cases hv
 | _,_,.cons ⟨l,items,e1,e2,e3⟩ r,v,hv=>by
  rcases List.mem_cons.mp hv with rfl | hv
  ·exact⟨l,items,e1,e2,_,e3⟩
  ·exact tup_memI r v hv
theorem kind_ofI {vs:List Value}{ks:List (List Int)}{Q:SortKind->Shared->Prop}(r:Paired (TupI s.heap) vs ks)(q1:Q general' s)(q2:Q oneType' s)(q3:∀b,Q (tuples' b) s):wpAny (model prog w) A (keyKind' vs.toArray) Q E s:=by
 rw [keyKind'_eq,Array.mapM_eq_mapM_toList]
 refine wpAny_bind (wpAny_map (firsts_ofI vs ks rfl r fun fs hf=>?_))
 by_cases c1:(fs.toArray.all fun x=>x.isSome)=true
 ·rw [if_pos c1]
  refine wpAny_bind (wpAny_rule ?_)
  rw [oneTypeOnly'_eq,Array.mapM_eq_mapM_toList]
  have hs:∀v∈(Array.filterMap id fs.toArray).toList,∃x t,v=Value.int x t:=fun v hv=>by
   rw [Array.toList_filterMap] at hv
   obtain⟨f,hm,e⟩:=List.mem_filterMap.mp hv
   rcases hf f hm with rfl | ⟨x,t,rfl⟩
   ·cases e
   ·exact⟨x,t,(Option.some.inj e).symm⟩
  refine wpAny_bind (wpAny_bind (wpAny_map (PySem.W.kas_mapM (r:=.type "int") _ (fun v hv Q' q=>?_) ?_)))
  ·obtain⟨x,t,rfl⟩:=hs v hv
   exact wpAny_typeOf (typeIs_int _ _ _) q
  ·cases hl:(Array.filterMap id fs.toArray).toList with
   | nil=>exact wpAny_pure (wpAny_pure (q3 _))
   | cons v r=>
    have e:((List.map (fun _=>Value.type "int") (v::r)).toArray.all fun x=>x==Value.type "int")=true:=by simp
    show wpAny _ _ (pure (if ((List.map (fun _=>Value.type "int") (v::r)).toArray.all fun x=>x==Value.type "int")=true then some (Value.type "int") else none)) _ _ _
    rw [if_pos e]
    exact wpAny_pure (wpAny_pure (q3 _))
 ·rw [if_neg c1]
  by_cases c2:(fs.toArray[0]?.bind id).isSome=true
  ·rw [if_pos c2]
   exact wpAny_pure q1
  ·rw [if_neg c2,oneTypeOnly'_eq,Array.mapM_eq_mapM_toList]
   refine wpAny_bind (wpAny_bind (wpAny_map (PySem.W.kas_mapM (r:=.type "tuple") _ (fun v hv Q' q=>?_) ?_)))
   ·obtain⟨l,items,e1,e2,e3⟩:=tup_memI r v hv
    subst e1
    exact wpAny_typeOf e2.typeIs q
   ·have fin:∀o:Option Value,Q (if o.isSome=true then oneType' else general') s:=fun o=>by split<;>assumption
    split
    ·exact wpAny_pure (wpAny_pure (fin _))
    ·exact wpAny_pure (wpAny_pure (fin _))
end
end HT
namespace L2
open PySem PySem.Spec PyProof.Rows HT
def srtI (ks:List (List Int)):List Nat:=(HT.ev (fun i j=>HT.lexLt (ks.getD i []) (ks.getD j [])) (PySem.W.kas_sort ks.length)).toList
theorem srtI_perm {ks:List (List Int)}(h:0<ks.length):(srtI ks).Perm (List.range ks.length):=by
 have:=HT.rng_ev (lt:=fun i j=>HT.lexLt (ks.getD i []) (ks.getD j [])) _ (HT.rng_sort h)
 exact Array.Perm.toList this
section
variable {prog:Program}{w:World}{A:Around}{E:Value->Shared->Prop}{s:Shared}
theorem tup_atI {h:Heap}{vs:List Value}{ks:List (List Int)}(r:Paired (TupI h) vs ks){i:Nat}(hi:i<ks.length):∃(l:Addr) (items:Array Value),vs.getD i .none = .ref l/\IsTup h l items/\IntsAre items.toList (ks.getD i []):=by
 have hl:vs.length=ks.length:=Paired.length r
 have hv:vs[i]?=some vs[i]:=by simp [hl,hi]
 obtain⟨k,e1,l,items,e2,e3,e4⟩:=paired_at r hv
 refine⟨l,items,?_,e3,?_⟩
 ·rw [List.getD_eq_getElem?_getD,hv];exact e2
 ·rw [List.getD_eq_getElem?_getD,e1];exact e4
theorem sort_manyI {a:Addr}{vs:List Value}{ks:List (List Int)}{n:Nat}{Q:PySem.Fin->Shared->Prop}(ho:s.heap.get? a=some (seqObj "list" vs.toArray n))(h2:2<=vs.length)(h64:vs.length<64)(hu:A.units<cLine)(r:Paired (TupI s.heap) vs ks)
 (h:∀(h':Heap) (c:Nat),h'.get? a=some (seqObj "list" ((srtI ks).map fun i=>vs.getD i .none).toArray c)->(∀b o,b≠a->s.heap.get? b=some o->h'.get? b=some o)->Q (.done (.ret .none)) { s with heap:=h' }):
 wpAny (model prog w) A (Builtin.«list.sort» ⟨[.ref a],[]⟩) Q E s:=by
 rw [list_sort_plain]
 have ha:a<s.heap.objs.size:=Heap.lt_size ho
 have sl:64<=sizeLine:=by decide
 have hl:vs.length=ks.length:=Paired.length r
 refine wpAny_bind (listItems_at ho rfl ?_)
 refine wpAny_bind (listUpdate_at ho rfl ?_ (by rw [List.size_toArray];omega) (Nat.zero_le _))
 obtain⟨e1,ho1⟩:∃e1,(s.heap.update a (Obj.mapSeq fun _=>#[])).get? a=some (seqObj "list" #[] e1):=⟨_,get?_update_seq ho (fun _=>#[])⟩
 refine wpAny_bind (seqEpoch_at ho1 rfl ?_)
 refine wpAny_bind (wpAny_newTuple ?_ (by show vs.length<=_;omega))
 refine wpAny_bind (wpAny_newList ?_ (Nat.zero_le _))
 refine wpAny_holding ?_
 have ho6:(((s.heap.update a (Obj.mapSeq fun _=>#[])).push (seqObj "tuple" vs.toArray 0)).push (seqObj "list" #[] 0)).get? a=some (seqObj "list" #[] e1):=
  Heap.get?_push_of_some _ (Heap.get?_push_of_some _ ho1)
 have kp:∀b o,b≠a->s.heap.get? b=some o->(((s.heap.update a (Obj.mapSeq fun _=>#[])).push (seqObj "tuple" vs.toArray 0)).push (seqObj "list" #[] 0)).get? b=some o:=fun b o hb e=>by
  refine Heap.get?_push_of_some _ (Heap.get?_push_of_some _ ?_)
  rw [Heap.get?_update_ne _ _ _ _ hb]
  exact e
 show wpAny (model prog w) A _ Q E { s with heap:=((s.heap.update a (Obj.mapSeq fun _=>#[])).push (seqObj "tuple" vs.toArray 0)).push (seqObj "list" #[] 0) }
 generalize (((s.heap.update a (Obj.mapSeq fun _=>#[])).push (seqObj "tuple" vs.toArray 0)).push (seqObj "list" #[] 0))=h6 at ho6 kp
 dsimp only
 have h2':¬vs.toArray.size<2:=by rw [List.size_toArray];omega
 rw [if_neg h2',if_neg h2']
 have r6:Paired (TupI h6) vs ks:=Paired.mapP r fun v k ⟨l,items,q1,⟨o,q2,q3,q4⟩,q5⟩=>⟨l,items,q1,⟨o,kp l o (fun z=>by
  rw [z,ho] at q2
  have e:Value.type "list" = Value.type "tuple":=by rw [<-q3,<-Option.some.inj q2]
  exact absurd e (by decide)) q2,q3,q4⟩,q5⟩
 have main:∀κ:SortKind,(∀(i j:Nat) (C:Bool->Shared->Prop),i<ks.length->j<ks.length->C (lexLt (ks.getD i []) (ks.getD j [])) { s with heap:=h6 }->wpAny (model prog w) A (keyLt' κ (vs.getD i .none) (vs.getD j .none)) C (fun _ _=>False) { s with heap:=h6 }) ->
  PySem.W.kasC (model prog w) A E sortRuns' (fun _ x s'=>s'={ s with heap:=h6 }/\failedOf x=none/\(arrOf x).map (·.2)=((srtI ks).map fun i=>vs.getD i .none).toArray) (SortSt.mk' κ (vs.toArray.zip vs.toArray) #[] 7 none) { s with heap:=h6 }:=fun κ hc=>by
  have e0:SortSt.mk' κ (vs.toArray.zip vs.toArray) #[] 7 none=PySem.W.kas_st κ (pairsOf vs) (List.range vs.length).toArray:=by
   unfold PySem.W.kas_st
   have:vs.length=(pairsOf vs).size:=by unfold pairsOf;simp
   rw [this,PySem.W.kas_range]
   rfl
  rw [e0]
  refine PySem.W.kas_runs (G:=fun p s'=>s'={ s with heap:=h6 }/\p.toList=srtI ks) h2 h64 (fun p' st' s' z1 z2 z3 z=>⟨z.1,z3,?_⟩) ?_
  ·rw [z2,Array.map_map,<-z.2]
   apply Array.toList_inj.mp
   rw [Array.toList_map]
   refine List.map_congr_left fun i _=>?_
   show (PySem.W.kas_item (pairsOf vs) i).2=_
   rw [PySem.W.kas_item_eq]
  ·rw [hl,<-PySem.W.kas_ask_eq]
   exact HT.wp_ev (n:=ks.length) (lt:=fun i j=>lexLt (ks.getD i []) (ks.getD j [])) (fun i j C hi hj q=>hc i j C hi hj q) _ (HT.rng_sort (by omega)) fun _=>⟨rfl,rfl⟩
 refine wpAny_bind (wpAny_mono (kind_ofI (Q:=fun κ s'=>s'={ s with heap:=h6 }/\∀(i j:Nat) (C:Bool->Shared->Prop),i<ks.length->j<ks.length->C (lexLt (ks.getD i []) (ks.getD j [])) { s with heap:=h6 }->wpAny (model prog w) A (keyLt' κ (vs.getD i .none) (vs.getD j .none)) C (fun _ _=>False) { s with heap:=h6 })
  (s:={ s with heap:=h6 }) r6 ⟨rfl,fun i j C hi hj q=>?_⟩ ⟨rfl,fun i j C hi hj q=>?_⟩ fun b=>⟨rfl,fun i j C hi hj q=>?_⟩) (fun κ s' hκ=>?_) fun _ _ z=>z)
 ·obtain⟨l1,i1,e1',t1,s1⟩:=tup_atI r6 hi
  obtain⟨l2,i2,e2',t2,s2⟩:=tup_atI r6 hj
  rw [e1',e2']
  exact keyLt_genI t1 t2 s1 s2 hu q
 ·obtain⟨l1,i1,e1',t1,s1⟩:=tup_atI r6 hi
  obtain⟨l2,i2,e2',t2,s2⟩:=tup_atI r6 hj
  rw [e1',e2']
  exact keyLt_oneI t1 t2 s1 s2 hu q
 ·obtain⟨l1,i1,e1',t1,s1⟩:=tup_atI r6 hi
  obtain⟨l2,i2,e2',t2,s2⟩:=tup_atI r6 hj
  rw [e1',e2']
  exact keyLt_tupI t1 t2 s1 s2 hu q
 ·obtain⟨rfl,hc⟩:=hκ
  refine wpAny_bind (wpAny_mono (main κ hc) (fun x s' hx=>?_) fun _ _ z=>z)
  obtain⟨x1,x⟩:=x
  obtain⟨rfl,hf,hx⟩:=hx
  refine wpAny_bind (seqEpoch_at ho6 rfl ?_)
  have hx:(arrOf x).map (·.2)=((srtI ks).map fun i=>vs.getD i .none).toArray:=hx
  have hls:(srtI ks).length=ks.length:=by rw [(srtI_perm (by omega)).length_eq,List.length_range]
  dsimp only
  rw [hx]
  refine wpAny_bind (listUpdate_at ho6 rfl ?_ (Nat.zero_le _) (by rw [List.size_toArray,List.length_map,hls];omega))
  have hf:failedOf x=none:=hf
  rw [hf]
  simp only [bne_self_eq_false,Bool.false_eq_true,if_false]
  refine wpAny_pure (h _ _ (get?_update_seq ho6 fun _=>_) fun b o hb e=>?_)
  rw [Heap.get?_update_ne _ _ _ _ hb]
  exact kp b o hb e
end
end L2
namespace L2
open PySem PySem.Spec PyProof.Rows
def hashI (ks:List Int):Int:=reduceHash (Builtin.Tuple.tupleHashOf (ks.map fun i=>hashInt i))
abbrev SetP:=Array (Int×List Int)×SetTable
def srchS (es:Array (Int×List Int))(t:SetTable)(h:Int)(k:List Int):Option (Option Nat):=if t.gaveWay=true then none else match t.probe (fun (i:Nat)=>(es[i]?.map (·.1)).getD (0:Int)) h (t.probeStart h) with
 | some (.empty j none)=>some (some j)
 | some (.candidate j i next)=>match es[i]? with
  | some y=>if y.2=k then some none else none
  | none=>none
 | _=>none
def fitS (es:Array (Int×List Int))(t:SetTable):Bool:=t.fits es.size&&decide (es.size<=1000)
def addS (k:List Int)(s:SetP):Option SetP:=if fitS s.1 s.2=true then match srchS s.1 s.2 (hashI k) k with
 | some none=>some s
 | some (some j)=>if fitS (SetTable.insertAt s.1 (s.2.put j).2 (hashI k,k)) (s.2.put j).1=true/\(s.2.put j).1.tooFull=false then some (SetTable.insertAt s.1 (s.2.put j).2 (hashI k,k),(s.2.put j).1) else none
 | none=>none else none
def addsS:List (List Int)->SetP->Option SetP
 | [],s=>some s
 | k::ks,s=>(addS k s).bind (addsS ks)
def unlikeT (led:Bool)(ks:List (List Int)):Option Nat:=(addsS ks (#[],.fresh 0 0 led)).map fun s=>s.1.size
section
variable {prog:Program}{w:World}{A:Around}{E:Value->Shared->Prop}{s:Shared}
def TupK (prog:Program)(w:World)(h:Heap)(k:List Int)(b:Addr):Prop:=IsTupleKey (intKind prog w) h k b
theorem byValue_tup {k:List Int}{b:Addr}{Q:Bool->Shared->Prop}(hk:TupK prog w s.heap k b)(h:Q true s):wpAny (model prog w) A (hashByValue 8 (.ref b)) Q E s:=by
 have hT:s.TypeIs (.ref b) "tuple":=IsTupleKey.typeIs hk
 obtain⟨o,items,n,ho,_,hd,hi⟩:=hk
 unfold hashByValue
 refine wpAny_bind (wpAny_specialOf hT F.slot_tuple_hash.lookup ?_)
 refine wpAny_bind (wpAny_seqItems ho hd ?_)
 refine wpAny_bind ?_
 show wpAny _ _ (forIn items _ _) _ _ s
 rw [<-Array.forIn_toList]
 refine wpAny_forIn_list _ (fun rest r s'=>r.1=none/\s'=s/\∃ks,ItemsAre (intKind prog w) ks rest) _ ?_ ?_ _ _ ⟨rfl,rfl,k,hi⟩
 ·rintro v rest r s' ⟨hr,rfl,ks,hks⟩
  cases hks with
  | cons h1 h2=>
   obtain⟨t,rfl⟩:=Value.isInt_shape h1
   refine wpAny_bind (wpAny_pure ?_)
   exact wpAny_pure ⟨rfl,rfl,_,h2⟩
 ·rintro⟨r1,r2⟩ s' ⟨hr,rfl,_⟩
  simp only at hr
  subst hr
  exact wpAny_pure h
theorem noClass_tup {k:List Int}{b:Addr}{Q:Bool->Shared->Prop}(hk:TupK prog w s.heap k b)(h:Q false s):wpAny (model prog w) A (ofAClassStatement 8 (.ref b)) Q E s:=by
 have hT:s.TypeIs (.ref b) "tuple":=IsTupleKey.typeIs hk
 obtain⟨o,items,n,ho,_,hd,hi⟩:=hk
 unfold ofAClassStatement
 refine wpAny_bind (wpAny_typeOf hT ?_)
 refine wpAny_bind (wpAny_pure ?_)
 refine wpAny_bind (wpAny_seqItems ho hd ?_)
 refine wpAny_bind ?_
 show wpAny _ _ (forIn items _ _) _ _ s
 rw [<-Array.forIn_toList]
 refine wpAny_forIn_list _ (fun rest r s'=>r.1=none/\s'=s/\∃ks,ItemsAre (intKind prog w) ks rest) _ ?_ ?_ _ _ ⟨rfl,rfl,k,hi⟩
 ·rintro v rest r s' ⟨hr,rfl,ks,hks⟩
  cases hks with
  | cons h1 h2=>
   obtain⟨t,rfl⟩:=Value.isInt_shape h1
   refine wpAny_bind (wpAny_pure ?_)
   exact wpAny_pure ⟨rfl,rfl,_,h2⟩
 ·rintro⟨r1,r2⟩ s' ⟨hr,rfl,_⟩
  simp only at hr
  subst hr
  exact wpAny_pure h
theorem unseen_tup {k:List Int}{b:Addr}{l:List Value}{Q:Bool->Shared->Prop}(hk:TupK prog w s.heap k b)(hl:∀v∈l,∃k' b',v = .ref b'/\TupK prog w s.heap k' b')(h:Q false s):wpAny (model prog w) A (searchCouldBeSeen (.ref b) l) Q E s:=by
 unfold searchCouldBeSeen
 refine wpAny_bind ?_
 refine wpAny_forIn_list _ (fun rest r s'=>r.1=none/\s'=s/\∀v∈rest,∃k' b',v = .ref b'/\TupK prog w s.heap k' b') _ ?_ ?_ _ _ ⟨rfl,rfl,hl⟩
 ·rintro v rest r s' ⟨hr,rfl,hall⟩
  obtain⟨k',b',rfl,hb⟩:=hall v List.mem_cons_self
  have rest':∀v∈rest,∃k' b',v = .ref b'/\TupK prog w s'.heap k' b':=fun u hu=>hall u (List.mem_cons_of_mem _ hu)
  dsimp only
  split
  ·exact wpAny_pure ⟨rfl,rfl,rest'⟩
  ·refine wpAny_bind (wpAny_eqIsQuiet_tuple hk ?_)
   refine wpAny_bind (wpAny_eqIsQuiet_tuple hb ?_)
   refine wpAny_bind (noClass_tup hk ?_)
   refine wpAny_bind (noClass_tup hb ?_)
   exact wpAny_pure ⟨rfl,rfl,rest'⟩
 ·rintro⟨r1,r2⟩ s' ⟨hr,rfl,_⟩
  simp only at hr
  subst hr
  exact wpAny_pure h
def SetAt (prog:Program)(w:World)(h:Heap)(S:Addr)(P:SetP):Prop:=∃o es ep,h.get? S=some o/\o.ExactSet/\o.data = .set es ep P.2/\fitS P.1 P.2=true/\Paired (fun (e:Int×Value) (x:Int×List Int)=>e.1=x.1/\∃b,e.2 = .ref b/\TupK prog w h x.2 b) es.toList P.1.toList
theorem insertAt_list {α:Type}(xs:Array α)(p:Nat)(x:α):(SetTable.insertAt xs p x).toList=xs.toList.take p++x::xs.toList.drop p:=by
 unfold SetTable.insertAt
 simp
 rw [List.take_of_length_le (by simp)]
theorem paired_take {α β:Type}{F:α->β->Prop}:∀{l:List α} {m:List β},Paired F l m->∀p,Paired F (l.take p) (m.take p)
 | _,_,.nil,p=>by simpa using Paired.nil
 | _,_,.cons h t,0=>.nil
 | _,_,.cons h t,p+1=>.cons h (paired_take t p)
theorem paired_drop {α β:Type}{F:α->β->Prop}:∀{l:List α} {m:List β},Paired F l m->∀p,Paired F (l.drop p) (m.drop p)
 | _,_,.nil,p=>by simpa using Paired.nil
 | _,_,.cons h t,0=>.cons h t
 | _,_,.cons h t,p+1=>paired_drop t p
theorem paired_join {α β:Type}{F:α->β->Prop}:∀{l₁ l₂:List α} {m₁ m₂:List β},Paired F l₁ m₁->Paired F l₂ m₂->Paired F (l₁++l₂) (m₁++m₂)
 | _,_,_,_,.nil,s=>s
 | _,_,_,_,.cons r t,s=>.cons r (paired_join t s)
theorem TupK.keep {h h':Heap}{k:List Int}{b S:Addr}{o:Obj}{es:Array (Int×Value)}{ep:Nat}{t:SetTable}(x:TupK prog w h k b)(ho:h.get? S=some o)(hd:o.data = .set es ep t)(hs:∀b o,b≠S->h.get? b=some o->h'.get? b=some o):TupK prog w h' k b:=by
 obtain⟨o',items,n,ho',hc,hd',hi⟩:=x
 have hne:b≠S:=by
  rintro rfl
  obtain rfl:o'=o:=Option.some.inj (ho'.symm.trans ho)
  rw [hd] at hd';exact nomatch hd'
 exact⟨o',items,n,hs b _ hne ho',hc,hd',hi⟩
def fndS:Option Nat->SetFound
 | none=>.there none
 | some j=>.free j false
theorem srch_ok {S b:Addr}{k:List Int}{P:SetP}{r:Option Nat}{Q:SetFound->Shared->Prop}(hu:A.units<cLine)(hS:SetAt prog w s.heap S P)(hk:TupK prog w s.heap k b)(hr:srchS P.1 P.2 (hashI k) k=some r)
 (h:Q (fndS r) s):wpAny (model prog w) A (setSearch S (.ref b) (hashI k) true) Q E s:=by
 obtain⟨o,es,ep,ho,hx,hd,hf,hp⟩:=hS
 have hl:es.size=P.1.size:=by have:=Paired.length hp;simpa using this
 have hfit:P.2.fits es.size=true:=by rw [hl];unfold fitS at hf;rw [Bool.and_eq_true] at hf;exact hf.1
 have hat:(fun (i:Nat)=>(es[i]?.map (·.1)).getD (0:Int))=fun (i:Nat)=>(P.1[i]?.map (·.1)).getD (0:Int):=by
  funext i
  rw [<-Array.getElem?_toList,<-Array.getElem?_toList]
  cases e1:es.toList[i]? with
  | none=>
   have:P.1.toList[i]?=none:=by rw [List.getElem?_eq_none_iff] at e1 ⊢;rw [<-Paired.length hp];exact e1
   rw [this];rfl
  | some y=>
   obtain⟨x,e2,e3,_⟩:=paired_at hp e1
   rw [e2]
   show y.1=x.1
   exact e3
 unfold setSearch
 rw [show (100000:Nat)=99999+1 from rfl]
 unfold setSearchFrom
 refine wpAny_bind (wpAny_setState_of ho hd hfit ?_)
 dsimp only
 unfold srchS at hr
 split at hr
 ·cases hr
 ·rename_i hg
  rw [if_neg hg]
  split
  rotate_left
  ·rename_i heq
   have e2:P.2.probe (fun (i:Nat)=>(es[i]?.map (·.1)).getD (0:Int)) (hashI k) (P.2.probeStart (hashI k))=none:=by
    cases e3:P.2.probe (fun (i:Nat)=>(es[i]?.map (·.1)).getD (0:Int)) (hashI k) (P.2.probeStart (hashI k)) with
    | none=>rfl
    | some m=>exact absurd e3 (heq m)
   rw [hat] at e2
   rw [e2] at hr
   cases hr
  rename_i met heq
  have e2:P.2.probe (fun (i:Nat)=>(es[i]?.map (·.1)).getD (0:Int)) (hashI k) (P.2.probeStart (hashI k))=some met:=heq
  rw [hat] at e2
  rw [e2] at hr
  cases met with
  | empty j d=>
   cases d with
   | none=>cases hr;exact wpAny_pure h
   | some d=>cases hr
  | candidate j i next=>
   dsimp only at hr
   split at hr
   ·rename_i y ey
    split at hr
    ·rename_i hy
     cases hr
     obtain⟨z,ez⟩:∃z,es[i]?=some z:=by
      have:i<P.1.size:=(Array.getElem?_eq_some_iff.mp ey).1
      exact⟨es[i],by simp [hl,this]⟩
     have ez':es.toList[i]?=some z:=by rw [Array.getElem?_toList];exact ez
     obtain⟨x,e2,e3,b',e4,tb⟩:=paired_at hp ez'
     have:x=y:=by rw [Array.getElem?_toList,ey] at e2;exact (Option.some.inj e2).symm
     subst this
     have all:∀v∈(es.filter (·.1==hashI k)).toList.map (·.2),∃k' b',v = .ref b'/\TupK prog w s.heap k' b':=fun v hv=>by
      obtain⟨q,hq,rfl⟩:=List.mem_map.mp hv
      have hq:q∈es:=(Array.mem_filter.mp (Array.mem_toList_iff.mp hq)).1
      obtain⟨m,hm⟩:=Array.mem_iff_getElem?.mp hq
      have hm':es.toList[m]?=some q:=by rw [Array.getElem?_toList];exact hm
      obtain⟨x',_,_,b'',e5,t5⟩:=paired_at hp hm'
      exact⟨_,b'',e5,t5⟩
     obtain⟨z1,z2⟩:=z
     have e4:z2=Value.ref b':=e4
     subst e4
     have fin:∀C:Bool->Array (Int×Value)×Nat×SetTable->Sem SetFound,wpAny (model prog w) A (holding [Value.ref b'] (eqBool (Value.ref b') (.ref b)) >>= fun equal=>setState S >>= fun x=>if (true&&equal)=true then pure (SetFound.there none) else C equal x) Q E s:=fun C=>by
      refine wpAny_bind (wpAny_holding (wpAny_eqBool_tuple (knd:=intKind prog w) hu tb hk ?_))
      rw [decide_eq_true hy]
      exact wpAny_bind (wpAny_setState_of ho hd hfit (wpAny_pure h))
     dsimp only
     by_cases hled:(!P.2.led)=true
     ·rw [if_pos hled]
      refine wpAny_bind (unseen_tup hk all ?_)
      rw [if_neg (by decide),ez]
      exact fin _
     ·rw [if_neg hled,ez]
      exact fin _
    ·cases hr
   ·cases hr
theorem add_tup {S b:Addr}{k:List Int}{P P':SetP}{Q:Shared->Prop}(hu:A.units<cLine)(hS:SetAt prog w s.heap S P)(hk:TupK prog w s.heap k b)(ha:addS k P=some P')
 (h:∀h' tk,s.toks<=tk->SetAt prog w h' S P'->(∀b o,b≠S->s.heap.get? b=some o->h'.get? b=some o)->Q { s with heap:=h',toks:=tk }):wpAny (model prog w) A (setAdd S (.ref b)) (fun _ s'=>Q s') E s:=by
 unfold setAdd
 refine wpAny_holding (wpAny_bind (wpAny_pyHash_tuple (knd:=intKind prog w) hu hk ?_))
 show wpAny _ _ (setAddHashed S (.ref b) (hashI k)) _ _ _
 unfold setAddHashed
 refine wpAny_holding ?_
 rw [show (100000:Nat)=99999+1 from rfl]
 unfold setAddHashedIn
 obtain⟨o,es,ep,ho,hx,hd,hf,hp⟩:=id hS
 have hl:es.size=P.1.size:=by have:=Paired.length hp;simpa using this
 have hfit:P.2.fits es.size=true:=by rw [hl];unfold fitS at hf;rw [Bool.and_eq_true] at hf;exact hf.1
 refine wpAny_bind (wpAny_setState_of (s:={ s with toks:=s.toks+(k.length+1) }) ho hd hfit ?_)
 dsimp only
 rw [if_neg (by unfold byScan;simp [Value.scannable])]
 unfold addS at ha
 rw [if_pos hf] at ha
 split at ha
 ·rename_i e
  cases ha
  exact wpAny_bind (srch_ok (s:={ s with toks:=s.toks+(k.length+1) }) hu hS hk e (wpAny_pure (h s.heap _ (Nat.le_add_right _ _) hS fun _ _ _ z=>z)))
 ·rename_i j e
  split at ha
  ·rename_i hg
   cases ha
   refine wpAny_bind (srch_ok (s:={ s with toks:=s.toks+(k.length+1) }) hu hS hk e ?_)
   refine wpAny_bind (wpAny_setState_of (s:={ s with toks:=s.toks+(k.length+1) }) ho hd hfit ?_)
   dsimp only
   have hz:(SetTable.insertAt es (P.2.put j).2 (hashI k,Value.ref b)).size=(SetTable.insertAt P.1 (P.2.put j).2 (hashI k,k)).size:=by
    rw [<-Array.length_toList,<-Array.length_toList,insertAt_list,insertAt_list]
    simp [hl]
   have hf2:=hg.1
   unfold fitS at hf2
   rw [Bool.and_eq_true,decide_eq_true_eq,<-hz] at hf2
   have st:∀s1:Shared,s1={ s with toks:=s.toks+(k.length+1) }->wpAny (model prog w) A (storeSet S (SetTable.insertAt es (P.2.put j).2 (hashI k,Value.ref b)) (P.2.put j).1) (fun _ s'=>Q s') E s1:=by
    rintro s1 rfl
    refine wpAny_storeSet_of (s:={ s with toks:=s.toks+(k.length+1) }) ho hd ?_ (Nat.le_trans hf2.2 (by decide))
    have hob:=putSet_of (SetTable.insertAt es (P.2.put j).2 (hashI k,Value.ref b)) (P.2.put j).1 hd
    have gS:(s.heap.update S (Obj.putSet (SetTable.insertAt es (P.2.put j).2 (hashI k,Value.ref b)) (P.2.put j).1)).get? S=some { o with data:=.set (SetTable.insertAt es (P.2.put j).2 (hashI k,Value.ref b)) (ep+1) (P.2.put j).1 }:=by
     rw [<-hob]
     refine Heap.get?_update_self _ ho ?_
     rw [hob]
     rfl
    have go:∀b' o',b'≠S->s.heap.get? b'=some o'->(s.heap.update S (Obj.putSet (SetTable.insertAt es (P.2.put j).2 (hashI k,Value.ref b)) (P.2.put j).1)).get? b'=some o':=fun b' o' hb e=>by
     rw [Heap.get?_update_ne _ _ _ _ hb];exact e
    refine h _ _ (Nat.le_add_right _ _) ⟨_,_,ep+1,gS,hx,rfl,hg.1,?_⟩ go
    rw [insertAt_list,insertAt_list]
    have hp':=Paired.mapP hp fun e x (q:e.1=x.1/\∃b,e.2 = .ref b/\TupK prog w s.heap x.2 b)=>(⟨q.1,let ⟨b',q1,q2⟩:=q.2;⟨b',q1,q2.keep ho hd go⟩⟩:e.1=x.1/\∃b,e.2 = .ref b/\TupK prog w _ x.2 b)
    exact paired_join (paired_take hp' _) (.cons ⟨rfl,b,rfl,TupK.keep hk ho hd go⟩ (paired_drop hp' _))
   have fin:wpAny (model prog w) A (storeSet S (SetTable.insertAt es (P.2.put j).2 (hashI k,Value.ref b)) (P.2.put j).1 >>= fun _=>if (!false&&(P.2.put j).1.tooFull)=true then setRelay S (SetTable.grown (es.size+1)) >>= fun _=>pure true else pure true) (fun _ s'=>Q s') E { s with toks:=s.toks+(k.length+1) }:=by
    refine wpAny_bind (wpAny_mono (st _ rfl) (fun _ s' q=>?_) fun _ _ z=>z)
    rw [hg.2]
    exact wpAny_pure q
   by_cases hpl:(P.2.put j).1.plain=true
   ·rw [if_pos hpl]
    exact wpAny_bind (byValue_tup (s:={ s with toks:=s.toks+(k.length+1) }) hk fin)
   ·rw [if_neg hpl]
    exact wpAny_bind (wpAny_pure fin)
  ·cases ha
 ·cases ha
end
section
variable {prog:Program}{w:World}{A:Around}{E:Value->Shared->Prop}{s:Shared}
theorem TupK.to {h h':Heap}{k:List Int}{b:Addr}(x:TupK prog w h k b)(hs:∀o,h.get? b=some o->o.cls = .type "tuple"->h'.get? b=some o):TupK prog w h' k b:=by
 obtain⟨o',items,n,ho',hc,hd',hi⟩:=x
 exact⟨o',items,n,hs _ ho' hc,hc,hd',hi⟩
theorem set_loop {l I S:Addr}{items:Array Value}{ks:List (List Int)}{R:Result->Shared->Prop}(hh:A.in1.handled=none)(hu:A.in1.units<cLine)(hlen:ks.length=items.size)(n1:I≠S)(n2:l≠S)(n3:l≠I):∀(j i:Nat) (s:Shared) (P P':SetP),items.size-i=j->i<=items.size ->
 s.heap.IsListIter I l i->s.heap.IsList l items->(∀(m:Nat) v,items[m]?=some v->∃b,v = .ref b/\TupK prog w s.heap (ks.getD m []) b)->SetAt prog w s.heap S P->addsS (ks.drop i) P=some P' ->
 (∀h' tk,SetAt prog w h' S P'->(∀b o,b≠S->b≠I->s.heap.get? b=some o->h'.get? b=some o)->R (.ok (.ret .none)) { s with heap:=h',toks:=tk }) ->
 codeAny (model prog w) A (.builtin "set.update.loop" ⟨[.ref S,.ref I],[]⟩) R s:=by
 have keepS:∀{h h':Heap} {P:SetP},(∀b o,b≠I->h.get? b=some o->h'.get? b=some o)->(∀b o,h.get? b=some o->o.cls = .type "tuple"->b≠I)->SetAt prog w h S P->SetAt prog w h' S P:=fun {h h' P} hk hI hS=>by
  obtain⟨o,es,ep,ho,hx,hd,hf,hp⟩:=hS
  refine⟨o,es,ep,hk S o (Ne.symm n1) ho,hx,hd,hf,Paired.mapP hp fun e x (q:e.1=x.1/\∃b,e.2 = .ref b/\TupK prog w h x.2 b)=>(⟨q.1,let ⟨b',q1,q2⟩:=q.2;⟨b',q1,q2.to fun o h1 h2=>hk b' o (hI b' o h1 h2) h1⟩⟩:e.1=x.1/\∃b,e.2 = .ref b/\TupK prog w h' x.2 b)⟩
 have itI:∀{h:Heap} {i:Nat},h.IsListIter I l i->∀b o,h.get? b=some o->o.cls = .type "tuple"->b≠I:=fun {h i} it b o h1 h2 z=>by
  obtain⟨oi,e1,e2,_⟩:=it
  subst z
  rw [h1] at e1
  have h1:=Option.some.inj e1
  rw [<-h1,h2] at e2
  exact absurd e2 (by decide)
 intro j
 induction j with
 | zero=>
  intro i s P P' hj hi hit hl htk hS ha hR
  have ei:i=items.size:=by omega
  subst ei
  refine codeAny_builtin PyProof.Rows.F.entry_set_update_loop ?_
  rw [Around.under_plainId PyProof.Rows.F.plain_set_update_loop _]
  show wpAny _ A.in1 (pyNext (.ref I) >>= _) _ _ s
  refine wpAny_bind (wpAny_pyNext_list_end hh hit hl (by simp) fun h' he=>?_)
  rw [<-hlen,List.drop_length] at ha
  cases ha
  exact wpAny_pure (hR h' s.toks (keepS (fun b o hb e=>he b o hb e) (itI hit) hS) fun b o _ hb e=>he b o hb e)
 | succ j ih=>
  intro i s P P' hj hi hit hl htk hS ha hR
  have hlt:i<items.size:=by omega
  obtain⟨b,eb,tb⟩:=htk i items[i] (by simp [hlt])
  have ek:ks.drop i=ks.getD i []::ks.drop (i+1):=by
   rw [List.drop_eq_getElem_cons (by omega),List.getD_eq_getElem?_getD,List.getElem?_eq_getElem (by omega)]
   rfl
  rw [ek] at ha
  obtain⟨P1,ha1,ha2⟩:=Option.bind_eq_some_iff.mp ha
  refine codeAny_builtin PyProof.Rows.F.entry_set_update_loop ?_
  rw [Around.under_plainId PyProof.Rows.F.plain_set_update_loop _]
  show wpAny _ A.in1 (pyNext (.ref I) >>= _) _ _ s
  refine wpAny_bind (wpAny_pyNext_list_item hit hl (x:=items[i]) (by simp [hlt]) fun h1 it1 sb1=>?_)
  rw [eb]
  have k1:∀b o,b≠I->s.heap.get? b=some o->h1.get? b=some o:=fun b o hb e=>(sb1.2 b hb).trans e
  have tk1:∀(m:Nat) v,items[m]?=some v->∃b,v = .ref b/\TupK prog w h1 (ks.getD m []) b:=fun m v hv=>by
   obtain⟨b',e1,e2⟩:=htk m v hv
   exact⟨b',e1,e2.to fun o z1 z2=>k1 b' o (itI hit b' o z1 z2) z1⟩
  refine wpAny_bind (wpAny_holding (add_tup (s:={ s with heap:=h1 }) hu (keepS k1 (itI hit) hS) (tb.to fun o z1 z2=>k1 b o (itI hit b o z1 z2) z1) ha1 fun h2 tk _ hS2 k2=>?_))
  refine wpAny_pure ⟨plainId_quiet PyProof.Rows.F.plain_set_update_loop _,ih (i+1) { s with heap:=h2,toks:=tk } P1 P' (by omega) hlt ?_ ?_ (fun m v hv=>?_) hS2 ha2 fun h' tk' hS' k'=>hR h' tk' hS' fun b o hb1 hb2 e=>k' b o hb1 hb2 (k2 b o hb1 (k1 b o hb2 e))⟩
  ·obtain⟨oi,z1,z2,z3⟩:=it1
   exact⟨oi,k2 I oi n1 z1,z2,z3⟩
  ·obtain⟨ol,z1,z2,z3⟩:=hl
   exact⟨ol,k2 l ol n2 (k1 l ol n3 z1),z2,z3⟩
  ·obtain⟨b',e1,e2⟩:=tk1 m v hv
   obtain⟨o,es,ep,ho,hx,hd,_⟩:=hS
   refine⟨b',e1,e2.to fun o' z1 z2=>k2 b' o' (fun z=>?_) z1⟩
   subst z
   have:=k1 b' o (Ne.symm n1) ho
   rw [z1] at this
   rw [Option.some.inj this,hx.1] at z2
   exact absurd z2 (by decide)
theorem call_set_tup {l:Addr}{items:Array Value}{ks:List (List Int)}{Q:Value->Shared->Prop}(hh:A.handled=none)(hu:A.units+3<cLine)(hl:s.heap.IsList l items)(hlen:ks.length=items.size)(htk:∀(m:Nat) v,items[m]?=some v->∃b,v = .ref b/\TupK prog w s.heap (ks.getD m []) b)
 (h:∀led h' tk P',(∀led',(unlikeT led' ks).isSome=true)->addsS ks (#[],.fresh 0 0 led)=some P'->SetAt prog w h' s.heap.objs.size P'->(∀b o,s.heap.get? b=some o->h'.get? b=some o)->Q (.ref s.heap.objs.size) { s with heap:=h',toks:=tk })
 (hun:∀led,(unlikeT led ks).isSome=true):wpAny (model prog w) A (call (.type "set") [.ref l]) Q E s:=by
 obtain⟨c,tl,hmro⟩:=F.called_set.mro
 have hmade:=F.called_set.made
 have hsub:=F.called_set.sub
 refine wpAny_call (codeAny_of_tree ?_)
 show wpAny _ _ (callAny (.type "set") _) _ _ _
 refine wpAny_pure ⟨Code.quiet_builtin _ (by decide +kernel),codeAny_builtin F.entry_type_call ?_⟩
 rw [Around.under_plain (weight_type_call_type "set" [.ref l] []) rfl]
 have h1:=F.called_set.notType
 have h2:=F.called_set.canCreate
 have hct:=F.typeCall_set_1 (.ref l)
 repeat (any_goals (first | assumption | wp_step))
 refine codeAny_mono (code_set_new_1 (.ref l) (E:=E) (Q₁:=fun obj s₁=>∃led:Bool,obj = .ref s.heap.objs.size/\s₁={ s with heap:=s.heap.push { cls:=.type "set",dict:=none,data:=.set #[] 0 (.fresh 0 0 led) } }) fun led=>⟨led,rfl,rfl⟩) fun r s₁ hr=>?_
 cases r with
 | error e=>exact hr
 | ok fl=>
  cases fl with
  | ret obj=>
   obtain⟨led,rfl,rfl⟩:=hr
   generalize hH:s.heap.push { cls:=.type "set",dict:=none,data:=.set #[] 0 (.fresh 0 0 led) }=H1
   have hS:H1.get? s.heap.objs.size=some { cls:=.type "set",dict:=none,data:=.set #[] 0 (.fresh 0 0 led) }:=by rw [<-hH];exact Heap.get?_push_size _ rfl
   have kp:∀b o,s.heap.get? b=some o->H1.get? b=some o:=fun b o e=>by rw [<-hH];exact Heap.get?_push_of_some _ e
   have hz:H1.objs.size=s.heap.objs.size+1:=by rw [<-hH,Heap.size_push]
   have hT:Shared.TypeIs { s with heap:=H1 } (.ref s.heap.objs.size) "set":=⟨_,hS,rfl⟩
   have hli:=F.called_set.init.lookup
   have hbi:=F.called_set.init.bind (.ref s.heap.objs.size)
   repeat (any_goals (first | assumption | wp_step))
   obtain⟨P',hP⟩:∃P',addsS ks (#[],.fresh 0 0 led)=some P':=by
    have:=hun led
    unfold unlikeT at this
    cases e:addsS ks (#[],.fresh 0 0 led) with
    | none=>rw [e] at this;cases this
    | some P'=>exact⟨P',rfl⟩
   refine codeAny_mono (codeAny_call_builtin (R:=wants (fun r s₂=>r = .none/\∃h' tk,s₂={ s with heap:=h',toks:=tk }/\SetAt prog w h' s.heap.objs.size P'/\(∀b o,s.heap.get? b=some o->h'.get? b=some o)) E) F.called_set.init.plain F.entry_set_init (check_set_init_1 hT ?_)) fun r₂ s₂ hr₂=>?_
   ·obtain⟨ol,hol,hcl,nl,hdl⟩:=hl
    obtain⟨ocls,odict,odata,oslots⟩:=ol
    simp only at hcl hdl
    subst hcl hdl
    have hol':=kp _ _ hol
    have hsls:=F.sub_list_set
    have hslf:=F.sub_list_frozenset
    have hne:(Value.type "list" == Value.type "dict")=false:=by decide
    have hl1:H1.IsList l items:=⟨_,hol',rfl,nl,rfl⟩
    unfold Builtin.«set.__init__» noKeywords Builtin.Frozenset.updateFrom
    generalize hPI:pyIter=PI
    wp_walk
    subst hPI
    refine wpAny_pyIter_list hl1 (wpAny_bind (wpAny_runValue ?_))
    have hlS:l<s.heap.objs.size:=Heap.lt_size hol
    have kp2:∀b o,s.heap.get? b=some o->(H1.push { cls:=.type "list_iterator",data:=.fields #[.ref l,.int 0 0] }).get? b=some o:=fun b o e=>Heap.get?_push_of_some _ (kp b o e)
    refine set_loop (l:=l) (I:=H1.objs.size) (ks:=ks) (by simp [hh]) (show A.units+3<cLine from hu) hlen (by rw [hz];exact Nat.succ_ne_self _) (Nat.ne_of_lt hlS) (by rw [hz];exact Nat.ne_of_lt (Nat.lt_succ_of_lt hlS)) items.size 0 _ (#[],.fresh 0 0 led) P' (by simp) (Nat.zero_le _) ⟨_,Heap.get?_push_size _ rfl,rfl,rfl⟩ (hl1.push _) (fun m v hv=>?_) ⟨_,#[],0,Heap.get?_push_of_some _ hS,⟨rfl,rfl,rfl⟩,rfl,by cases led<;>decide,.nil⟩ (by rw [List.drop_zero];exact hP) fun h' tk hS' k'=>?_
    ·obtain⟨b,e1,e2⟩:=htk m v hv
     exact⟨b,e1,e2.to fun o z _=>kp2 b o z⟩
    ·refine wpAny_pure (wpAny_pure ⟨rfl,h',tk,rfl,hS',fun b o e=>?_⟩)
     have:=Heap.lt_size e
     exact k' b o (Nat.ne_of_lt this) (by rw [hz];exact Nat.ne_of_lt (Nat.lt_succ_of_lt this)) (kp2 b o e)
   ·cases r₂ with
    | error e=>exact hr₂
    | ok fl₂=>
     cases fl₂ with
     | ret r=>
      obtain⟨rfl,h',tk,rfl,hS',hk'⟩:=hr₂
      repeat (any_goals (first | assumption | wp_step))
      exact h led h' tk P' hun hP hS' hk'
     | next=>exact hr₂
     | brk=>exact hr₂
     | cont=>exact hr₂
  | next=>exact hr
  | brk=>exact hr
  | cont=>exact hr
end
end L2
namespace L2
open PySem PySem.Spec PyProof.Rows HT
theorem vals_map {ys:List V}{us:List Value}(r:Vals ys us)(p:List Nat)(h:∀i∈p,i<ys.length):Vals (p.map fun i=>ys.getD i .non) (p.map fun i=>us.getD i .none):=by
 induction p with
 | nil=>exact .nil
 | cons i p ih=>
  refine .cons ?_ (ih fun j hj=>h j (List.mem_cons_of_mem _ hj))
  have hi:=h i List.mem_cons_self
  obtain⟨u,e1,e2⟩:=r.get (show ys[i]?=some ys[i] by simp [hi])
  show RelV (ys.getD i .non) (us.getD i .none)
  rw [List.getD_eq_getElem?_getD,List.getD_eq_getElem?_getD,e1,List.getElem?_eq_getElem hi]
  exact e2
section
variable {X:Cx}
end
def TupsAt (K:PySem.W.Frag)(H:Hp)(a:Addr)(bs:List Addr)(ks:List (List Int)):Prop:=SqL K H a (bs.map V.ref)/\Paired (fun b k=>H b=some (.tup (k.map V.int))) bs ks
theorem srtI_one (k:List Int):srtI [k]=[0]:=rfl
theorem vals_refs:∀{bs:List Addr} {us:List Value},Vals (bs.map V.ref) us->us=bs.map Value.ref
 | [],_,.nil=>rfl
 | b::bs,_,.cons r t=>by cases r;rw [vals_refs t];rfl
section
variable {X:Cx}
theorem tup_isTup {pins:List (Addr×Obj)}{σ:St}{H:Hp}{s:Shared}(I:Inv X pins σ H s){b:Addr}{k:List Int}(h:H b=some (.tup (k.map V.int))):∃its:List Value,IntsAre its k/\IsTup s.heap b its.toArray:=by
 obtain⟨_,its,r,p⟩:=(show ObjOk X.prog X.w H s.heap b (.tup (k.map V.int)) from I.hok b _ h)
 exact⟨its,ints_vals r,p⟩
theorem call_sortedL (hu:X.A.units+2<cLine):CallR X (.builtin "sorted") (fun xs H Q=>∃a bs ks,xs=[V.ref a]/\TupsAt X.K H a bs ks/\ks.length<64/\∀l,H l=none->Q (.ref l) (upd H l (.lst ((srtI ks).map fun i=>(bs.map V.ref).getD i .non)))):=by
 intro pins s σ H xs us Q I r h
 obtain⟨a,bs,ks,rfl,⟨ha,hp⟩,h64,q⟩:=h
 obtain⟨u,rfl,ru⟩:=vals1 r
 cases ru
 obtain⟨its,rv,p,hz⟩:=I.list ha
 have ei:=vals_refs rv
 have hl:its.length=ks.length:=by rw [ei,List.length_map];exact Paired.length hp
 have sl:64<=sizeLine:=by decide
 refine Calls.call_function_entry kind_sorted plain_sorted entry_sorted (args_sorted1 _) ?_
 unfold Builtin.«sorted»
 refine wpAny_bind (m:=checkCount "sorted" 1 1 _) (wpAny_pure ?_)
 refine wpAny_bind (collect_list p.isList ?_ (by omega))
 generalize hH:(s.heap.push (seqObj "list" #[] 0)).update s.heap.objs.size (Obj.mapSeq (· ++ its.toArray))=h'
 have hk:∀b o,s.heap.get? b=some o->h'.get? b=some o:=fun b o e=>by
  rw [<-hH,Heap.get?_update_ne _ _ _ _ (Nat.ne_of_lt (Heap.lt_size e))]
  exact Heap.get?_push_of_some _ e
 have I':Inv X pins σ H { s with heap:=h' }:=I.kept (t':=s.toks) hk
 refine wpAny_bind (wpAny_newList ?_ (by omega))
 have hoL:(h'.push { cls:=.type "list",data:=.seq its.toArray }).get? h'.objs.size=some (seqObj "list" its.toArray 0):=Heap.get?_push_size _ rfl
 refine wpAny_bind (wpAny_holding (wpAny_call_entry slot_list_sort ⟨_,hoL,rfl⟩ entry_list_sort ?_ (args_list_sort _)))
 have fin:∀(h'':Heap) (c':Nat),h''.get? h'.objs.size=some (seqObj "list" ((srtI ks).map fun i=>its.getD i .none).toArray c')->(∀b o,b≠h'.objs.size->(h'.push { cls:=.type "list",data:=.seq its.toArray }).get? b=some o->h''.get? b=some o)->(∀j∈srtI ks,j<ks.length)->(srtI ks).length=ks.length ->
  EP X pins σ Q (.ref h'.objs.size) { s with heap:=h'' }:=fun h'' c' hD hk2 hj hls=>by
  exact⟨.ref h'.objs.size,_,I'.laid (t':=s.toks) (fun b o e=>hk2 b o (Nat.ne_of_lt (Heap.lt_size e)) (Heap.get?_push_of_some _ e)) (Nat.le_refl _) (show ObjOk X.prog X.w _ h'' _ (.lst ((srtI ks).map fun i=>(bs.map V.ref).getD i .non)) from ⟨by rw [List.length_map,hls];omega,_,c',vals_map rv _ (fun j z=>by rw [rv.length,hl];exact hj j z),hD⟩),rfl,q _ (I'.hok.fresh (Nat.le_refl _))⟩
 by_cases h2s:2<=ks.length
 ·refine sort_manyI (ks:=ks) hoL (by omega) (by omega) (by show X.A.units+1+1<cLine;omega) ?_ fun h'' c' hD hk2=>⟨_,rfl,wpAny_pure ⟨_,rfl,?_⟩⟩
  ·have all:∀{bs:List Addr} {ks:List (List Int)},Paired (fun b k=>H b=some (.tup (k.map V.int))) bs ks->Paired (TupI (h'.push { cls:=.type "list",data:=.seq its.toArray })) (bs.map Value.ref) ks:=by
    intro bs ks hp
    induction hp with
    | nil=>exact .nil
    | @cons b k _ _ h t ih=>
     refine .cons ?_ ih
     obtain⟨is,r1,⟨o,g1,g2,g3⟩⟩:=tup_isTup I' h
     exact⟨b,is.toArray,rfl,⟨o,Heap.get?_push_of_some _ g1,g2,g3⟩,by simpa using r1⟩
   have:=all hp
   rw [<-ei] at this
   exact this
  ·have pm:=srtI_perm (ks:=ks) (by omega)
   exact fin h'' c' hD hk2 (fun j z=>by have:=pm.mem_iff.mp z;simpa using this) (by rw [pm.length_eq,List.length_range])
 ·refine sort_small hoL (by omega) fun h'' c' hD hk2=>⟨_,rfl,wpAny_pure ⟨_,rfl,?_⟩⟩
  match ks,h2s,hl,fin with
  | [],_,e,fin=>
   cases its with
   | nil=>exact fin h'' c' hD hk2 (fun j z=>by cases z) rfl
   | cons _ _=>simp at e
  | [k],_,e,fin=>
   match its,e,hD,fin with
   | [v],_,hD,fin=>exact fin h'' c' hD hk2 (fun j z=>by rw [srtI_one,List.mem_singleton] at z;rw [z];exact Nat.one_pos) rfl
  | _::_::_,e,_,_=>simp only [List.length_cons] at e;omega
def SzSet (p:Addr)(n:Nat):Heap->Prop:=fun h=>∃o es ep t,h.get? p=some o/\o.ExactSet/\o.data = .set es ep t/\t.fits es.size=true/\es.size=n/\n<=1000
theorem call_setT (hc:X.calm=true)(hu:X.A.units+3<cLine):CallR X (.type "set") (fun xs H Q=>∃a bs ks n,xs=[V.ref a]/\TupsAt X.K H a bs ks/\(∀led,unlikeT led ks=some n)/\∀p,H p=none->Q (.ref p) (upd H p (.ext (SzSet p n)))):=by
 intro pins s σ H xs us Q I r h
 obtain⟨a,bs,ks,n,rfl,⟨ha,hp⟩,hn,q⟩:=h
 obtain⟨u,rfl,ru⟩:=vals1 r
 cases ru
 obtain⟨its,rv,p,hz⟩:=I.list ha
 have ei:=vals_refs rv
 have hl:ks.length=its.toArray.size:=by rw [ei,List.size_toArray,List.length_map];exact (Paired.length hp).symm
 refine call_set_tup (I.ok.hd hc) hu p.isList hl (fun m v hv=>?_) (fun led h' tk P' _ hP hS hk=>?_) fun led=>by rw [hn led];rfl
 ·rw [ei] at hv
  have hv:(bs.map Value.ref)[m]?=some v:=by simpa using hv
  rw [List.getElem?_map] at hv
  obtain⟨b,hb,rfl⟩:=Option.map_eq_some_iff.mp hv
  obtain⟨k,hk,hH⟩:=paired_at hp hb
  obtain⟨is,r1,⟨o,g1,g2,n',g3⟩⟩:=tup_isTup I hH
  refine⟨b,rfl,o,is.toArray,n',g1,g2,g3,?_⟩
  rw [List.getD_eq_getElem?_getD,hk]
  have all:∀{vs:List Value} {ns:List Int},IntsAre vs ns->ItemsAre (intKind X.prog X.w) ns vs:=by
   intro vs ns h
   induction h with
   | nil=>exact .nil
   | cons n t _ ih=>exact .cons (intKind_is _ _ _ _) ih
  exact all r1
 ·have fr:H s.heap.objs.size=none:=I.hok.fresh (Nat.le_refl _)
  obtain⟨o,es,ep,ho,hx,hd,hf,hpp⟩:=hS
  have hsz:es.size=P'.1.size:=by have:=Paired.length hpp;simpa using this
  have hn':P'.1.size=n:=by
   have:=hn led
   unfold unlikeT at this
   rw [hP] at this
   exact Option.some.inj this
  unfold fitS at hf
  rw [Bool.and_eq_true,decide_eq_true_eq] at hf
  have z:SzSet s.heap.objs.size n h':=⟨o,es,ep,P'.2,ho,hx,hd,by rw [hsz];exact hf.1,hsz.trans hn',by rw [<-hn'];exact hf.2⟩
  refine⟨.ref s.heap.objs.size,_,I.laid (h':=h') (t':=tk) (o:=.ext (SzSet s.heap.objs.size n)) hk (Nat.le_refl _) ⟨z,⟨o,ho⟩,fun h1 h2 ⟨o,es,ep,t,y1,y2⟩ hk=>⟨o,es,ep,t,hk _ y1,y2⟩⟩,rfl,q _ fr⟩
theorem call_lenZ:CallR X (.builtin "len") (fun xs H Q=>∃(a:Addr) (n:Nat),xs=[V.ref a]/\H a=some (.ext (SzSet a n))/\Q (.int (n:Nat)) H):=by
 intro pins s σ H xs us Q I r h
 obtain⟨a,n,rfl,ha,q⟩:=h
 obtain⟨u,rfl,ru⟩:=vals1 r
 cases ru
 obtain⟨⟨o,es,ep,t,e,ex,d,ft,rfl,hz⟩,_⟩:=I.hok a _ ha
 exact call_len_set e ex d ft (by omega) ⟨.int (es.size:Nat),H,I.kept (t':=s.toks+1+1) (fun _ _ z=>z),⟨_,rfl⟩,q⟩
end
end L2
namespace RF
open PySem
inductive D where
 | non | bl (b:Bool) | int (i:Int) | str (x:Str) | tup (xs:List D) | ref (n:Nat) | kt (a:Nat)
mutual
noncomputable def D.dec:(a b:D)->Decidable (a=b)
 | .non,.non=>.isTrue rfl
 | .bl a,.bl b=>if h:a=b then .isTrue (h ▸ rfl) else .isFalse fun e=>h (by cases e;rfl)
 | .int a,.int b=>if h:a=b then .isTrue (h ▸ rfl) else .isFalse fun e=>h (by cases e;rfl)
 | .str a,.str b=>if h:a=b then .isTrue (h ▸ rfl) else .isFalse fun e=>h (by cases e;rfl)
 | .tup a,.tup b=>match D.decL a b with
  | .isTrue h=>.isTrue (h ▸ rfl)
  | .isFalse h=>.isFalse fun e=>h (by cases e;rfl)
 | .ref a,.ref b=>if h:a=b then .isTrue (h ▸ rfl) else .isFalse fun e=>h (by cases e;rfl)
 | .kt a,.kt b=>if h:a=b then .isTrue (h ▸ rfl) else .isFalse fun e=>h (by cases e;rfl)
 | .kt _,.non | .kt _,.bl _ | .kt _,.int _ | .kt _,.str _ | .kt _,.tup _ | .kt _,.ref _=>.isFalse nofun
 | .non,.kt _ | .bl _,.kt _ | .int _,.kt _ | .str _,.kt _ | .tup _,.kt _ | .ref _,.kt _=>.isFalse nofun
 | .non,.bl _ | .non,.int _ | .non,.str _ | .non,.tup _ | .non,.ref _=>.isFalse nofun
 | .bl _,.non | .bl _,.int _ | .bl _,.str _ | .bl _,.tup _ | .bl _,.ref _=>.isFalse nofun
 | .int _,.non | .int _,.bl _ | .int _,.str _ | .int _,.tup _ | .int _,.ref _=>.isFalse nofun
 | .str _,.non | .str _,.bl _ | .str _,.int _ | .str _,.tup _ | .str _,.ref _=>.isFalse nofun
 | .tup _,.non | .tup _,.bl _ | .tup _,.int _ | .tup _,.str _ | .tup _,.ref _=>.isFalse nofun
 | .ref _,.non | .ref _,.bl _ | .ref _,.int _ | .ref _,.str _ | .ref _,.tup _=>.isFalse nofun
noncomputable def D.decL:(a b:List D)->Decidable (a=b)
 | [],[]=>.isTrue rfl
 | [],_::_=>.isFalse nofun
 | _::_,[]=>.isFalse nofun
 | x::xs,y::ys=>match D.dec x y,D.decL xs ys with
  | .isTrue h1,.isTrue h2=>.isTrue (by rw [h1,h2])
  | .isFalse h,_=>.isFalse fun e=>h (by cases e;rfl)
  | _,.isFalse h=>.isFalse fun e=>h (by cases e;rfl)
end
noncomputable instance:DecidableEq D:=D.dec
inductive O where
 | lst (xs:List D) | rol (xs:List D) | dic (kvs:List (D×D)) | obj (c:Nat) (fs:List (Nat×D)) | exc (x:Nat) (p:List D)
noncomputable abbrev Store:=List O
inductive R (α:Type) where
 | ok (a:α) (S:Store) | ex (c:Nat) (pay:List D) (S:Store) | bad
noncomputable def R.bind {α β:Type}(r:R α)(f:α->Store->R β):R β:=match r with
 | .ok a S=>f a S
 | .ex c p S=>.ex c p S
 | .bad=>.bad
@[simp] theorem R.bind_ok {α β:Type}(a:α)(S:Store)(f:α->Store->R β):(R.ok a S).bind f=f a S:=rfl
noncomputable abbrev Env:=List (Option D)
noncomputable abbrev C (α:Type):=Env->Store->R α
noncomputable def C.bind {α β:Type}(c:C α)(f:α->C β):C β:=fun ρ S=>(c ρ S).bind fun a S1=>f a ρ S1
noncomputable def badC {α:Type}:C α:=fun _ _=>.bad
noncomputable def guardR {α:Type}(b:Bool)(r:R α):R α:=if b=true then r else .bad
noncomputable def itemsOf (S:Store):D->Option (List D)
 | .tup xs=>some xs
 | .ref n=>match S[n]? with
  | some (.lst xs)=>some xs
  | some (.rol xs)=>some xs
  | _=>none
 | _=>none
noncomputable def kvsOf (S:Store):D->Option (List (D×D))
 | .ref n=>match S[n]? with
  | some (.dic kvs)=>some kvs
  | _=>none
 | _=>none
noncomputable def truthD (S:Store):D->Option Bool
 | .non=>some false
 | .bl b=>some b
 | .int i=>some (i != 0)
 | .tup xs=>some (!xs.isEmpty)
 | .ref n=>match S[n]? with
  | some (.lst xs)=>some (!xs.isEmpty)
  | some (.rol xs)=>some (!xs.isEmpty)
  | _=>none
 | .str _ | .kt _=>none
noncomputable def flatD:D->Bool
 | .non | .bl _ | .int _ | .str _=>true
 | _=>false
noncomputable def eqFlat:D->D->Bool
 | .non,.non=>true
 | .bl a,.bl b=>a==b
 | .bl a,.int b=>(if a then 1 else 0)==b
 | .int a,.bl b=>a==(if b then 1 else 0)
 | .int a,.int b=>a==b
 | .str a,.str b=>a==b
 | _,_=>false
noncomputable def allO (f:D->D->Option Bool):List D->List D->Option Bool
 | x::xs,y::ys=>match f x y,allO f xs ys with
  | some a,some b=>some (a&&b)
  | _,_=>none
 | _,_=>some true
noncomputable def eqD (S:Store):Nat->D->D->Option Bool
 | 0,_,_=>none
 | n+1,.ref i,.ref j=>match S[i]?,S[j]? with
  | some (.lst xs),some (.lst ys)=>if xs.length=ys.length then allO (eqD S n) xs ys else some false
  | _,_=>none
 | _+1,a,b=>if flatD a&&flatD b then some (eqFlat a b) else none
noncomputable def eqTop (S:Store)(n:Nat)(a b:D):Option Bool:=match a,b with
 | .ref i,.ref j=>match S[i]?,S[j]? with
  | some (.rol xs),some (.lst [])=>some xs.isEmpty
  | _,_=>eqD S n a b
 | _,_=>eqD S n a b
noncomputable def ixI (n:Nat)(i:Int):Option Nat:=if 0<=i then (if i<n then some i.toNat else none) else if -(n:Int)<=i then some (i+n).toNat else none
noncomputable def getI (xs:List D)(i:Int):Option D:=(ixI xs.length i).bind fun j=>xs[j]?
noncomputable def sIx (n d:Nat):Option Int->Nat
 | none=>d
 | some v=>if v<0 then (v+(n:Int)).toNat else min v.toNat n
noncomputable def cutD (xs:List D)(lo hi:Option Int):List D:=(xs.drop (sIx xs.length 0 lo)).take (sIx xs.length xs.length hi-sIx xs.length 0 lo)
noncomputable def valD (kvs:List (D×D))(k:D):Option D:=(kvs.find? fun kv=>decide (kv.1=k)).map (·.2)
noncomputable def putD (kvs:List (D×D))(k v:D):List (D×D):=if (kvs.any fun kv=>decide (kv.1=k))=true then kvs.map fun kv=>if kv.1=k then (kv.1,v) else kv else kvs++[(k,v)]
noncomputable def keyFlat:D->Bool
 | .int _ | .str _=>true
 | _=>false
noncomputable def keyTup:D->Bool
 | .tup xs=>xs.all keyFlat
 | _=>false
noncomputable def keyFits (kvs:List (D×D))(k:D):Bool:=(keyFlat k&&kvs.all fun kv=>keyFlat kv.1)||(keyTup k&&kvs.all fun kv=>keyTup kv.1)
noncomputable def lookD (S:Store)(a k:D):Option (Option D):=match a with
 | .ref n=>match S[n]? with
  | some (.dic kvs)=>if keyFits kvs k then some (valD kvs k) else none
  | _=>none
 | _=>none
noncomputable def isDict (S:Store)(a:D):Bool:=(kvsOf S a).isSome
noncomputable def fputD (f:Nat)(v:D):List (Nat×D)->List (Nat×D)
 | []=>[(f,v)]
 | (g,x)::r=>if g=f then (g,v)::r else (g,x)::fputD f v r
noncomputable def newO (o:O)(S:Store):R D:=.ok (.ref S.length) (S++[o])
noncomputable def big (n:Nat):Bool:=decide (n<=sizeLine)
noncomputable def addD (a b:D)(S:Store):R D:=match a,b with
 | .int i,.int j=>.ok (.int (i+j)) S
 | .str x,.str y=>guardR (big (x.length+y.length)) (.ok (.str (x++y)) S)
 | .ref m,.ref n=>match S[m]?,S[n]? with
  | some (.lst xs),some (.lst ys)=>guardR (big (xs.length+ys.length)) (newO (.lst (xs++ys)) S)
  | _,_=>.bad
 | _,_=>.bad
noncomputable def mulOk (a b:Int):Bool:=decide (a.natAbs<2 ^ 64)||decide (b.natAbs<2 ^ 64)||(decide (a.natAbs<2 ^ 250)&&decide (b.natAbs<2 ^ 250))
noncomputable def mulD (a b:D)(S:Store):R D:=match a,b with
 | .int i,.int j=>guardR (mulOk i j) (.ok (.int (i*j)) S)
 | .str x,.int k=>guardR (decide (0<=k)&&decide (k<=1000)&&decide (x.length<=1000)) (.ok (.str (Txt.mul x k)) S)
 | .tup xs,.int k=>guardR (!xs.isEmpty&&decide (2<=k)&&decide (k<=1000)&&decide (xs.length<=1000)) (.ok (.tup (List.replicate k.toNat xs).flatten) S)
 | _,_=>.bad
noncomputable def opD (op:Operator)(a b:D)(S:Store):R D:=match op,a,b with
 | .Add,a,b=>addD a b S
 | .Sub,.int i,.int j=>.ok (.int (i-j)) S
 | .Mult,a,b=>mulD a b S
 | .FloorDiv,.int i,.int j=>guardR (decide (0<j)&&decide (j<2 ^ 250)) (.ok (.int (i / j)) S)
 | .Mod,.int i,.int j=>guardR (decide (0<j)) (.ok (.int (i%j)) S)
 | .Pow,.int i,.int j=>guardR (decide (i=10)&&(decide (j=18)||decide (j=9))) (.ok (.int (if j=18 then 1000000000000000000 else 1000000000)) S)
 | _,_,_=>.bad
noncomputable def depth:Nat:=8
noncomputable def inD (S:Store)(x:D)(y:D):Option Bool:=if isDict S y=true then (lookD S y x).map Option.isSome else match itemsOf S y with
 | some ys=>if flatD x&&ys.all flatD then some (ys.any fun z=>eqFlat z x) else none
 | none=>match x,y with
  | .str x,.str y=>some (!(Builtin.Str.occurrences y x 0 y.length 1).isEmpty)
  | _,_=>none
noncomputable def optB (o:Option Bool)(S:Store):R D:=match o with | some b=>.ok (.bl b) S | none=>.bad
noncomputable def cmpD (op:CmpOp)(a b:D)(S:Store):R D:=match op with
 | .Eq=>optB (eqTop S depth a b) S
 | .NotEq=>optB ((eqTop S depth a b).map (! ·)) S
 | .Lt=>match a,b with | .int i,.int j=>.ok (.bl (decide (i<j))) S | _,_=>.bad
 | .LtE=>match a,b with | .int i,.int j=>.ok (.bl (decide (i<=j))) S | _,_=>.bad
 | .Gt=>match a,b with | .int i,.int j=>.ok (.bl (decide (j<i))) S | _,_=>.bad
 | .GtE=>match a,b with | .int i,.int j=>.ok (.bl (decide (j<=i))) S | _,_=>.bad
 | .Is | .IsNot=>.bad
 | .In=>optB (inD S a b) S
 | .NotIn=>optB ((inD S a b).map (! ·)) S
noncomputable def getItemD (a i:D)(S:Store):R D:=if isDict S a=true then (match lookD S a i with | some (some v)=>.ok v S | _=>.bad) else match itemsOf S a,i with
 | some xs,.int k=>match getI xs k with | some v=>.ok v S | none=>.bad
 | _,_=>.bad
noncomputable def sliceD (a:D)(lo hi:Option Int)(S:Store):R D:=match a with
 | .tup xs=>guardR (!(sIx xs.length 0 lo==0&&sIx xs.length xs.length hi==xs.length)) (.ok (.tup (cutD xs lo hi)) S)
 | .str x=>guardR (big x.length) (.ok (.str (Txt.slice x lo hi)) S)
 | _=>.bad
noncomputable def setItemD (a i v:D)(S:Store):R Unit:=match a with
 | .ref n=>match S[n]?,i with
  | some (.lst xs),.int k=>match ixI xs.length k with | some j=>.ok () (S.set n (.lst (xs.set j v))) | none=>.bad
  | some (.dic kvs),k=>guardR (keyFits kvs k&&decide (kvs.length<sizeLine)) (.ok () (S.set n (.dic (putD kvs k v))))
  | _,_=>.bad
 | _=>.bad
noncomputable def fieldD (pay:Nat->Bool)(a:D)(f:Nat)(S:Store):R D:=match a with
 | .ref n=>match S[n]? with
  | some (.obj _ fs)=>match fs.lookup f with | some v=>.ok v S | none=>.bad
  | some (.exc x [d])=>guardR (pay x) (.ok d S)
  | _=>.bad
 | _=>.bad
noncomputable def setFieldD (pl:Nat->Nat->Bool)(a:D)(f:Nat)(v:D)(S:Store):R Unit:=match a with
 | .ref n=>match S[n]? with
  | some (.obj c fs)=>guardR (decide (fs.length<900)&&pl c f) (.ok () (S.set n (.obj c (fputD f v fs))))
  | _=>.bad
 | _=>.bad
inductive Kd where | int | bool | str | tuple | list
 deriving DecidableEq
noncomputable def isD (S:Store)(k:Kd):D->Option Bool
 | .non=>some false
 | .bl _=>some (k == .int||k == .bool)
 | .int _=>some (k == .int)
 | .str _=>some (k == .str)
 | .tup _=>some (k == .tuple)
 | .kt _=>none
 | .ref n=>match S[n]? with
  | some (.lst _)=>some (k == .list)
  | _=>none
noncomputable def lenD (S:Store):D->Option Nat
 | .str x=>if x.length<=sizeLine then some x.length else none
 | a=>match kvsOf S a with
  | some kvs=>some kvs.length
  | none=>(itemsOf S a).map List.length
noncomputable def bools:List D->Option (List Bool)
 | []=>some []
 | .bl b::r=>(bools r).map (b :: ·)
 | _=>none
noncomputable def intsD:List D->Option (List Int)
 | []=>some []
 | .int i::r=>(intsD r).map (i :: ·)
 | _=>none
noncomputable def tupsD:List D->Option (List (List Int))
 | []=>some []
 | .tup xs::r=>match intsD xs,tupsD r with
  | some k,some ks=>some (k::ks)
  | _,_=>none
 | _=>none
inductive B where | len | max2 | min2 | list | sorted | tuple
 deriving DecidableEq
noncomputable def callB (b:B)(vs:List D)(S:Store):R D:=match b,vs with
 | .len,[a]=>match lenD S a with | some n=>.ok (.int n) S | none=>.bad
 | .max2,[.int i,.int j]=>.ok (.int (if j > i then j else i)) S
 | .min2,[.int i,.int j]=>.ok (.int (if j<i then j else i)) S
 | .list,[a]=>match itemsOf S a with | some xs=>newO (.lst xs) S | none=>.bad
 | .tuple,[a]=>match itemsOf S a with | some xs=>.ok (.tup xs) S | none=>.bad
 | .sorted,[.ref n]=>match S[n]? with
  | some (.lst xs)=>match tupsD xs with
   | some ks=>guardR (decide (ks.length<64)) (newO (.lst ((L2.srtI ks).map fun i=>xs.getD i .non)) S)
   | none=>.bad
  | _=>.bad
 | _,_=>.bad
noncomputable def unlike (is:List Int):Nat:=(is.foldl (fun σ k=>if σ.any (· == k) then σ else σ++[k]) []).length
noncomputable def lenSetD (a:D)(S:Store):R D:=match a with
 | .ref n=>match S[n]? with
  | some (.lst xs)=>match intsD xs with
   | some is=>guardR (decide (is.length<=1000)) (.ok (.int (unlike is)) S)
   | none=>match tupsD xs with
    | some ks=>match L2.unlikeT true ks,L2.unlikeT false ks with
     | some n,some m=>guardR (n==m) (.ok (.int n) S)
     | _,_=>.bad
    | none=>.bad
  | _=>.bad
 | _=>.bad
inductive Mt where | append | split
 deriving DecidableEq
noncomputable def mtFits:Mt->O->Bool
 | .append,.lst _=>true
 | _,_=>false
noncomputable def methD (m:Mt)(a:D)(vs:List D)(S:Store):R D:=match a with
 | .ref n=>match m,S[n]?,vs with
  | .append,some (.lst xs),[v]=>guardR (decide (xs.length<sizeLine)) (.ok .non (S.set n (.lst (xs++[v]))))
  | _,_,_=>.bad
 | _=>.bad
noncomputable def varE (i:Nat):C D:=fun ρ S=>match ρ[i]? with
 | some (some d)=>.ok d S
 | _=>.bad
noncomputable def cE (d:D):C D:=fun _ S=>.ok d S
noncomputable def bin2 (f:D->D->Store->R D)(a b:C D):C D:=fun ρ S=>(a ρ S).bind fun x S1=>(b ρ S1).bind fun y S2=>f x y S2
noncomputable def binE (op:Operator):C D->C D->C D:=bin2 (opD op)
noncomputable def cmpE (op:CmpOp):C D->C D->C D:=bin2 (cmpD op)
noncomputable def boolOf (d:D)(S:Store):R Bool:=match d with | .bl b=>.ok b S | _=>.bad
noncomputable def truthOf (d:D)(S:Store):R Bool:=match truthD S d with | some b=>.ok b S | none=>.bad
noncomputable def chainE (o1 o2:CmpOp)(a b c:C D):C D:=fun ρ S=>(a ρ S).bind fun x S1=>(b ρ S1).bind fun y S2=>(cmpD o1 x y S2).bind fun r S3=>(boolOf r S3).bind fun t S4=>if t=true then (c ρ S4).bind fun z S5=>cmpD o2 y z S5 else .ok (.bl false) S4
noncomputable def notE (a:C D):C D:=fun ρ S=>(a ρ S).bind fun x S1=>(boolOf x S1).bind fun b S2=>.ok (.bl (!b)) S2
noncomputable def andE (a b:C D):C D:=fun ρ S=>(a ρ S).bind fun x S1=>(boolOf x S1).bind fun t S2=>if t=true then b ρ S2 else .ok (.bl false) S2
noncomputable def orE (a b:C D):C D:=fun ρ S=>(a ρ S).bind fun x S1=>(boolOf x S1).bind fun t S2=>if t=true then .ok (.bl true) S2 else b ρ S2
noncomputable def seqE:List (C D)->C (List D)
 | []=>fun _ S=>.ok [] S
 | c::cs=>fun ρ S=>(c ρ S).bind fun x S1=>(seqE cs ρ S1).bind fun xs S2=>.ok (x::xs) S2
noncomputable def tupE (cs:List (C D)):C D:=fun ρ S=>guardR (big cs.length) ((seqE cs ρ S).bind fun xs S1=>.ok (.tup xs) S1)
noncomputable def lstE (cs:List (C D)):C D:=fun ρ S=>guardR (big cs.length) ((seqE cs ρ S).bind fun xs S1=>newO (.lst xs) S1)
noncomputable def dictE:C D:=fun _ S=>newO (.dic []) S
noncomputable def ixE (a b:C D):C D:=bin2 getItemD a b
noncomputable def intPart (c:Option (C D)):C (Option Int):=fun ρ S=>match c with
 | none=>.ok none S
 | some c=>(c ρ S).bind fun x S1=>match x with | .int i=>.ok (some i) S1 | _=>.bad
noncomputable def sliceE (a:C D)(lo hi:Option (C D)):C D:=fun ρ S=>(a ρ S).bind fun x S1=>(intPart lo ρ S1).bind fun l S2=>(intPart hi ρ S2).bind fun h S3=>sliceD x l h S3
noncomputable def kinE (neg:Bool)(kvs:List (Str×Nat))(a:C D):C D:=fun ρ S=>(a ρ S).bind fun x S1=>match x with
 | .str z=>.ok (.bl ((kvs.lookup z).isSome != neg)) S1
 | _=>.bad
noncomputable def kixE (kvs:List (Str×Nat))(a:C D):C D:=fun ρ S=>(a ρ S).bind fun x S1=>match x with
 | .str z=>match kvs.lookup z with | some p=>.ok (.kt p) S1 | none=>.bad
 | _=>.bad
noncomputable def isXE (q:Option Nat)(a:C D):C D:=fun ρ S=>(a ρ S).bind fun x S1=>match x with
 | .ref n=>match S1[n]? with
  | some (.exc c _)=>.ok (.bl (match q with | some y=>c==y | none=>true)) S1
  | _=>.bad
 | _=>.bad
noncomputable def strE (a:C D):C D:=fun ρ S=>(a ρ S).bind fun x S1=>match x with
 | .int i=>guardR (decide (i.natAbs.log2<1920)) (.ok (.str (Str.ofString (toString i))) S1)
 | _=>.bad
noncomputable def intE (a:C D):C D:=fun ρ S=>(a ρ S).bind fun x S1=>match x with
 | .str z=>match intText? z with | some n=>guardR (decide (z.length<=640)) (.ok (.int n) S1) | none=>.bad
 | _=>.bad
noncomputable def fldE (pay:Nat->Bool)(a:C D)(f:Nat):C D:=fun ρ S=>(a ρ S).bind fun x S1=>fieldD pay x f S1
noncomputable def callE (f:List D->Store->R D)(cs:List (C D)):C D:=fun ρ S=>(seqE cs ρ S).bind fun xs S1=>f xs S1
noncomputable def isE (k:Kd)(a:C D):C D:=fun ρ S=>(a ρ S).bind fun x S1=>optB (isD S1 k x) S1
noncomputable def methE (has:Nat->Nat->Bool)(call:Nat->Nat->List D->Store->R D)(m:Option Nat)(bm:Option Mt)(a:C D)(cs:List (C D)):C D:=fun ρ S=>(a ρ S).bind fun x S1=>match x with
 | .ref n=>match S1[n]? with
  | some (.obj c fs)=>match m with
   | some m=>guardR ((fs.lookup m).isNone&&has c m) ((seqE cs ρ S1).bind fun xs S2=>call c m (x::xs) S2)
   | none=>.bad
  | some o=>match bm with
   | some b=>guardR (mtFits b o) ((seqE cs ρ S1).bind fun xs S2=>methD b x xs S2)
   | none=>.bad
  | none=>.bad
 | .str z=>guardR (bm==some .split) ((seqE cs ρ S1).bind fun xs S2=>match xs with
  | [.str y]=>guardR (!(y.length==0)&&decide (z.length<=1000)) (newO (.lst ((Txt.split z y).map .str)) S2)
  | _=>.bad)
 | _=>.bad
noncomputable def lenE (kts:List (Nat×List Str))(a:C D):C D:=fun ρ S=>(a ρ S).bind fun x S1=>match x with
 | .kt p=>match kts.lookup p with | some xs=>.ok (.int xs.length) S1 | none=>.bad
 | _=>callB .len [x] S1
noncomputable def fillK (kw:List (Str×D))(ks:List Str)(zs:List D):List D:=kw.map fun p=>((ks.zip zs).lookup p.1).getD p.2
noncomputable def makeE (init:List D->Store->R D)(c:Nat)(cs:List (C D))(kw:List (Str×D))(ks:List Str)(ds:List (C D)):C D:=fun ρ S=>(seqE cs ρ S).bind fun xs S1=>(seqE ds ρ S1).bind fun zs S2=>(init (.ref S2.length::xs++fillK kw ks zs) (S2++[.obj c []])).bind fun r S3=>match r with | .non=>.ok (.ref S2.length) S3 | _=>.bad
noncomputable def lenSetE (a:C D):C D:=fun ρ S=>(a ρ S).bind fun x S1=>lenSetD x S1
inductive Src where
 | dyn (a:C D)
 | range (a:C D)
 | enum (a:C D)
 | zip (kts:List (Nat×List Str)) (a b:C D)
noncomputable def rangeL (lo:Int)(n:Nat):List D:=(List.range n).map fun (k:Nat)=>.int (lo+(k:Int))
noncomputable def setL:List Nat->List D->Env->Option Env
 | [],[],ρ=>some ρ
 | i::is,d::ds,ρ=>setL is ds (ρ.set i (some d))
 | _,_,_=>none
noncomputable def tgt (is:List Nat)(one:Bool)(d:D)(ρ:Env):Option Env:=if one then (match is with | [i]=>some (ρ.set i (some d)) | _=>none) else (match d with | .tup ds=>setL is ds ρ | _=>none)
noncomputable def enumL:Nat->List D->List D
 | _,[]=>[]
 | i,x::xs=>.tup [.int i,x]::enumL (i+1) xs
noncomputable def zipL:List Str->List D->List D
 | x::xs,y::ys=>.tup [.str x,y]::zipL xs ys
 | _,_=>[]
noncomputable def compF {α:Type}(chk:Store->Bool)(is:List Nat)(one:Bool)(t:C Bool)(b:α->C α)(ρ:Env):List D->α->Store->R α
 | [],a,S=>if chk S=true then .ok a S else .bad
 | x::xs,a,S=>if chk S=true then (match tgt is one x ρ with
  | some ρ1=>(t ρ1 S).bind fun c S1=>if c=true then (b a ρ1 S1).bind fun a1 S2=>compF chk is one t b ρ xs a1 S2 else compF chk is one t b ρ xs a S1
  | none=>.bad) else .bad
noncomputable def stands (a:D)(all:List D):Store->Bool:=fun S=>decide (itemsOf S a=some all)
noncomputable def noEx {α:Type}(r:R α):R α:=match r with | .ex _ _ _=>.bad | r=>r
noncomputable def rangeOk (j:Int):Bool:=decide (-(2 ^ 62)<=j)&&decide (j<2 ^ 62)
noncomputable def signs (z:Str):List D:=z.cps.toList.map fun c=>.str ⟨#[c]⟩
noncomputable def compV {α:Type}(is:List Nat)(one:Bool)(t:C Bool)(b:α->C α)(ρ:Env)(a:α)(x:D)(S:Store):R α:=match x with
 | .ref n=>match S[n]? with
  | some (.lst xs)=>noEx (compF (stands (.ref n) xs) is one t b ρ xs a S)
  | _=>.bad
 | .str z=>guardR one (noEx (compF (fun _=>true) is one t b ρ (signs z) a S))
 | _=>.bad
noncomputable def blank (is:List Nat)(ρ:Env):Bool:=is.all fun i=>match ρ[i]? with | some none=>true | _=>false
noncomputable def inner (n:Nat)(ρ:Env):Env:=List.replicate n none++ρ
noncomputable def compS {α:Type}(n:Nat)(s:Src)(is:List Nat)(one:Bool)(t:C Bool)(b:α->C α)(a:α):C α:=fun ρ S=>match s with
 | .dyn c=>(c ρ S).bind fun x S1=>compV is one t b (inner n ρ) a x S1
 | .range c=>(c ρ S).bind fun x S1=>match x with
  | .int j=>guardR (rangeOk j&&decide (j.toNat<=sizeLine)) (noEx (compF (fun _=>true) is one t b (inner n ρ) (rangeL 0 j.toNat) a S1))
  | _=>.bad
 | .enum c=>(c ρ S).bind fun x S1=>match x with
  | .ref m=>match S1[m]? with
   | some (.lst xs)=>guardR (!one) (noEx (compF (stands x xs) is one t b (inner n ρ) (enumL 0 xs) a S1))
   | _=>.bad
  | _=>.bad
 | .zip kts c d=>(c ρ S).bind fun x S1=>(d ρ S1).bind fun y S2=>match x with
  | .kt p=>match kts.lookup p with
   | some zs=>match y with
    | .tup ys=>guardR (!one&&decide (zs.length<=ys.length)) (noEx (compF (fun _=>true) is one t b (inner n ρ) (zipL zs ys) a S2))
    | .ref m=>match S2[m]? with
     | some (.lst ys)=>guardR (!one&&decide (zs.length<=ys.length)) (noEx (compF (stands y ys) is one t b (inner n ρ) (zipL zs ys) a S2))
     | _=>.bad
    | _=>.bad
   | none=>.bad
  | _=>.bad
noncomputable def compI {α:Type}(n:Nat)(s:Src)(is:List Nat)(one:Bool)(t:C Bool)(b:α->C α)(a:α):C α:=fun ρ S=>guardR (blank is (inner n ρ)) (compS n s is one t b a ρ S)
noncomputable def bL (e:C D)(ys:List D):C (List D):=fun ρ S=>guardR (decide (ys.length<sizeLine)) ((e ρ S).bind fun y S1=>.ok (ys++[y]) S1)
noncomputable def bD (k v:C D)(kvs:List (D×D)):C (List (D×D)):=fun ρ S=>(k ρ S).bind fun x S1=>(v ρ S1).bind fun y S2=>guardR (keyTup x&&decide (kvs.length<sizeLine)) (.ok (putD kvs x y) S2)
noncomputable def always:C Bool:=fun _ S=>.ok true S
noncomputable def allE (c:C (List D)):C D:=fun ρ S=>(c ρ S).bind fun ys S1=>match bools ys with | some bs=>.ok (.bl (bs.all id)) S1 | none=>.bad
noncomputable def payOk (pay:List (Nat×Str))(x:Nat)(p:List D):Bool:=match pay.lookup x,p with
 | none,[]=>true
 | some _,[_]=>true
 | _,_=>false
noncomputable def metR (n:Nat)(pay:List (Nat×Str))(r:R D):R D:=match r with
 | .ok _ S1=>.ok .non S1
 | .ex x p S1=>guardR (decide (x<n)&&payOk pay x p) (newO (.exc x p) S1)
 | .bad=>.bad
noncomputable def metE (n:Nat)(pay:List (Nat×Str))(c:C D):C D:=fun ρ S=>metR n pay (c ρ S)
noncomputable def fmtE (a:C D):C D:=fun ρ S=>(a ρ S).bind fun x S1=>match x with
 | .int i=>guardR (decide (i.natAbs.log2<1920)) (.ok (.str (Str.ofString (toString i))) S1)
 | _=>.bad
noncomputable def joinE:List (C D)->Str->C D
 | [],acc=>fun _ S=>guardR (decide (acc.length<=sizeLine)) (.ok (.str acc) S)
 | c::cs,acc=>fun ρ S=>(c ρ S).bind fun x S1=>match x with
  | .str y=>guardR (decide ((acc++y).length<=sizeLine)) (joinE cs (acc++y) ρ S1)
  | _=>.bad
noncomputable def testE (a:C D):C Bool:=fun ρ S=>(a ρ S).bind fun x S1=>truthOf x S1
noncomputable def testB (a:C D):C Bool:=fun ρ S=>(a ρ S).bind fun x S1=>boolOf x S1
noncomputable def notT (a:C Bool):C Bool:=fun ρ S=>(a ρ S).bind fun b S1=>.ok (!b) S1
noncomputable def andT (a b:C Bool):C Bool:=fun ρ S=>(a ρ S).bind fun t S1=>if t=true then b ρ S1 else .ok false S1
noncomputable def orT (a b:C Bool):C Bool:=fun ρ S=>(a ρ S).bind fun t S1=>if t=true then .ok true S1 else b ρ S1
inductive F where
 | nx (ρ:Env) (S:Store) | rt (d:D) (S:Store) | bk (ρ:Env) (S:Store) | ct (ρ:Env) (S:Store) | ex (c:Nat) (pay:List D) (S:Store) | bad
noncomputable abbrev CS:=Env->Store->F
noncomputable def onR {α:Type}(r:R α)(f:α->Store->F):F:=match r with
 | .ok a S=>f a S
 | .ex c p S=>.ex c p S
 | .bad=>.bad
@[simp] theorem onR_ok {α:Type}(a:α)(S:Store)(f:α->Store->F):onR (.ok a S) f=f a S:=rfl
noncomputable def F.then (r:F)(k:CS):F:=match r with
 | .nx ρ S=>k ρ S
 | r=>r
@[simp] theorem F.then_nx (ρ:Env)(S:Store)(k:CS):(F.nx ρ S).then k=k ρ S:=rfl
noncomputable def seqS:List CS->CS
 | []=>fun ρ S=>.nx ρ S
 | c::cs=>fun ρ S=>(c ρ S).then (seqS cs)
noncomputable def passS:CS:=fun ρ S=>.nx ρ S
noncomputable def badS:CS:=fun _ _=>.bad
noncomputable def exprS (e:C D):CS:=fun ρ S=>onR (e ρ S) fun _ S1=>.nx ρ S1
noncomputable def retS (e:C D):CS:=fun ρ S=>onR (e ρ S) fun d S1=>.rt d S1
noncomputable def ifS (c:C Bool)(a b:CS):CS:=fun ρ S=>onR (c ρ S) fun t S1=>if t=true then a ρ S1 else b ρ S1
noncomputable def setS (i:Nat)(e:C D):CS:=fun ρ S=>onR (e ρ S) fun d S1=>.nx (ρ.set i (some d)) S1
noncomputable def tupS (is:List Nat)(e:C D):CS:=fun ρ S=>onR (e ρ S) fun d S1=>match d with | .tup ds=>(match setL is ds ρ with | some ρ'=>.nx ρ' S1 | none=>.bad) | _=>.bad
noncomputable def starS (i j:Nat)(e:C D):CS:=fun ρ S=>onR (e ρ S) fun d S1=>match d with
 | .ref n=>match S1[n]? with
  | some (.lst (x::xs))=>if xs.length<=16000 then .nx ((ρ.set i (some x)).set j (some (.ref S1.length))) (S1++[.lst xs]) else .bad
  | _=>.bad
 | _=>.bad
noncomputable def fldS (pl:Nat->Nat->Bool)(o:C D)(f:Nat)(e:C D):CS:=fun ρ S=>onR (e ρ S) fun v S1=>onR (o ρ S1) fun x S2=>onR (setFieldD pl x f v S2) fun _ S3=>.nx ρ S3
noncomputable def subS (o i:C D)(e:C D):CS:=fun ρ S=>onR (e ρ S) fun v S1=>onR (o ρ S1) fun x S2=>onR (i ρ S2) fun k S3=>onR (setItemD x k v S3) fun _ S4=>.nx ρ S4
noncomputable def raiseS (c:Nat)(cs:List (C D)):CS:=fun ρ S=>onR (seqE cs ρ S) fun _ S1=>.ex c [] S1
noncomputable def raiseX (c:Nat)(e:C D):CS:=fun ρ S=>onR (e ρ S) fun d S1=>.ex c [d] S1
noncomputable def turnS (r:F)(k:Env->Store->F):F:=match r with
 | .nx ρ S=>k ρ S
 | .ct ρ S=>k ρ S
 | .bk ρ S=>.nx ρ S
 | r=>r
noncomputable def forC (chk:Store->Bool)(is:List Nat)(one:Bool)(b:CS):List D->CS
 | [],ρ,S=>if chk S=true then .nx ρ S else .bad
 | x::xs,ρ,S=>if chk S=true then (match tgt is one x ρ with
  | some ρ1=>turnS (b ρ1 S) (forC chk is one b xs)
  | none=>.bad) else .bad
noncomputable def forL:List Nat->Bool->CS->List D->CS:=forC fun _=>true
noncomputable def noExF (r:F):F:=match r with | .ex _ _ _=>.bad | r=>r
noncomputable def forG (s:Src)(is:List Nat)(one:Bool)(b:CS):CS:=fun ρ S=>match s with
 | .dyn _=>.bad
 | .range a=>onR (a ρ S) fun x S1=>match x with
  | .int j=>if rangeOk j=true then forL is one b (rangeL 0 j.toNat) ρ S1 else .bad
  | _=>.bad
 | .enum _ | .zip _ _ _=>.bad
noncomputable def okD (n:Nat):D->Bool
 | .tup xs=>okDs n xs
 | .ref m=>decide (m<n)
 | _=>true
where okDs (n:Nat):List D->Bool
 | []=>true
 | x::xs=>okD n x&&okDs n xs
noncomputable def okO (n:Nat):O->Bool
 | .lst xs | .rol xs=>xs.all (okD n)
 | .dic kvs=>kvs.all fun kv=>okD n kv.1&&okD n kv.2
 | .obj _ fs=>fs.all fun f=>okD n f.2
 | .exc _ _=>false
noncomputable def trimE (n:Nat)(ρ:Env):Env:=ρ.map fun o=>o.bind fun d=>if okD n d=true then some d else none
noncomputable def forT (n:Nat)(a:D)(all:List D)(i:Nat)(b:CS):List D->CS
 | [],ρ,S=>if stands a all S=true then .nx ρ S else .bad
 | x::xs,ρ,S=>if stands a all S=true then (match b (ρ.set i (some x)) S with
  | .nx ρ1 S1=>if (S1.take n).all (okO n)=true/\n<=S1.length then forT n a all i b xs (trimE n ρ1) (S1.take n) else .bad
  | .rt d S1=>.rt d S1
  | _=>.bad) else .bad
noncomputable def padS (n:Nat)(S:Store):Option Store:=match (S[0]?:Option O) with
 | some (.rol xs)=>if S.length<=n then some (S++List.replicate (n-S.length) (.rol xs)) else none
 | _=>none
noncomputable def forTS (n:Nat)(e:C D)(i:Nat)(b:CS):CS:=fun ρ S=>noExF (onR (e ρ S) fun x S1=>match x with
 | .ref m=>match S1[m]?,padS n S1 with
  | some (.lst xs),some S2=>if S2.all (okO n)=true then forT n x xs i b xs (trimE n ρ) S2 else .bad
  | _,_=>.bad
 | _=>.bad)
noncomputable def forS (s:Src)(is:List Nat)(one:Bool)(b:CS):CS:=forG s is one b
structure Tab where
 cons:List (Str×D)
 nams:List Str
 funs:List Str
 clss:List Str
 excs:List Str
 meths:List (Nat×Nat)
 kwo:List (Nat×List (Str×D)):=[]
 pay:List (Nat×Str):=[]
 kds:List (Str×List (Str×Nat)):=[]
 kts:List (Nat×List Str):=[]
noncomputable def Tab.isM (T:Tab)(c f:Nat):Bool:=T.meths.any fun p=>p.1==c&&p.2==f
noncomputable def Tab.kwOf (T:Tab)(c:Nat):List (Str×D):=(T.kwo.lookup c).getD []
noncomputable def Tab.plain (T:Tab)(c f:Nat):Bool:=!T.isM c f
structure Calls where
 f:Nat->List D->Store->R D
 m:Nat->Nat->List D->Store->R D
structure Gm where
 N:List Str
 sc:Scope
 lam:Bool
structure Kit where
 e:Gm->Expr->C D
 t:Gm->Expr->C Bool
 s:Gm->Stmt->CS
noncomputable def ixOf (l:List Str)(x:Str):Option Nat:=l.findIdx? fun y=>decide (y=x)
noncomputable def oddName (x:Str):Bool:=(x==("__debug__":Str))||(x==("__classdict__":Str))
noncomputable def nameE (T:Tab)(Γ:Gm)(x:Str):C D:=if oddName x=true then badC else match Γ.sc.names.lookup x with
 | some .local | some .cell | some .free=>match ixOf Γ.N x with | some i=>varE i | none=>badC
 | some .globalImplicit=>match T.cons.lookup x with | some d=>cE d | none=>badC
 | _=>badC
noncomputable def isGl (Γ:Gm)(x:Str):Bool:=!oddName x&&(Γ.sc.names.lookup x==some .globalImplicit)
noncomputable def plainE:Expr->Bool
 | .Starred _ _=>false
 | _=>true
noncomputable def noBase:Expr->Bool
 | .Call (.Name x _) [] [] _=>x != ("super":Str)
 | _=>true
noncomputable def noSet:Expr->Bool
 | .Set _ _ _=>false
 | _=>true
noncomputable def noSlice:Expr->Bool
 | .Slice _ _ _ _=>false
 | _=>true
noncomputable def isComp:Expr->Bool
 | .ListComp _ _ _ _ | .SetComp _ _ _ _ | .DictComp _ _ _ _ _=>true
 | _=>false
noncomputable def isTuple:Expr->Bool
 | .Tuple _ _ _=>true
 | _=>false
noncomputable def kdOf (x:Str):Option Kd:=if x=("int":Str) then some .int else if x=("bool":Str) then some .bool else if x=("str":Str) then some .str else if x=("tuple":Str) then some .tuple else if x=("list":Str) then some .list else none
noncomputable def bOf (x:Str)(n:Nat):Option B:=if x=("max":Str)/\n=2 then some .max2 else if x=("min":Str)/\n=2 then some .min2 else
 if x=("list":Str)/\n=1 then some .list else if x=("sorted":Str)/\n=1 then some .sorted else if x=("tuple":Str)/\n=1 then some .tuple else none
noncomputable def mtOf (x:Str)(n:Nat):Option Mt:=if x=("append":Str)/\n=1 then some .append else if x=("split":Str)/\n=1 then some .split else none
noncomputable def shade (xs N:List Str):List Str:=N.map fun y=>if xs.contains y=true then y++("?":Str) else y
noncomputable def compOk (sc outer:Scope)(xs M:List Str):Bool:=
 (sc.kind == .function)&&sc.names.all (fun p=>p.2 != NameKind.cell)&&xs.all (fun x=>sc.names.lookup x==some NameKind.local)&&sc.names.all (fun p=>p.2 != NameKind.local||sc.names.lookup p.1==some NameKind.local) &&
 sc.names.all (fun p=>p.2 != NameKind.free||(outer.names.lookup p.1==some NameKind.cell||outer.names.lookup p.1==some NameKind.free))&&M.all (fun y=>sc.names.lookup y != some NameKind.local)
noncomputable def nodupB:List Str->Bool
 | []=>true
 | x::xs=>!(xs.any fun y=>decide (y=x))&&nodupB xs
noncomputable def shadeOk (sc:Scope)(xs N:List Str):Bool:=nodupB (xs++shade xs N) && !(sc.names.any fun p=>xs.any fun x=>decide (p.1=x++("?":Str)))
noncomputable def slot (Γ:Gm)(x:Str):Option Nat:=if Γ.sc.names.lookup x==some .local||Γ.sc.names.lookup x==some .cell then ixOf Γ.N x else none
noncomputable def slots (Γ:Gm):List Expr->Option (List Nat)
 | []=>some []
 | .Name x _::r=>match slot Γ x,slots Γ r with | some i,some is=>if is.contains i then none else some (i::is) | _,_=>none
 | _=>none
noncomputable def tgNames:Expr->List Str
 | .Name x _=>[x]
 | .Tuple ts _ _=>ts.filterMap fun t=>match t with | .Name x _=>some x | _=>none
 | _=>[]
noncomputable def tgSlots (Γ:Gm):Expr->Option (List Nat×Bool)
 | .Name x _=>(slot Γ x).map fun i=>([i],true)
 | .Tuple ts _ _=>(slots Γ ts).map fun is=>(is,false)
 | _=>none
noncomputable def isB (T:Tab)(Γ:Gm)(t:Str):Bool:=isGl Γ t&&(ixOf T.funs t).isNone&&(ixOf T.clss t).isNone&&(T.cons.lookup t).isNone&&(ixOf T.excs t).isNone
noncomputable def srcOf (T:Tab)(k:Kit)(Γ:Gm)(it:Expr):Option Src:=match it with
 | .Call (.Name r _) [a] [] _=>if r=("range":Str)/\isGl Γ r=true/\plainE a=true then some (.range (k.e Γ a)) else if r=("enumerate":Str)/\isGl Γ r=true/\plainE a=true then some (.enum (k.e Γ a)) else if noSet it=true then some (.dyn (k.e Γ it)) else none
 | .Call (.Name r _) [a,b] [] _=>if r=("zip":Str)/\isGl Γ r=true/\plainE a=true/\plainE b=true then some (.zip T.kts (k.e Γ a) (k.e Γ b)) else if noSet it=true then some (.dyn (k.e Γ it)) else none
 | _=>if noSet it=true then some (.dyn (k.e Γ it)) else none
noncomputable def blkG (Γ:Gm)(sc:Scope)(xs:List Str):Option Gm:=if compOk sc Γ.sc xs (shade xs Γ.N)=true/\shadeOk sc xs Γ.N=true then some ⟨xs++shade xs Γ.N,sc,false⟩ else none
noncomputable def ifsG (k:Kit)(Γ:Gm):List Expr->Option (C Bool)
 | []=>some always
 | [c]=>some (k.t Γ c)
 | _=>none
noncomputable def genG {α:Type}(T:Tab)(k:Kit)(Γ Γ':Gm)(n:Nat)(tg it:Expr)(ifs:List Expr)(b:α->C α):Option (α->C α):=match srcOf T k Γ it,tgSlots Γ' tg,ifsG k Γ' ifs with
 | some s,some (is,one),some t=>some (compI n s is one t b)
 | _,_,_=>none
noncomputable def compG (T:Tab)(k:Kit)(Γ:Gm)(e:Expr):Option (C (List D)):=match e with
 | .ListComp elt [⟨tg,it,ifs,0⟩] sc _=>(blkG Γ sc (tgNames tg)).bind fun Γ'=>(genG T k Γ Γ' (tgNames tg).length tg it ifs (bL (k.e Γ' elt))).map fun f=>f []
 | _=>none
noncomputable def compD (T:Tab)(k:Kit)(Γ:Gm)(e:Expr):Option (C (List (D×D))):=match e with
 | .DictComp kx vx [⟨tg,it,ifs,0⟩] sc _=>(blkG Γ sc (tgNames tg)).bind fun Γ'=>(genG T k Γ Γ' (tgNames tg).length tg it ifs (bD (k.e Γ' kx) (k.e Γ' vx))).map fun f=>f []
 | _=>none
noncomputable def lamB (sc outer:Scope):Bool:=(sc.kind == .function) && !sc.isCoroutine && !sc.isGenerator&&sc.names.all (fun p=>p.2 != NameKind.cell&&p.2 != NameKind.local) &&
 sc.names.all (fun p=>p.2 != NameKind.free||(outer.names.lookup p.1==some NameKind.cell||outer.names.lookup p.1==some NameKind.free))
noncomputable def metG (T:Tab)(k:Kit)(Γ:Gm)(args:List Expr):C D:=match args with
 | [.Lambda ⟨[],[],none,[],[],none,[]⟩ b sc _]=>if Γ.lam=true/\lamB sc Γ.sc=true then metE T.excs.length T.pay (k.e ⟨Γ.N,sc,false⟩ b) else badC
 | _=>badC
noncomputable def setArg (T:Tab)(Γ:Gm):Expr->Option Expr
 | .Call (.Name s _) [b] [] _=>if s=("set":Str)/\isB T Γ s=true/\plainE b=true then some b else none
 | _=>none
noncomputable def lenG (T:Tab)(cl:Calls)(k:Kit)(Γ:Gm)(a:Expr):C D:=match setArg T Γ a with
 | some b=>lenSetE (k.e Γ b)
 | none=>lenE T.kts (k.e Γ a)
noncomputable def callK (T:Tab)(cl:Calls)(k:Kit)(Γ:Gm)(x:Str)(args:List Expr)(kws:List Keyword):C D:=
 if isGl Γ x=false\/args.all plainE=false\/args.isEmpty=true\/(kws.all fun q=>q.arg.isSome)=false\/x=("_law_met":Str) then badC else match ixOf T.funs x,ixOf T.clss x,ixOf T.nams "__init__" with
 | none,some c,some i=>if T.isM c i=true/\T.kwOf c≠[]/\(kws.all fun q=>(T.kwOf c).any fun p=>decide (some p.1=q.arg))=true/\nodupB (kws.filterMap (·.arg))=true then makeE (cl.m c i) c (args.map (k.e Γ)) (T.kwOf c) (kws.filterMap (·.arg)) (kws.map fun q=>k.e Γ q.value) else badC
 | _,_,_=>badC
noncomputable def isXG (T:Tab)(k:Kit)(Γ:Gm)(t:Str)(a:Expr):C D:=if t=("ValueError":Str) then (if isB T Γ t=true then isXE none (k.e Γ a) else badC) else match ixOf T.excs t with
 | some c=>if isGl Γ t=true then isXE (some c) (k.e Γ a) else badC
 | none=>badC
noncomputable def callG (T:Tab)(cl:Calls)(k:Kit)(Γ:Gm)(x:Str)(args:List Expr):C D:=
 if isGl Γ x=false\/args.all plainE=false then badC else
 if x=("_law_met":Str) then metG T k Γ args else
 match ixOf T.funs x with
 | some f=>callE (cl.f f) (args.map (k.e Γ))
 | none=>match ixOf T.clss x with
  | some c=>match ixOf T.nams "__init__" with
   | some i=>if T.isM c i=true/\(T.kwOf c=[]\/args.isEmpty=false) then makeE (cl.m c i) c (args.map (k.e Γ)) (T.kwOf c) [] [] else badC
   | none=>badC
  | none=>if (T.cons.lookup x).isSome=true\/(ixOf T.excs x).isSome=true then badC else
   if x=("isinstance":Str) then (match args with
    | [a,.Name t _]=>match kdOf t with
     | some kd=>if isB T Γ t=true then isE kd (k.e Γ a) else badC
     | none=>isXG T k Γ t a
    | _=>badC)
   else match args with
    | [a]=>if x=("len":Str) then lenG T cl k Γ a else if x=("str":Str) then strE (k.e Γ a) else if x=("int":Str) then intE (k.e Γ a) else match compG T k Γ a with
     | some c=>if x=("all":Str) then allE c else (match bOf x 1 with | some b=>callE (callB b) [k.e Γ a] | none=>badC)
     | none=>match bOf x 1 with | some b=>callE (callB b) [k.e Γ a] | none=>badC
    | _=>match bOf x args.length with | some b=>callE (callB b) (args.map (k.e Γ)) | none=>badC
noncomputable def constE:PySem.Const->C D
 | .none=>cE .non
 | .bool b=>cE (.bl b)
 | .int i=>cE (.int i)
 | .str x=>cE (.str x)
 | _=>badC
noncomputable def boolE (k:Kit)(Γ:Gm)(op:BoolOp)(p:Pos):List Expr->C D
 | []=>badC
 | [a]=>k.e Γ a
 | a::b::r=>match op with
  | .And=>andE (k.e Γ a) (k.e Γ (.BoolOp .And (b::r) p))
  | .Or=>orE (k.e Γ a) (k.e Γ (.BoolOp .Or (b::r) p))
noncomputable def kdOfE (T:Tab)(Γ:Gm):Expr->Option (List (Str×Nat))
 | .Name x _=>if isGl Γ x=true then T.kds.lookup x else none
 | _=>none
noncomputable def cmp1G (T:Tab)(k:Kit)(Γ:Gm)(a:Expr)(op:CmpOp)(b:Expr):C D:=match kdOfE T Γ b with
 | some kvs=>if op = .In then kinE false kvs (k.e Γ a) else if op = .NotIn then kinE true kvs (k.e Γ a) else badC
 | none=>cmpE op (k.e Γ a) (k.e Γ b)
noncomputable def cmpG (T:Tab)(k:Kit)(Γ:Gm)(a:Expr)(ops:List CmpOp)(bs:List Expr):C D:=match ops,bs with
 | [op],[b]=>if noSet b=true then cmp1G T k Γ a op b else badC
 | [o1,o2],[b,c]=>if noSet b=true/\noSet c=true then chainE o1 o2 (k.e Γ a) (k.e Γ b) (k.e Γ c) else badC
 | _,_=>badC
noncomputable def subG (T:Tab)(k:Kit)(Γ:Gm)(a b:Expr):C D:=match b with
 | .Slice lo hi st _=>match st with
  | none=>sliceE (k.e Γ a) (lo.map (k.e Γ)) (hi.map (k.e Γ))
  | some _=>badC
 | _=>match kdOfE T Γ a with
  | some kvs=>kixE kvs (k.e Γ b)
  | none=>ixE (k.e Γ a) (k.e Γ b)
noncomputable def fstrG (k:Kit)(Γ:Gm)(es:List Expr):C D:=match es with
 | a::b::es=>joinE ((a::b::es).map (k.e Γ)) Str.empty
 | _=>badC
noncomputable def clG (T:Tab)(cl:Calls)(k:Kit)(Γ:Gm)(f:Expr)(args:List Expr)(kws:List Keyword)(cp:Pos):C D:=match f with
 | .Name x _=>match kws with
  | []=>callG T cl k Γ x args
  | kw::kws=>callK T cl k Γ x args (kw::kws)
 | .Attribute a m ap=>if kws.isEmpty=true/\noBase a=true/\args.all plainE=true/\(ap.endLine==cp.line)=true/\args.length<30/\m≠("__init__":Str) then methE T.isM cl.m (ixOf T.nams m) (mtOf m args.length) (k.e Γ a) (args.map (k.e Γ)) else badC
 | _=>badC
noncomputable def stepE (T:Tab)(cl:Calls)(k:Kit)(Γ:Gm)(e:Expr):C D:=match e with
 | .Constant c _ _=>constE c
 | .Name x _=>nameE T Γ x
 | .BinOp a op b _=>binE op (k.e Γ a) (k.e Γ b)
 | .UnaryOp op a _=>match op with
  | .Not=>notE (k.e Γ a)
  | _=>badC
 | .BoolOp op es p=>boolE k Γ op p es
 | .Compare a ops bs _=>cmpG T k Γ a ops bs
 | .Tuple es _ _=>if es.all plainE=true then tupE (es.map (k.e Γ)) else badC
 | .List es _=>if es.all plainE=true then lstE (es.map (k.e Γ)) else badC
 | .Dict ks vs _=>if ks.isEmpty=true/\vs.isEmpty=true then dictE else badC
 | .Attribute a f _=>match ixOf T.nams f with | some i=>if noBase a=true then fldE (fun c=>T.pay.lookup c==some f) (k.e Γ a) i else badC | none=>badC
 | .Subscript a b _=>subG T k Γ a b
 | .ListComp el gs sc p=>match compG T k Γ (.ListComp el gs sc p) with | some c=>fun ρ S=>(c ρ S).bind fun ys S1=>newO (.lst ys) S1 | none=>badC
 | .DictComp kx vx gs sc p=>match compD T k Γ (.DictComp kx vx gs sc p) with | some c=>fun ρ S=>(c ρ S).bind fun ys S1=>newO (.dic ys) S1 | none=>badC
 | .FormattedValue a cv sp _=>if cv = -1/\sp.isNone=true then fmtE (k.e Γ a) else badC
 | .JoinedStr es _=>fstrG k Γ es
 | .Call f args kws cp=>clG T cl k Γ f args kws cp
 | _=>badC
noncomputable def boolT (k:Kit)(Γ:Gm)(op:BoolOp)(p:Pos):List Expr->C Bool
 | []=>badC
 | [a]=>k.t Γ a
 | a::b::r=>match op with
  | .And=>andT (k.t Γ a) (k.t Γ (.BoolOp .And (b::r) p))
  | .Or=>orT (k.t Γ a) (k.t Γ (.BoolOp .Or (b::r) p))
noncomputable def cmpT (k:Kit)(Γ:Gm)(a:Expr)(ops:List CmpOp)(bs:List Expr)(p:Pos):C Bool:=match ops,bs with
 | [op],[b]=>testB (k.e Γ (.Compare a [op] [b] p))
 | [o1,o2],[b,c]=>testB (k.e Γ (.Compare a [o1,o2] [b,c] p))
 | _,_=>badC
noncomputable def stepT (T:Tab)(k:Kit)(Γ:Gm)(e:Expr):C Bool:=match e with
 | .UnaryOp op a _=>match op with
  | .Not=>notT (k.t Γ a)
  | _=>badC
 | .BoolOp op es p=>boolT k Γ op p es
 | .IfExp _ _ _ _=>badC
 | .Compare a ops bs p=>cmpT k Γ a ops bs p
 | e=>testE (k.e Γ e)
noncomputable def isRounds (it:Expr):Bool:=match it with
 | .Call f _ _ _=>match f with | .Name x _=>x==("_law_rounds":Str) | _=>false
 | _=>false
noncomputable def roundsPad:Nat:=10
noncomputable def starOf (Γ:Gm):List Expr->Option (Nat×Nat)
 | [.Name x _,.Starred (.Name y _) _]=>match slot Γ x,slot Γ y with | some i,some j=>if i=j then none else some (i,j) | _,_=>none
 | _=>none
noncomputable def asgT (k:Kit)(Γ:Gm)(ts:List Expr)(e:Expr):CS:=match slots Γ ts with
 | none=>match starOf Γ ts with
  | some (i,j)=>if isComp e=true\/isTuple e=true then badS else starS i j (k.e Γ e)
  | none=>badS
 | some is=>match e with
  | .Tuple _ _ _=>badS
  | e=>if isComp e=true then badS else tupS is (k.e Γ e)
noncomputable def asgS (T:Tab)(k:Kit)(Γ:Gm)(tg:Expr)(e:Expr):CS:=match tg with
 | .Name x _=>match slot Γ x with | some i=>setS i (k.e Γ e) | none=>badS
 | .Tuple ts _ _=>asgT k Γ ts e
 | .Attribute a f _=>match ixOf T.nams f with | some i=>fldS T.plain (k.e Γ a) i (k.e Γ e) | none=>badS
 | .Subscript a i _=>if isComp e=true\/noSlice i=false then badS else subS (k.e Γ a) (k.e Γ i) (k.e Γ e)
 | _=>badS
noncomputable def raiseG (T:Tab)(k:Kit)(Γ:Gm)(f:Expr)(args:List Expr)(kws:List Keyword):CS:=match f with
 | .Name x _=>match ixOf T.excs x with
  | some c=>if isGl Γ x=true/\kws.isEmpty=true/\args.all plainE=true/\args.isEmpty=false/\args.length<=100 then (match T.pay.lookup c with
   | none=>raiseS c (args.map (k.e Γ))
   | some _=>match args with
    | [a]=>raiseX c (k.e Γ a)
    | _=>badS) else badS
  | none=>badS
 | _=>badS
noncomputable def forB (T:Tab)(k:Kit)(Γ:Gm)(tg it:Expr)(body:List Stmt):CS:=match tg with
 | .Name x _=>match slot Γ x,srcOf T k Γ it with
  | some i,some s=>if isRounds it=true then forTS roundsPad (k.e Γ it) i (seqS (body.map (k.s Γ))) else forS s [i] true (seqS (body.map (k.s Γ)))
  | _,_=>badS
 | .Tuple ts _ _=>match slots Γ ts,srcOf T k Γ it with | some is,some s=>forS s is false (seqS (body.map (k.s Γ))) | _,_=>badS
 | _=>badS
noncomputable def stepS (T:Tab)(cl:Calls)(k:Kit)(Γ:Gm)(s:Stmt):CS:=match s with
 | .Pass _=>passS
 | .Expr e _=>if isComp e=true then badS else exprS (k.e Γ e)
 | .Return o _=>match o with
  | some e=>retS (k.e Γ e)
  | none=>badS
 | .If c a b _=>ifS (k.t Γ c) (seqS (a.map (k.s Γ))) (seqS (b.map (k.s Γ)))
 | .Assign ts e _=>match ts with
  | [tg]=>asgS T k Γ tg e
  | _=>badS
 | .Raise o c _=>match o,c with
  | some (.Call f args kws _),none=>raiseG T k Γ f args kws
  | _,_=>badS
 | .For tg it body els _=>if els.isEmpty=true then forB T k Γ tg it body else badS
 | _=>badS
noncomputable def kit (T:Tab)(cl:Calls):Nat->Kit
 | 0=>⟨fun _ _=>badC,fun _ _=>badC,fun _ _=>badS⟩
 | n+1=>⟨fun Γ e=>stepE T cl (kit T cl n) Γ e,fun Γ e=>stepT T (kit T cl n) Γ e,fun Γ s=>stepS T cl (kit T cl n) Γ s⟩
structure Fn where
 ps:List Str
 N:List Str
 sc:Scope
 body:List Stmt
 lam:Bool:=false
noncomputable def sfx (s:Stmt):Option (Arguments×List Stmt×Scope):=match s with
 | .FunctionDef _ a b _ _ _ sc _ _ _=>some (a,b,sc)
 | _=>none
noncomputable def namesOf (ps:List Str)(sc:Scope):List Str:=ps++((sc.names.filter fun p=>(p.2 == .local||p.2 == .cell) && !(ps.any fun y=>decide (y=p.1))).map (·.1))
noncomputable def fnOf (s:Stmt):Option Fn:=match sfx s with
 | some (a,b,sc)=>if a.posonlyargs.isEmpty/\a.vararg.isNone=true/\a.kwarg.isNone=true/\a.defaults.isEmpty then some ⟨(a.args++a.kwonlyargs).map (·.arg),namesOf ((a.args++a.kwonlyargs).map (·.arg)) sc,sc,b,false⟩ else none
 | none=>none
noncomputable def startE (N:List Str)(vs:List D):Env:=vs.map some++List.replicate (N.length-vs.length) none
noncomputable def endF (r:F):R D:=match r with
 | .nx _ S=>.ok .non S
 | .rt d S=>.ok d S
 | .ex c p S=>.ex c p S
 | _=>.bad
noncomputable def far:Nat:=24
noncomputable def runFn (T:Tab)(cl:Calls)(g:Fn)(vs:List D)(S:Store):R D:=
 if vs.length=g.ps.length then endF (seqS (g.body.map ((kit T cl far).s ⟨g.N,g.sc,g.lam⟩)) (startE g.N vs) S) else .bad
structure Prog where
 T:Tab
 fs:List Stmt
 ms:List (Nat×Nat×Stmt)
 lams:List Nat:=[]
noncomputable def Fn.mark (g:Fn):Fn:={ g with lam:=true }
noncomputable def Prog.fn (P:Prog)(f:Nat):Option Fn:=((P.fs[f]?).bind fnOf).map fun g=>if P.lams.contains f=true then g.mark else g
noncomputable def Prog.mt (P:Prog)(c m:Nat):Option Fn:=(P.ms.find? fun x=>x.1==c&&x.2.1==m).bind fun x=>fnOf x.2.2
noncomputable def calls (P:Prog):Nat->Calls
 | 0=>⟨fun _ _ _=>.bad,fun _ _ _ _=>.bad⟩
 | n+1=>⟨fun f vs S=>match P.fn f with | some g=>runFn P.T (calls P n) g vs S | none=>.bad,
  fun c m vs S=>match P.mt c m with | some g=>runFn P.T (calls P n) g vs S | none=>.bad⟩
end RF
namespace L2
open PySem PySem.Spec PyProof.Rows
open RF (D O Store Tab)
mutual
inductive RelD (M:List Addr) (H:Hp):D->V->Prop
 | non:RelD M H .non .non
 | bl (b:Bool):RelD M H (.bl b) (.bl b)
 | int (i:Int):RelD M H (.int i) (.int i)
 | str (x:Str):RelD M H (.str x) (.str x)
 | tup {xs:List D} {vs:List V} {a:Addr}:H a=some (.tup vs)->RelDs M H xs vs->RelD M H (.tup xs) (.ref a)
 | ref {n:Nat} {a:Addr}:M[n]?=some a->RelD M H (.ref n) (.ref a)
 | kt (a:Addr):RelD M H (.kt a) (.ref a)
inductive RelDs (M:List Addr) (H:Hp):List D->List V->Prop
 | nil:RelDs M H [] []
 | cons {x:D} {v:V} {xs:List D} {vs:List V}:RelD M H x v->RelDs M H xs vs->RelDs M H (x::xs) (v::vs)
end
structure Up0 (M:List Addr)(H:Hp)(M':List Addr)(H':Hp):Prop where
 pre:M <+: M'
 tups:∀b xs,H b=some (.tup xs)->H' b=some (.tup xs)
 xds:∀b o u,H b=some (.frz o (.xd u))->H' b=some (.frz o (.xd u))
structure Up (M:List Addr)(H:Hp)(M':List Addr)(H':Hp):Prop extends Up0 M H M' H' where
 frzs:∀b o u,H b=some (.frz o u)->H' b=some (.frz o u)
theorem Up.of {M M':List Addr}{H H':Hp}(p:M <+: M')(t:∀b xs,H b=some (.tup xs)->H' b=some (.tup xs))(f:∀b o u,H b=some (.frz o u)->H' b=some (.frz o u)):Up M H M' H':=⟨⟨p,t,fun b o _ h=>f b o _ h⟩,f⟩
theorem Up.refl (M:List Addr)(H:Hp):Up M H M H:=.of List.prefix_rfl (fun _ _ h=>h) fun _ _ _ h=>h
theorem Up.trans {M M1 M2:List Addr}{H H1 H2:Hp}(a:Up M H M1 H1)(b:Up M1 H1 M2 H2):Up M H M2 H2:=.of (a.pre.trans b.pre) (fun c xs h=>b.tups c xs (a.tups c xs h)) fun c o u h=>b.frzs c o u (a.frzs c o u h)
theorem pre_get {M M':List Addr}(h:M <+: M'){n:Nat}{a:Addr}(e:M[n]?=some a):M'[n]?=some a:=by
 obtain⟨t,rfl⟩:=h
 rw [List.getElem?_append_left (List.getElem?_eq_some_iff.mp e).1]
 exact e
section
variable {M M':List Addr}{H H':Hp}
mutual
theorem RelD.up0 {d:D}{v:V}(r:RelD M H d v)(u:Up0 M H M' H'):RelD M' H' d v:=by
 cases r with
 | non=>exact .non
 | bl b=>exact .bl b
 | int i=>exact .int i
 | str x=>exact .str x
 | tup h rs=>exact .tup (u.tups _ _ h) (rs.up0 u)
 | ref h=>exact .ref (pre_get u.pre h)
 | kt a=>exact .kt a
theorem RelDs.up0 {ds:List D}{vs:List V}(r:RelDs M H ds vs)(u:Up0 M H M' H'):RelDs M' H' ds vs:=by
 cases r with
 | nil=>exact .nil
 | cons h hs=>exact .cons (h.up0 u) (hs.up0 u)
end
theorem RelD.up {d:D}{v:V}(r:RelD M H d v)(u:Up M H M' H'):RelD M' H' d v:=r.up0 u.toUp0
theorem RelDs.up {ds:List D}{vs:List V}(r:RelDs M H ds vs)(u:Up M H M' H'):RelDs M' H' ds vs:=r.up0 u.toUp0
theorem RelDs.length {ds:List D}{vs:List V}(r:RelDs M H ds vs):ds.length=vs.length:=by
 induction ds generalizing vs with
 | nil=>cases r;rfl
 | cons d ds ih=>cases r with | cons _ h=>simp [ih h]
theorem RelDs.get {ds:List D}{vs:List V}(r:RelDs M H ds vs){i:Nat}{d:D}(e:ds[i]?=some d):∃v,vs[i]?=some v/\RelD M H d v:=by
 induction ds generalizing vs i with
 | nil=>simp at e
 | cons x xs ih=>
  cases r with
  | cons h hs=>
   cases i with
   | zero=>simp at e;subst e;exact⟨_,rfl,h⟩
   | succ i=>exact ih hs (by simpa using e)
theorem RelDs.get' {ds:List D}{vs:List V}(r:RelDs M H ds vs){i:Nat}{v:V}(e:vs[i]?=some v):∃d,ds[i]?=some d/\RelD M H d v:=by
 induction ds generalizing vs i with
 | nil=>cases r;simp at e
 | cons x xs ih=>
  cases r with
  | cons h hs=>
   cases i with
   | zero=>simp at e;subst e;exact⟨_,rfl,h⟩
   | succ i=>exact ih hs (by simpa using e)
theorem RelDs.append {ds es:List D}{vs ws:List V}(r:RelDs M H ds vs)(q:RelDs M H es ws):RelDs M H (ds++es) (vs++ws):=by
 induction ds generalizing vs with
 | nil=>cases r;exact q
 | cons d ds ih=>cases r with | cons h hs=>exact .cons h (ih hs)
theorem RelDs.set {ds:List D}{vs:List V}{d:D}{v:V}(r:RelDs M H ds vs)(q:RelD M H d v)(i:Nat):RelDs M H (ds.set i d) (vs.set i v):=by
 induction ds generalizing vs i with
 | nil=>cases r;exact .nil
 | cons x xs ih=>
  cases r with
  | cons h hs=>
   cases i with
   | zero=>exact .cons q hs
   | succ i=>exact .cons h (ih hs i)
theorem RelDs.drop {ds:List D}{vs:List V}(r:RelDs M H ds vs)(i:Nat):RelDs M H (ds.drop i) (vs.drop i):=by
 induction i generalizing ds vs with
 | zero=>exact r
 | succ i ih=>
  cases r with
  | nil=>exact .nil
  | cons _ hs=>exact ih hs
theorem RelDs.take {ds:List D}{vs:List V}(r:RelDs M H ds vs)(i:Nat):RelDs M H (ds.take i) (vs.take i):=by
 induction i generalizing ds vs with
 | zero=>exact .nil
 | succ i ih=>
  cases r with
  | nil=>exact .nil
  | cons h hs=>exact .cons h (ih hs)
theorem RelDs.nil_iff {ds:List D}{vs:List V}(r:RelDs M H ds vs):vs.isEmpty=ds.isEmpty:=by cases r<;>rfl
end
def ofKey:Key->D
 | .inl i=>.int i
 | .inr x=>.str x
def ofKeys (ks:List Key):D:=.tup (ks.map ofKey)
theorem ofKey_inj {a b:Key}(e:ofKey a=ofKey b):a=b:=by
 cases a<;>cases b<;>cases e<;>rfl
theorem ofKeyL_inj:∀{a b:List Key},a.map ofKey=b.map ofKey->a=b
 | [],[],_=>rfl
 | [],_::_,e=>by simp at e
 | _::_,[],e=>by simp at e
 | x::xs,y::ys,e=>by
  simp only [List.map_cons,List.cons.injEq] at e
  rw [ofKey_inj e.1,ofKeyL_inj e.2]
theorem ofKeys_inj {a b:List Key}(e:ofKeys a=ofKeys b):a=b:=ofKeyL_inj ((D.tup.injEq _ _).mp e)
theorem keyFlat_of {d:D}(h:RF.keyFlat d=true):∃k,d=ofKey k:=by
 cases d with
 | int i=>exact⟨.inl i,rfl⟩
 | str x=>exact⟨.inr x,rfl⟩
 | _=>simp [RF.keyFlat] at h
theorem keysFlat_of {ds:List D}(h:ds.all RF.keyFlat=true):∃ks:List Key,ds=ks.map ofKey:=by
 induction ds with
 | nil=>exact⟨[],rfl⟩
 | cons d ds ih=>
  simp only [List.all_cons,Bool.and_eq_true] at h
  obtain⟨k,rfl⟩:=keyFlat_of h.1
  obtain⟨ks,rfl⟩:=ih h.2
  exact⟨k::ks,rfl⟩
theorem keyTup_of {d:D}(h:RF.keyTup d=true):∃ks,d=ofKeys ks:=by
 cases d with
 | tup xs=>
  obtain⟨ks,rfl⟩:=keysFlat_of (show xs.all RF.keyFlat=true from h)
  exact⟨ks,rfl⟩
 | _=>simp [RF.keyTup] at h
theorem keyFlat_ofKey (k:Key):RF.keyFlat (ofKey k)=true:=by cases k<;>rfl
theorem keyTup_ofKeys (ks:List Key):RF.keyTup (ofKeys ks)=true:=by
 show (ks.map ofKey).all RF.keyFlat=true
 rw [List.all_map]
 exact List.all_eq_true.mpr fun k _=>keyFlat_ofKey k
theorem rel_kV {M:List Addr}{H:Hp}{k:Key}{v:V}(r:RelD M H (ofKey k) v):v=kV k:=by
 cases k<;>cases r<;>rfl
theorem rels_kV {M:List Addr}{H:Hp}{ks:List Key}{vs:List V}(r:RelDs M H (ks.map ofKey) vs):vs=ks.map kV:=by
 induction ks generalizing vs with
 | nil=>cases r;rfl
 | cons k ks ih=>cases r with | cons h hs=>rw [rel_kV h,ih hs];rfl
def KPair {κ:Type}(f:κ->D)(M:List Addr)(H:Hp)(p:D×D)(q:κ×V):Prop:=p.1=f q.1/\RelD M H p.2 q.2
def RolAt (K:PySem.W.Frag)(H:Hp)(a:Addr)(vs:List V):Prop:=(∃o,H a=some (.frz o (.lst vs))) \/
 ∃(o:Obj) (its:Array Value) (n:Nat),K.lookup a=some o/\o.cls = .type "list"/\o.dict=none/\o.data = .seq its n/\its.size<=sizeLine/\Vals vs its.toList
theorem RolAt.sq {K:PySem.W.Frag}{H:Hp}{a:Addr}{vs:List V}(h:RolAt K H a vs):SqL K H a vs:=by
 rcases h with⟨o,h⟩ | h
 ·exact .inl (.inr ⟨o,h⟩)
 ·exact .inr h
structure Adr where
 T:Tab
 c:Nat->Addr
 x:Nat->Addr
 tb:List (Addr×Str)
def PayAt (W:Adr)(M:List Addr)(H:Hp)(x:Nat)(o:Obj)(p:List D):Prop:=match p with
 | []=>o.dict=none
 | [d]=>∃f D u v,W.T.pay.lookup x=some f/\o.dict=some D/\H D=some (.frz u (.xd [(f,v)]))/\RelD M H d v
 | _=>False
theorem PayAt.up {W:Adr}{M M':List Addr}{H H':Hp}{x:Nat}{o:Obj}{p:List D}(h:PayAt W M H x o p)(u:Up0 M H M' H'):PayAt W M' H' x o p:=by
 match p,h with
 | [],h=>exact h
 | [d],⟨f,D,v,w,h1,h2,h3,h4⟩=>exact⟨f,D,v,w,h1,h2,u.xds _ _ _ h3,h4.up0 u⟩
def RelOb (K:PySem.W.Frag)(W:Adr)(M:List Addr)(H:Hp)(a:Addr):O->Prop
 | .lst xs=>∃vs,H a=some (.lst vs)/\RelDs M H xs vs
 | .rol xs=>∃vs,RolAt K H a vs/\RelDs M H xs vs
 | .dic kvs=>(∃ks:List (Key×V),H a=some (.dK ks)/\Paired (KPair ofKey M H) kvs ks)\/∃ts:List (List Key×V),H a=some (.dT ts)/\Paired (KPair ofKeys M H) kvs ts
 | .exc x p=>x<W.T.excs.length/\∃o,H a=some (excH o)/\ExcObj o (W.x x)/\PayAt W M H x o p
 | .obj c fs=>∃dx gs,H a=some (.ins (W.c c) dx gs)/\c<W.T.clss.length/\Paired (fun (p:Nat×D) (q:Str×V)=>(W.T.nams[p.1]?=some q.1/\W.T.plain c p.1=true)/\RelD M H p.2 q.2) fs gs
def isRol:Option O->Bool
 | some (.rol _)=>true
 | _=>false
structure Cn (K:PySem.W.Frag)(W:Adr)(M:List Addr)(S:Store)(H:Hp):Prop where
 len:M.length=S.length
 nod:W.T.nams.Nodup
 sep:∀(i j:Nat) (a:Addr),M[i]?=some a->M[j]?=some a->isRol S[i]?=false->isRol S[j]?=false->i=j
 at_:∀(i:Nat) (o:O) (a:Addr),S[i]?=some o->M[i]?=some a->RelOb K W M H a o
 tbl:∀p∈W.tb,Tbl H p.1 p.2
theorem tbl_keep {K:PySem.W.Frag}{W:Adr}{M:List Addr}{H H':Hp}{a:Addr}{o:O}(h:RelOb K W M H a o)(hr:isRol (some o)=false)(t:∀p∈W.tb,Tbl H p.1 p.2)(e:Grown a H H'):∀p∈W.tb,Tbl H' p.1 p.2:=fun p hp=>by
 cases o with
 | lst xs=>obtain⟨vs,h1,_⟩:=h;exact (t p hp).grown e h1 nofun nofun
 | rol xs=>simp [isRol] at hr
 | dic kvs=>
  rcases h with⟨_,h1,_⟩|⟨_,h1,_⟩
  ·exact (t p hp).grown e h1 nofun nofun
  ·exact (t p hp).grown e h1 nofun nofun
 | obj c fs=>obtain⟨_,_,h1,_⟩:=h;exact (t p hp).grown e h1 nofun nofun
 | exc x q=>obtain⟨_,_,h1,_⟩:=h;exact (t p hp).grown e h1 nofun nofun
section
variable {K:PySem.W.Frag}{W:Adr}{M M':List Addr}{S:Store}{H H':Hp}
theorem KPair.up0 {κ:Type}{f:κ->D}{p:D×D}{q:κ×V}(h:KPair f M H p q)(u:Up0 M H M' H'):KPair f M' H' p q:=⟨h.1,h.2.up0 u⟩
theorem Paired.up0 {κ:Type}{f:κ->D}{ps:List (D×D)}{qs:List (κ×V)}(h:Paired (KPair f M H) ps qs)(u:Up0 M H M' H'):Paired (KPair f M' H') ps qs:=Paired.mapP h fun _ _ z=>z.up0 u
theorem Paired.up {κ:Type}{f:κ->D}{ps:List (D×D)}{qs:List (κ×V)}(h:Paired (KPair f M H) ps qs)(u:Up M H M' H'):Paired (KPair f M' H') ps qs:=Paired.up0 h u.toUp0
theorem RelOb.up0 {a:Addr}{o:O}(h:RelOb K W M H a o)(u:Up0 M H M' H')(e:∀u,H a=some u->H' a=some u):RelOb K W M' H' a o:=by
 cases o with
 | lst xs=>obtain⟨vs,h1,h2⟩:=h;exact⟨vs,e _ h1,h2.up0 u⟩
 | rol xs=>
  obtain⟨vs,h1,h2⟩:=h
  refine⟨vs,?_,h2.up0 u⟩
  rcases h1 with⟨o,h1⟩ | h1
  ·exact .inl ⟨o,e _ h1⟩
  ·exact .inr h1
 | dic kvs=>
  rcases h with⟨ks,h1,h2⟩|⟨ts,h1,h2⟩
  ·exact .inl ⟨ks,e _ h1,Paired.up0 h2 u⟩
  ·exact .inr ⟨ts,e _ h1,Paired.up0 h2 u⟩
 | exc x p=>obtain⟨hx,o,h1,h2,h3⟩:=h;exact⟨hx,o,e _ h1,h2,h3.up u⟩
 | obj c fs=>obtain⟨dx,gs,h1,hc,h2⟩:=h;exact⟨dx,gs,e _ h1,hc,Paired.mapP h2 fun _ _ z=>⟨z.1,z.2.up0 u⟩⟩
theorem RelOb.up {a:Addr}{o:O}(h:RelOb K W M H a o)(u:Up M H M' H')(e:∀u,H a=some u->H' a=some u):RelOb K W M' H' a o:=h.up0 u.toUp0 e
theorem Cn.obj (c:Cn K W M S H){i:Nat}{a:Addr}(h:M[i]?=some a):∃o,S[i]?=some o/\RelOb K W M H a o:=by
 have hi:i<S.length:=by rw [<-c.len];exact (List.getElem?_eq_some_iff.mp h).1
 exact⟨S[i],by simp [hi],c.at_ i _ a (by simp [hi]) h⟩
theorem up_fresh {p:Addr}{o:HO}(hp:H p=none):Up M H M (upd H p o):=.of List.prefix_rfl (fun b xs h=>by rw [upd_ne (ne_of_none h hp)];exact h) fun b ob u h=>by rw [upd_ne (ne_of_none h hp)];exact h
theorem Cn.fresh (c:Cn K W M S H){p:Addr}{o:HO}(hp:H p=none):Cn K W M S (upd H p o):=
 ⟨c.len,c.nod,c.sep,fun i ob a h1 h2=>(c.at_ i ob a h1 h2).up (up_fresh hp) fun u h=>by rw [upd_ne (ne_of_none h hp)];exact h,fun q hq=>(c.tbl q hq).same fun b o h=>by rw [upd_ne (ne_of_none h hp)];exact h⟩
theorem up_new {p:Addr}{o:HO}(hp:H p=none):Up M H (M++[p]) (upd H p o):=.of (List.prefix_append _ _) (up_fresh (M:=M) hp).tups (up_fresh (M:=M) hp).frzs
theorem Cn.new (c:Cn K W M S H){p:Addr}{ho:HO}{o:O}(hp:H p=none)(hr:isRol (some o)=false)(h:RelOb K W (M++[p]) (upd H p ho) p o):Cn K W (M++[p]) (S++[o]) (upd H p ho):=by
 have old:∀i a,M[i]?=some a->isRol S[i]?=false->a≠p:=fun i a e nr z=>by
  obtain⟨ob,h1,h2⟩:=c.obj e
  subst z
  rw [h1] at nr
  cases ob with
  | lst xs=>obtain⟨_,h,_⟩:=h2;rw [hp] at h;cases h
  | rol xs=>simp [isRol] at nr
  | dic kvs=>rcases h2 with⟨_,h,_⟩|⟨_,h,_⟩<;>(rw [hp] at h;cases h)
  | obj cc fs=>obtain⟨_,_,h,_⟩:=h2;rw [hp] at h;cases h
  | exc x q=>obtain⟨_,_,h,_⟩:=h2;rw [hp] at h;cases h
 refine⟨by simp [c.len],c.nod,fun i j a h1 h2 r1 r2=>?_,fun i ob a h1 h2=>?_,fun q hq=>(c.tbl q hq).same fun b o h=>by rw [upd_ne (ne_of_none h hp)];exact h⟩
 ·rcases Nat.lt_or_ge i M.length with hi | hi
  ·rw [List.getElem?_append_left hi] at h1
   rw [List.getElem?_append_left (by rw [<-c.len];exact hi)] at r1
   rcases Nat.lt_or_ge j M.length with hj | hj
   ·rw [List.getElem?_append_left hj] at h2
    rw [List.getElem?_append_left (by rw [<-c.len];exact hj)] at r2
    exact c.sep i j a h1 h2 r1 r2
   ·rw [List.getElem?_append_right hj] at h2
    have:a=p:=by
     cases e:j-M.length with
     | zero=>rw [e] at h2;simpa using h2.symm
     | succ k=>rw [e] at h2;simp at h2
    exact absurd this (old i a h1 r1)
  ·rw [List.getElem?_append_right hi] at h1
   have ha:a=p/\i=M.length:=by
    cases e:i-M.length with
    | zero=>rw [e] at h1;exact⟨by simpa using h1.symm,by omega⟩
    | succ k=>rw [e] at h1;simp at h1
   rcases Nat.lt_or_ge j M.length with hj | hj
   ·rw [List.getElem?_append_left hj] at h2
    rw [List.getElem?_append_left (by rw [<-c.len];exact hj)] at r2
    exact absurd ha.1 (old j a h2 r2)
   ·rw [List.getElem?_append_right hj] at h2
    have:j=M.length:=by
     cases e:j-M.length with
     | zero=>omega
     | succ k=>rw [e] at h2;simp at h2
    rw [ha.2,this]
 ·rcases Nat.lt_or_ge i M.length with hi | hi
  ·rw [List.getElem?_append_left hi] at h2
   rw [List.getElem?_append_left (by rw [<-c.len];exact hi)] at h1
   exact (c.at_ i ob a h1 h2).up (up_new hp) fun u q=>by rw [upd_ne (ne_of_none q hp)];exact q
  ·rw [List.getElem?_append_right hi] at h2
   rw [List.getElem?_append_right (by rw [<-c.len];exact hi)] at h1
   cases e:i-M.length with
   | zero=>
    rw [e] at h2
    rw [<-c.len,e] at h1
    have h1:o=ob:=by simpa using h1
    have h2:p=a:=by simpa using h2
    subst h1 h2
    exact h
   | succ k=>rw [e] at h2;simp at h2
def isTX:HO->Bool
 | .tup _ | .frz _ (.xd _)=>true
 | _=>false
def NoTup (o:Option HO):Prop:=∀u,o=some u->isTX u=false
def isFix:HO->Bool
 | .tup _=>true
 | .frz _ _=>true
 | _=>false
def NoFix (o:Option HO):Prop:=∀u,o=some u->isFix u=false
theorem nofix {a:Addr}{o:HO}(e:H a=some o)(h:isFix o=false):NoFix (H a):=fun u z=>by rw [e] at z;cases z;exact h
theorem NoFix.tup {o:Option HO}(h:NoFix o):NoTup o:=fun u z=>by cases u<;>first | rfl | (have q:=h _ z;cases q)
theorem up_put0 {a:Addr}{ho:HO}(hn:NoTup (H a)):Up0 M H M (upd H a ho):=⟨List.prefix_rfl,fun b xs h=>by
 rw [upd_ne fun z=>by subst z;cases hn _ h];exact h,fun b o u h=>by
 rw [upd_ne fun z=>by subst z;cases hn _ h];exact h⟩
theorem up_put {a:Addr}{ho:HO}(hn:NoFix (H a)):Up M H M (upd H a ho):=⟨up_put0 hn.tup,fun b o u h=>by
 rw [upd_ne fun z=>by subst z;cases hn _ h];exact h⟩
theorem Cn.put0 (c:Cn K W M S H){i:Nat}{a:Addr}{o o':O}{ho':HO}(hS:S[i]?=some o)(hM:M[i]?=some a)(hr:isRol (some o)=false)(hr':isRol (some o')=false)(hn:NoTup (H a))(hf:∀ob vs,H a≠some (.frz ob (.lst vs)))
 (h:RelOb K W M (upd H a ho') a o'):Cn K W M (S.set i o') (upd H a ho'):=by
 have hi:i<S.length:=(List.getElem?_eq_some_iff.mp hS).1
 refine⟨by simp [c.len],c.nod,fun j k b h1 h2 r1 r2=>c.sep j k b h1 h2 ?_ ?_,fun j ob b h1 h2=>?_,tbl_keep (c.at_ i o a hS hM) hr c.tbl fun b u z h=>by rw [upd_ne z];exact h⟩
 ·by_cases e:j=i
  ·subst e;rw [hS];exact hr
  ·rwa [List.getElem?_set_ne (Ne.symm e)] at r1
 ·by_cases e:k=i
  ·subst e;rw [hS];exact hr
  ·rwa [List.getElem?_set_ne (Ne.symm e)] at r2
 ·by_cases e:j=i
  ·subst e
   rw [List.getElem?_set_self hi] at h1
   rw [hM] at h2
   cases h1
   cases h2
   exact h
  ·rw [List.getElem?_set_ne (Ne.symm e)] at h1
   have q:=c.at_ j ob b h1 h2
   by_cases z:b=a
   ·subst z
    cases ob with
    | rol xs=>
     obtain⟨vs,g1,g2⟩:=q
     rcases g1 with⟨o1,g1⟩ | g1
     ·exact absurd g1 (hf o1 vs)
     ·exact⟨vs,.inr g1,g2.up0 (up_put0 hn)⟩
    | _=>exact absurd (c.sep j i b h2 hM (by rw [h1];rfl) (by rw [hS];exact hr)) e
   ·exact q.up0 (up_put0 hn) fun u g=>by rw [upd_ne z];exact g
theorem Cn.put (c:Cn K W M S H){i:Nat}{a:Addr}{o o':O}{ho':HO}(hS:S[i]?=some o)(hM:M[i]?=some a)(hr:isRol (some o)=false)(hr':isRol (some o')=false)(hn:NoFix (H a))
 (h:RelOb K W M (upd H a ho') a o'):Cn K W M (S.set i o') (upd H a ho'):=c.put0 hS hM hr hr' hn.tup (fun ob vs z=>by cases hn _ z) h
def REnv (M:List Addr)(H:Hp)(ρ:RF.Env)(σ:St):Prop:=∀(i:Nat) (d:D),ρ[i]?=some (some d)->∃v,σ[i]?=some (some v)/\RelD M H d v
theorem REnv.up {ρ:RF.Env}{σ:St}(h:REnv M H ρ σ)(u:Up M H M' H'):REnv M' H' ρ σ:=fun i d e=>let ⟨v,a,b⟩:=h i d e;⟨v,a,b.up u⟩
theorem REnv.set {ρ:RF.Env}{σ:St}{i:Nat}{d:D}{v:V}(h:REnv M H ρ σ)(r:RelD M H d v)(hl:ρ.length<=σ.length):REnv M H (ρ.set i (some d)) (σ.set i (some v)):=fun j x e=>by
 by_cases z:i=j
 ·subst z
  have hi:i<ρ.length:=by have:=(List.getElem?_eq_some_iff.mp e).1;simpa using this
  rw [List.getElem?_set_self hi] at e
  cases e
  exact⟨v,by rw [List.getElem?_set_self (by omega)],r⟩
 ·rw [List.getElem?_set_ne z] at e
  obtain⟨u,a,b⟩:=h j x e
  exact⟨u,by rw [List.getElem?_set_ne z];exact a,b⟩
end
end L2
namespace L2
open PySem PySem.Spec PyProof.Rows
open RF (D O Store Tab)
structure Sm (K:PySem.W.Frag)(W:Adr)(M:List Addr)(S:Store)(H:Hp)(ρ:RF.Env)(σ:St):Prop where
 con:Cn K W M S H
 env:REnv M H ρ σ
 len:ρ.length=σ.length
section
variable {K:PySem.W.Frag}{W:Adr}{M M1 M2:List Addr}{S S1 S2:Store}{H H1 H2:Hp}{ρ:RF.Env}{σ:St}{E:XK}
theorem Sm.to (s:Sm K W M S H ρ σ)(c:Cn K W M1 S1 H1)(u:Up M H M1 H1):Sm K W M1 S1 H1 ρ σ:=⟨c,s.env.up u,s.len⟩
def ExE (K:PySem.W.Frag)(W:Adr)(E:XK)(M:List Addr)(H:Hp)(x:Nat)(p:List D)(S':Store):Prop:=match p with
 | []=>W.T.pay.lookup x=none/\∀M' H',Cn K W M' S' H'->Up M H M' H'->E (.ref (W.x x)) none H'
 | [d]=>∃f,W.T.pay.lookup x=some f/\∀M' H' v Dx,Cn K W M' S' H'->Up M H M' H'->RelD M' H' d v->H' Dx=some (.xd [(f,v)])->E (.ref (W.x x)) (some Dx) H'
 | _=>False
theorem ExE.up {x:Nat}{p:List D}(h:ExE K W E M H x p S)(u:Up M H M1 H1):ExE K W E M1 H1 x p S:=by
 match p,h with
 | [],h=>exact⟨h.1,fun M' H' c u'=>h.2 M' H' c (u.trans u')⟩
 | [d],h=>obtain⟨f,h1,h2⟩:=h;exact⟨f,h1,fun M' H' v Dx c u'=>h2 M' H' v Dx c (u.trans u')⟩
def GlG {α β:Type}(K:PySem.W.Frag)(W:Adr)(rel:List Addr->Hp->α->β->Prop)(E:XK)(M:List Addr)(H:Hp)(r:RF.R α)(Q:β->Hp->Prop):Prop:=match r with
 | .ok a S'=>∀M' H' b,Cn K W M' S' H'->Up M H M' H'->rel M' H' a b->Q b H'
 | .ex x p S'=>ExE K W E M H x p S'
 | .bad=>False
theorem GlG.up {α β:Type}{rel:List Addr->Hp->α->β->Prop}{r:RF.R α}{Q:β->Hp->Prop}(h:GlG K W rel E M H r Q)(u:Up M H M1 H1):GlG K W rel E M1 H1 r Q:=by
 cases r with
 | ok a S'=>exact fun M' H' b c u'=>h M' H' b c (u.trans u')
 | ex x p S'=>exact ExE.up h u
 | bad=>exact h
theorem GlG.now {α β:Type}{rel:List Addr->Hp->α->β->Prop}{a:α}{b:β}{Q:β->Hp->Prop}(h:GlG K W rel E M H (.ok a S) Q)(c:Cn K W M S H)(r:rel M H a b):Q b H:=h M H b c (Up.refl _ _) r
theorem GlG.at_ {α β:Type}{rel:List Addr->Hp->α->β->Prop}{a:α}{b:β}{Q:β->Hp->Prop}(h:GlG K W rel E M H (.ok a S1) Q)(c:Cn K W M1 S1 H1)(u:Up M H M1 H1)(r:rel M1 H1 a b):Q b H1:=h M1 H1 b c u r
def tG {α β:Type}(K:PySem.W.Frag)(W:Adr)(rel:List Addr->Hp->α->β->Prop)(E:XK)(c:RF.C α):St->Hp->(β->Hp->Prop)->Prop:=fun σ H Q=>∃M ρ S,Sm K W M S H ρ σ/\GlG K W rel E M H (c ρ S) Q
theorem seqR {α β γ δ:Type}{rel:List Addr->Hp->α->β->Prop}{rel':List Addr->Hp->γ->δ->Prop}{r:RF.R α}{g:α->Store->RF.R γ}{Q:δ->Hp->Prop}{Q1:β->Hp->Prop}
 (h:GlG K W rel' E M H (r.bind g) Q) (k:∀M1 H1 a b S1,Cn K W M1 S1 H1->Up M H M1 H1->rel M1 H1 a b->GlG K W rel' E M1 H1 (g a S1) Q->Q1 b H1):GlG K W rel E M H r Q1:=by
 cases r with
 | ok a S1=>exact fun M1 H1 b c1 u1 r1=>k M1 H1 a b S1 c1 u1 r1 (GlG.up h u1)
 | ex x p S1=>exact h
 | bad=>exact h
theorem seqG {α β γ δ:Type}{rel:List Addr->Hp->α->β->Prop}{rel':List Addr->Hp->γ->δ->Prop}{c:RF.C α}{g:α->Store->RF.R γ}{Q:δ->Hp->Prop}{Q1:β->Hp->Prop}(s:Sm K W M S H ρ σ)
 (h:GlG K W rel' E M H ((c ρ S).bind g) Q) (k:∀M1 H1 a b S1,Sm K W M1 S1 H1 ρ σ->Up M H M1 H1->rel M1 H1 a b->GlG K W rel' E M1 H1 (g a S1) Q->Q1 b H1):tG K W rel E c σ H Q1:=
 ⟨M,ρ,S,s,seqR h fun M1 H1 a b S1 c1 u1 r1 g1=>k M1 H1 a b S1 (s.to c1 u1) u1 r1 g1⟩
theorem GlG.guard {α β:Type}{rel:List Addr->Hp->α->β->Prop}{b:Bool}{r:RF.R α}{Q:β->Hp->Prop}(h:GlG K W rel E M H (RF.guardR b r) Q):b=true/\GlG K W rel E M H r Q:=by
 unfold RF.guardR at h
 cases b with
 | true=>exact⟨rfl,h⟩
 | false=>exact h.elim
end
abbrev tE (K:PySem.W.Frag)(W:Adr)(E:XK)(c:RF.C D):TE:=tG K W RelD E c
abbrev tT (K:PySem.W.Frag)(W:Adr)(E:XK)(c:RF.C Bool):TT:=tG K W (fun _ _ a b=>a=b) E c
abbrev tA (K:PySem.W.Frag)(W:Adr)(E:XK)(c:RF.C (List D)):TA:=tG K W RelDs E c
theorem PE.imp {X:Cx}{e:Expr}{t t':TE}(h:PE X e t)(i:∀σ H Q,t' σ H Q->t σ H Q):PE X e t':=fun pins s σ H Q I q=>h pins s σ H Q I (i σ H Q q)
theorem PE.or {X:Cx}{e:Expr}{t t':TE}(h:PE X e t)(h':PE X e t'):PE X e (fun σ H Q=>t σ H Q\/t' σ H Q):=fun pins s σ H Q I q=>q.elim (h pins s σ H Q I) (h' pins s σ H Q I)
theorem PT.imp {X:Cx}{e:Expr}{t t':TT}(h:PT X e t)(i:∀σ H Q,t' σ H Q->t σ H Q):PT X e t':=fun pins s σ H Q I q=>h pins s σ H Q I (i σ H Q q)
theorem PW.imp {X:Cx}{e:Expr}{t t':TT}(h:PW X e t)(i:∀σ H Q,t' σ H Q->t σ H Q):PW X e t':=fun wh pins s σ H Q I q=>h wh pins s σ H Q I (i σ H Q q)
theorem PA.imp {X:Cx}{es:List Expr}{t t':TA}(h:PA X es t)(i:∀σ H Q,t' σ H Q->t σ H Q):PA X es t':=fun pos pins s σ H Q I q=>h pos pins s σ H Q I (i σ H Q q)
theorem PS.imp {X:Cx}{st:Stmt}{t t':TS}(h:PS X st t)(i:∀D σ H,t' D σ H->t D σ H):PS X st t':=fun pins s σ H D I q=>h pins s σ H D I (i D σ H q)
theorem PSs.imp {X:Cx}{st:List Stmt}{t t':TS}(h:PSs X st t)(i:∀D σ H,t' D σ H->t D σ H):PSs X st t':=fun pins s σ H D I q=>h pins s σ H D I (i D σ H q)
theorem tG_bad {K:PySem.W.Frag}{W:Adr}{α β:Type}{rel:List Addr->Hp->α->β->Prop}{E:XK}{σ:St}{H:Hp}{Q:β->Hp->Prop}(h:tG K W rel E RF.badC σ H Q):False:=by
 obtain⟨M,ρ,S,s,g⟩:=h
 exact g
theorem pe_bad {X:Cx}{K:PySem.W.Frag}{W:Adr}{e:Expr}{E:XK}:PE X e (tE K W E RF.badC):=fun _ _ _ _ _ _ h=>(tG_bad h).elim
theorem pt_bad {X:Cx}{K:PySem.W.Frag}{W:Adr}{e:Expr}{E:XK}:PT X e (tT K W E RF.badC):=fun _ _ _ _ _ _ h=>(tG_bad h).elim
section
variable {X:Cx}{W:Adr}{E:XK}{a b c:Expr}{ca cb cc:RF.C D}{pos:Pos}
def OpS (X:Cx)(W:Adr)(E:XK)(f:D->D->Store->RF.R D)(r:R2):Prop:=∀(M:List Addr) (S:Store) (H:Hp) (x y:D) (u v:V) (Q:VK),Cn X.K W M S H->RelD M H x u->RelD M H y v->GlG X.K W RelD E M H (f x y S) Q->r u v H Q
theorem op2 {f:D->D->Store->RF.R D}{r:R2}(hr:OpS X W E f r){σ:St}{H:Hp}{Q:VK}(h:tE X.K W E (RF.bin2 f ca cb) σ H Q):tOp r (tE X.K W E ca) (tE X.K W E cb) σ H Q:=by
 obtain⟨M,ρ,S,s,g⟩:=h
 exact seqG s g fun M1 H1 x u S1 s1 u1 r1 g1=>seqG s1 g1 fun M2 H2 y v S2 s2 u2 r2 g2=>hr M2 S2 H2 x y u v Q s2.con (r1.up u2) r2 g2
theorem sn_bin {op:Operator}{r:R2}(ho:OpR X (binaryOp op) r)(hr:OpS X W E (RF.opD op) r)(ha:PE X a (tE X.K W E ca))(hb:PE X b (tE X.K W E cb)):PE X (.BinOp a op b pos) (tE X.K W E (RF.binE op ca cb)):=
 (pe_op ho ha hb).imp fun _ _ _ h=>op2 hr h
theorem sn_cmp {op:CmpOp}{r:R2}(ho:OpR X (compareOp op) r)(hr:OpS X W E (RF.cmpD op) r)(ha:PE X a (tE X.K W E ca))(hb:PE X b (tE X.K W E cb))(hm:behindInMarks op b=false):PE X (.Compare a [op] [b] pos) (tE X.K W E (RF.cmpE op ca cb)):=
 (pe_cmpR ho ha hb hm).imp fun _ _ _ h=>op2 hr h
theorem bool_gl {α β:Type}{rel:List Addr->Hp->α->β->Prop}{K:PySem.W.Frag}{M:List Addr}{H:Hp}{d:D}{S:Store}{g:Bool->Store->RF.R α}{Q:β->Hp->Prop}(h:GlG K W rel E M H ((RF.boolOf d S).bind g) Q):∃b,d = .bl b/\GlG K W rel E M H (g b S) Q:=by
 cases d with
 | bl b=>exact⟨b,rfl,h⟩
 | _=>exact h.elim
theorem sn_testCmp {op:CmpOp}{r:R2}(ho:OpR X (compareOp op) r)(hr:OpS X W E (RF.cmpD op) r)(ha:PE X a (tE X.K W E ca))(hb:PE X b (tE X.K W E cb))(hm:behindInMarks op b=false):PT X (.Compare a [op] [b] pos) (tT X.K W E (RF.testB (RF.cmpE op ca cb))):=by
 refine (pt_cmpR ho ha hb hm).imp fun σ H Q h=>?_
 obtain⟨M,ρ,S,s,g⟩:=h
 refine op2 hr (Q:=fun x H'=>∃k,x = .bl k/\Q k H') ⟨M,ρ,S,s,?_⟩
 refine seqR g fun M1 H1 d v S1 c1 u1 r1 g1=>?_
 cases d with
 | bl k=>cases r1;exact⟨k,rfl,GlG.now g1 c1 rfl⟩
 | _=>exact g1.elim
theorem chain_rd {o1 o2:CmpOp}{r1 r2:R2}(h1:OpS X W E (RF.cmpD o1) r1)(h2:OpS X W E (RF.cmpD o2) r2){σ:St}{H:Hp}{Q:VK}(h:tE X.K W E (RF.chainE o1 o2 ca cb cc) σ H Q):tChain r1 r2 (tE X.K W E ca) (tE X.K W E cb) (tE X.K W E cc) σ H Q:=by
 obtain⟨M,ρ,S,s,g⟩:=h
 refine seqG s g fun M1 H1 x u S1 s1 u1 rx g1=>seqG s1 g1 fun M2 H2 y v S2 s2 u2 ry g2=>?_
 refine h1 M2 S2 H2 x y u v _ s2.con (rx.up u2) ry (seqR g2 fun M3 H3 d w S3 c3 u3 rd g3=>?_)
 obtain⟨k,rfl,g3⟩:=bool_gl g3
 cases rd
 refine⟨k,rfl,?_⟩
 have s3:=s2.to c3 u3
 cases k with
 | false=>exact iteF (GlG.now g3 c3 (.bl false))
 | true=>exact iteT (seqG s3 g3 fun M4 H4 z w' S4 s4 u4 rz g4=>h2 M4 S4 H4 y z v w' Q s4.con ((ry.up u3).up u4) rz g4)
theorem lastMarks_no {o1 o2:CmpOp}{b c:Expr}(hc:RF.noSet c=true):lastMarks [o1,o2] [b,c]=false:=by
 cases c<;>first | rfl | (simp [RF.noSet] at hc)
theorem mark_no {op:CmpOp}{b:Expr}(h:RF.noSet b=true):behindInMarks op b=false:=by
 cases b<;>first | rfl | (simp [RF.noSet] at h)
theorem sn_chain {o1 o2:CmpOp}{r1 r2:R2}(q1:OpR X (compareOp o1) r1)(q2:OpR X (compareOp o2) r2)(h1:OpS X W E (RF.cmpD o1) r1)(h2:OpS X W E (RF.cmpD o2) r2)(ha:PE X a (tE X.K W E ca))(hb:PE X b (tE X.K W E cb))(hc:PE X c (tE X.K W E cc))(hs:RF.noSet c=true):
 PE X (.Compare a [o1,o2] [b,c] pos) (tE X.K W E (RF.chainE o1 o2 ca cb cc)):=
 (pe_chain q1 q2 ha hb hc (lastMarks_no hs)).imp fun _ _ _ h=>chain_rd h1 h2 h
theorem sn_testChain {o1 o2:CmpOp}{r1 r2:R2}(q1:OpR X (compareOp o1) r1)(q2:OpR X (compareOp o2) r2)(h1:OpS X W E (RF.cmpD o1) r1)(h2:OpS X W E (RF.cmpD o2) r2)(ha:PE X a (tE X.K W E ca))(hb:PE X b (tE X.K W E cb))(hc:PE X c (tE X.K W E cc))(hs:RF.noSet c=true):
 PT X (.Compare a [o1,o2] [b,c] pos) (tT X.K W E (RF.testB (RF.chainE o1 o2 ca cb cc))):=by
 refine (pt_chain q1 q2 ha hb hc (lastMarks_no hs)).imp fun σ H Q h=>?_
 obtain⟨M,ρ,S,s,g⟩:=h
 refine chain_rd h1 h2 (Q:=fun x H'=>∃k,x = .bl k/\Q k H') ⟨M,ρ,S,s,?_⟩
 refine seqR g fun M1 H1 d v S1 c1 u1 r1 g1=>?_
 cases d with
 | bl k=>cases r1;exact⟨k,rfl,GlG.now g1 c1 rfl⟩
 | _=>exact g1.elim
end
end L2
namespace L2
open PySem PySem.Spec PyProof.Rows
open RF (D O Store Tab)
section
variable {X:Cx}{W:Adr}{E:XK}
theorem rel_tup {M:List Addr}{H:Hp}{xs:List D}{v:V}(r:RelD M H (.tup xs) v):∃a vs,v = .ref a/\H a=some (.tup vs)/\RelDs M H xs vs:=by
 cases r with | tup h hs=>exact⟨_,_,rfl,h,hs⟩
theorem rel_ref {M:List Addr}{H:Hp}{n:Nat}{v:V}(r:RelD M H (.ref n) v):∃a,v = .ref a/\M[n]?=some a:=by
 cases r with | ref h=>exact⟨_,rfl,h⟩
theorem new_at {M:List Addr}{p:Addr}{H H':Hp}{S:Store}{K:PySem.W.Frag}(c:Cn K W M S H):RelD (M++[p]) (H') (.ref S.length) (.ref p):=.ref (by rw [<-c.len];simp)
theorem Cn.newL {K:PySem.W.Frag}{M:List Addr}{S:Store}{H:Hp}(c:Cn K W M S H){p:Addr}{xs:List D}{vs:List V}(hp:H p=none)(r:RelDs M H xs vs):Cn K W (M++[p]) (S++[.lst xs]) (upd H p (.lst vs)):=
 c.new hp rfl ⟨vs,upd_same,r.up (up_new hp)⟩
theorem gl_newL {K:PySem.W.Frag}{M:List Addr}{S:Store}{H:Hp}{Q:VK}{xs:List D}{vs:List V}(g:GlG K W RelD E M H (RF.newO (.lst xs) S) Q)(c:Cn K W M S H)(r:RelDs M H xs vs):∀p,H p=none->Q (.ref p) (upd H p (.lst vs)):=fun p hp=>
 GlG.at_ g (c.newL hp r) (up_new hp) (new_at c)
def rAddS:R2:=fun x y H Q=>∃a b,x = .str a/\y = .str b/\a.length+b.length<=sizeLine/\Q (.str (a++b)) H
theorem op_addS:OpR X (binaryOp .Add) rAddS:=fun pins s σ H x y v u Q I rx ry ⟨a,b,e1,e2,hz,q⟩=>by
 subst e1 e2
 obtain⟨t,rfl⟩:=rx
 obtain⟨t2,rfl⟩:=ry
 exact PyProof.Rows.add_str (fun t' tk=>⟨.str _,H,I.tok _,⟨_,rfl⟩,q⟩) hz
def rMulS:R2:=fun x y H Q=>∃a n,x = .str a/\y = .int n/\0<=n/\n<=1000/\a.length<=1000/\Q (.str (Txt.mul a n)) H
theorem op_mulS:OpR X (binaryOp .Mult) rMulS:=fun pins s σ H x y v u Q I rx ry ⟨a,n,e1,e2,h0,h1,hz,q⟩=>by
 subst e1 e2
 obtain⟨t,rfl⟩:=rx
 obtain⟨t2,rfl⟩:=ry
 refine PySem.SB.mul ⟨?_,fun h3 _=>?_,fun _ _=>?_⟩ fun t' k=>⟨.str _,H,I.tok _,⟨_,rfl⟩,q⟩
 ·have e1:decide (n < -(2 ^ 63:Int))=false:=decide_eq_false (by omega)
  have e2:decide (n >= 2 ^ 63)=false:=decide_eq_false (by omega)
  rw [e1,e2];rfl
 ·have h4:(1:Int)<=n:=by omega
  have:(2 ^ 63-1) / n >= 9223372036854775:=Int.le_ediv_of_mul_le (by omega) (by omega)
  omega
 ·have:a.length*n.toNat<=1000*1000:=Nat.mul_le_mul hz (by omega)
  exact decide_eq_false (by rw [Nat.not_lt];exact Nat.le_trans this (by decide))
def rAddA:R2:=fun x y H Q=>rI0 (fun i j=>.int (i+j)) x y H Q\/rAddS x y H Q\/rCat x y H Q
theorem op_addA:OpR X (binaryOp .Add) rAddA:=op_add.or (op_addS.or op_cat)
theorem Cn.lst {K:PySem.W.Frag}{M:List Addr}{S:Store}{H:Hp}(c:Cn K W M S H){n:Nat}{a:Addr}{xs:List D}(h:S[n]?=some (.lst xs))(e:M[n]?=some a):∃vs,H a=some (.lst vs)/\RelDs M H xs vs:=c.at_ n _ a h e
theorem Cn.items {K:PySem.W.Frag}{M:List Addr}{S:Store}{H:Hp}(c:Cn K W M S H){n:Nat}{a:Addr}{xs:List D}(h:RF.itemsOf S (.ref n)=some xs)(e:M[n]?=some a):∃vs,SqL K H a vs/\RelDs M H xs vs:=by
 unfold RF.itemsOf at h
 dsimp only at h
 split at h
 ·rename_i ys hS
  cases h
  obtain⟨vs,h1,h2⟩:=c.lst hS e
  exact⟨vs,SqL.of h1,h2⟩
 ·rename_i ys hS
  cases h
  obtain⟨vs,h1,h2⟩:=c.at_ n _ a hS e
  exact⟨vs,h1.sq,h2⟩
 ·cases h
theorem os_add:OpS X W E (RF.opD .Add) rAddA:=by
 intro M S H x y u v Q c rx ry g
 change GlG X.K W RelD E M H (RF.addD x y S) Q at g
 unfold RF.addD at g
 split at g
 ·cases rx;cases ry
  exact .inl ⟨_,_,rfl,rfl,GlG.now g c (.int _)⟩
 ·cases rx;cases ry
  obtain⟨hz,g⟩:=GlG.guard g
  exact .inr (.inl ⟨_,_,rfl,rfl,of_decide_eq_true hz,GlG.now g c (.str _)⟩)
 ·rename_i m n
  split at g
  ·rename_i xs ys h1 h2
   obtain⟨a,rfl,ea⟩:=rel_ref rx
   obtain⟨b,rfl,eb⟩:=rel_ref ry
   obtain⟨vs,ha,hx⟩:=c.lst h1 ea
   obtain⟨ws,hb,hy⟩:=c.lst h2 eb
   obtain⟨hz,g⟩:=GlG.guard g
   have hz:xs.length+ys.length<=sizeLine:=of_decide_eq_true hz
   exact .inr (.inr ⟨a,b,vs,ws,rfl,rfl,ha,hb,by rw [<-hx.length,<-hy.length];exact hz,gl_newL g c (hx.append hy)⟩)
  ·exact g.elim
 ·exact g.elim
theorem bitsN {z:Int}{m:Nat}(h:z.natAbs<2 ^ m):Builtin.Int.intBits z<=m:=(PySem.intBits_le_iff (x:=z) (m:=m)).mpr h
theorem mulOk_of {a b:Int}(h:RF.mulOk a b=true):IntMulOk a b:=by
 unfold RF.mulOk at h
 simp only [Bool.or_eq_true,Bool.and_eq_true,decide_eq_true_eq] at h
 rcases h with (h | h) | ⟨h1,h2⟩
 ·exact .of_left (bitsN h)
 ·exact .of_right (bitsN h)
 ·exact PySem.IntMulOk.of_bits (Nat.le_trans (bitsN h1) (by decide)) (Nat.le_trans (bitsN h2) (by decide))
theorem os_int {op:Operator}{C:Int->Int->Prop}{f:Int->Int->Int}(h:∀(x y:D) (S:Store),RF.opD op x y S = .bad\/∃i j,x = .int i/\y = .int j/\C i j/\RF.opD op x y S = .ok (.int (f i j)) S):OpS X W E (RF.opD op) (rI C fun i j=>.int (f i j)):=by
 intro M S H x y u v Q c rx ry g
 rcases h x y S with e | ⟨i,j,rfl,rfl,hc,e⟩
 ·rw [e] at g;exact g.elim
 ·rw [e] at g
  cases rx;cases ry
  exact⟨i,j,rfl,rfl,hc,GlG.now g c (.int _)⟩
def yes:Int->Int->Prop:=fun _ _=>True
theorem op_subY:OpR X (binaryOp .Sub) (rI yes fun i j=>.int (i-j)):=fun pins s σ H x y v u Q I rx ry ⟨i,j,e1,e2,_,q⟩=>op_sub pins s σ H x y v u Q I rx ry ⟨i,j,e1,e2,q⟩
theorem os_sub:OpS X W E (RF.opD .Sub) (rI yes fun i j=>.int (i-j)):=os_int fun x y S=>by
 cases x<;>cases y<;>first | exact .inl rfl | exact .inr ⟨_,_,rfl,rfl,trivial,rfl⟩
def rMulA (K:PySem.W.Frag):R2:=fun x y H Q=>rI IntMulOk (fun i j=>.int (i*j)) x y H Q\/rMulS x y H Q\/rRepT K x y H Q
theorem op_mulA:OpR X (binaryOp .Mult) (rMulA X.K):=op_mulX.or (op_mulS.or op_repT)
theorem RelDs.flat {M:List Addr}{H:Hp}{xs:List D}{vs:List V}(h:RelDs M H xs vs):∀k:Nat,RelDs M H (List.replicate k xs).flatten (List.replicate k vs).flatten
 | 0=>.nil
 | k+1=>by rw [List.replicate_succ,List.replicate_succ,List.flatten_cons,List.flatten_cons];exact h.append (RelDs.flat h k)
theorem os_mul:OpS X W E (RF.opD .Mult) (rMulA X.K):=by
 intro M S H x y u v Q c rx ry g
 change GlG X.K W RelD E M H (RF.mulD x y S) Q at g
 unfold RF.mulD at g
 split at g
 ·cases rx;cases ry
  obtain⟨hz,g⟩:=GlG.guard g
  exact .inl ⟨_,_,rfl,rfl,mulOk_of hz,GlG.now g c (.int _)⟩
 ·cases rx;cases ry
  obtain⟨hz,g⟩:=GlG.guard g
  simp only [Bool.and_eq_true,decide_eq_true_eq] at hz
  exact .inr (.inl ⟨_,_,rfl,rfl,hz.1.1,hz.1.2,hz.2,GlG.now g c (.str _)⟩)
 ·rename_i xs k
  obtain⟨a,vs,rfl,ha,hx⟩:=rel_tup rx
  cases ry
  obtain⟨hz,g⟩:=GlG.guard g
  simp only [Bool.and_eq_true,decide_eq_true_eq,Bool.not_eq_true'] at hz
  obtain⟨⟨⟨z1,z2⟩,z3⟩,z4⟩:=hz
  refine .inr (.inr ⟨a,k,vs,rfl,rfl,SqT.of ha,fun e=>?_,z2,z3,by rw [<-hx.length];exact z4,fun p hp=>?_⟩)
  ·subst e
   cases hx
   cases z1
  ·exact GlG.at_ g (c.fresh hp) (up_fresh hp) (.tup upd_same ((hx.flat _).up (up_fresh hp)))
 ·exact g.elim
theorem os_fdiv:OpS X W E (RF.opD .FloorDiv) (rI CDivX fun i j=>.int (i / j)):=os_int fun x y S=>by
 cases x<;>cases y<;>first | exact .inl rfl | skip
 rename_i i j
 cases e:(decide (0<j)&&decide (j<2 ^ 250)) with
 | false=>left;show RF.guardR _ _=_;rw [e];rfl
 | true=>
  refine .inr ⟨i,j,rfl,rfl,?_,by show RF.guardR _ _=_;rw [e];rfl⟩
  simp only [Bool.and_eq_true,decide_eq_true_eq] at e
  refine⟨e.1,?_⟩
  have h2:j.natAbs<2 ^ 250:=by omega
  exact Nat.lt_of_lt_of_le ((Nat.log2_lt (by omega)).mpr h2) (by decide)
theorem os_mod:OpS X W E (RF.opD .Mod) (rI (fun _ j=>0<j) fun i j=>.int (i%j)):=os_int fun x y S=>by
 cases x<;>cases y<;>first | exact .inl rfl | skip
 rename_i i j
 cases e:decide (0<j) with
 | false=>left;show RF.guardR _ _=_;rw [e];rfl
 | true=>exact .inr ⟨i,j,rfl,rfl,of_decide_eq_true e,by show RF.guardR _ _=_;rw [e];rfl⟩
theorem os_pow:OpS X W E (RF.opD .Pow) (rI CPow fun i j=>.int (i ^ j.toNat)):=os_int fun x y S=>by
 cases x<;>cases y<;>first | exact .inl rfl | skip
 rename_i i j
 cases e:(decide (i=10)&&(decide (j=18)||decide (j=9))) with
 | false=>left;show RF.guardR _ _=_;rw [e];rfl
 | true=>
  refine .inr ⟨i,j,rfl,rfl,?_,?_⟩
  ·simp only [Bool.and_eq_true,Bool.or_eq_true,decide_eq_true_eq] at e
   obtain⟨rfl,rfl|rfl⟩:=e
   ·exact⟨by decide,by decide,by decide⟩
   ·exact⟨by decide,by decide,by decide⟩
  ·show RF.guardR _ _=_
   rw [e]
   simp only [Bool.and_eq_true,Bool.or_eq_true,decide_eq_true_eq] at e
   obtain⟨rfl,rfl|rfl⟩:=e
   ·rfl
   ·rfl
theorem bin_ok (op:Operator):∃r,OpR X (binaryOp op) r/\OpS X W E (RF.opD op) r:=by
 have no:∀op:Operator,(∀x y S,RF.opD op x y S = .bad)->∃r,OpR X (binaryOp op) r/\OpS X W E (RF.opD op) r:=fun op h=>
  ⟨fun _ _ _ _=>False,fun _ _ _ _ _ _ _ _ _ _ _ _ z=>z.elim,fun M S H x y u v Q c rx ry g=>by rw [h] at g;exact g.elim⟩
 cases op with
 | Add=>exact⟨_,op_addA,os_add⟩
 | Sub=>exact⟨_,op_subY,os_sub⟩
 | Mult=>exact⟨_,op_mulA,os_mul⟩
 | FloorDiv=>exact⟨_,op_fdivX,os_fdiv⟩
 | Mod=>exact⟨_,op_mod,os_mod⟩
 | Pow=>exact⟨_,op_pow,os_pow⟩
 | _=>exact no _ fun x y S=>by cases x<;>cases y<;>rfl
end
end L2
namespace L2
open PySem PySem.Spec PyProof.Rows
open RF (D O Store Tab)
section
variable {X:Cx}{W:Adr}{E:XK}{K:PySem.W.Frag}{M:List Addr}{S:Store}{H:Hp}
theorem flat_rel {d:D}{v:V}(f:RF.flatD d=true)(r:RelD M H d v):flatV v=true:=by
 cases r<;>first | rfl | (simp [RF.flatD] at f)
theorem flat_eq {x y:D}{u v:V}(fx:RF.flatD x=true)(fy:RF.flatD y=true)(rx:RelD M H x u)(ry:RelD M H y v):eqV u v=RF.eqFlat x y:=by
 cases rx<;>cases ry<;>first | rfl | (simp [RF.flatD] at fx;done) | (simp [RF.flatD] at fy;done)
theorem allO_len {f:D->D->Option Bool}:∀{xs ys:List D} {b:Bool},RF.allO f xs ys=some b->∃e:Nat->Bool,(∀j x y,xs[j]?=some x->ys[j]?=some y->f x y=some (e j))/\b=(List.range (min xs.length ys.length)).all e
 | [],_,b,h=>⟨fun _=>true,fun j x y h1=>by simp at h1,by simp [RF.allO] at h;simp [<-h]⟩
 | x::xs,[],b,h=>⟨fun _=>true,fun j x y _ h2=>by simp at h2,by simp [RF.allO] at h;simp [<-h]⟩
 | x::xs,y::ys,b,h=>by
  unfold RF.allO at h
  split at h
  ·rename_i p q h1 h2
   cases h
   obtain⟨e,e1,e2⟩:=allO_len h2
   refine⟨fun j=>match j with | 0=>p | j+1=>e j,fun j x' y' g1 g2=>?_,?_⟩
   ·cases j with
    | zero=>simp at g1 g2;subst g1 g2;exact h1
    | succ j=>exact e1 j x' y' (by simpa using g1) (by simpa using g2)
   ·have:min (x::xs).length (y::ys).length=min xs.length ys.length+1:=by simp only [List.length_cons];omega
    rw [this,List.range_succ_eq_map,List.all_cons,List.all_map,e2]
    rfl
  ·cases h
theorem lst_obj (c:Cn K W M S H){n:Nat}{xs:List D}{v:V}(h:S[n]?=some (.lst xs))(r:RelD M H (.ref n) v):∃a vs,v = .ref a/\M[n]?=some a/\H a=some (.lst vs)/\RelDs M H xs vs:=by
 obtain⟨a,rfl,e⟩:=rel_ref r
 obtain⟨vs,h1,h2⟩:=c.lst h e
 exact⟨a,vs,rfl,e,h1,h2⟩
theorem RelDs.at2 {ds es:List D}{vs:List V}(r:RelDs M H ds vs)(q:RelDs M H es vs){j:Nat}{x y:D}(h1:ds[j]?=some x)(h2:es[j]?=some y):∃v,RelD M H x v/\RelD M H y v:=by
 obtain⟨v,g1,g2⟩:=r.get h1
 obtain⟨w,k1,k2⟩:=q.get h2
 rw [g1] at k1
 cases k1
 exact⟨v,g2,k2⟩
theorem range_all_true {n:Nat}{e:Nat->Bool}(h:∀j,j<n->e j=true):(List.range n).all e=true:=List.all_eq_true.mpr fun j hj=>h j (List.mem_range.mp hj)
theorem eqD_same (c:Cn K W M S H):∀(n:Nat) (x y:D) (v:V) (b:Bool),RelD M H x v->RelD M H y v->RF.eqD S n x y=some b->b=true
 | 0,_,_,_,_,_,_,h=>by simp [RF.eqD] at h
 | n+1,x,y,v,b,rx,ry,h=>by
  cases rx with
  | non=>cases ry;simp [RF.eqD,RF.flatD,RF.eqFlat] at h;exact h
  | bl k=>cases ry;simp [RF.eqD,RF.flatD,RF.eqFlat] at h;exact h
  | int i=>cases ry;simp [RF.eqD,RF.flatD,RF.eqFlat] at h;exact h
  | str z=>cases ry;simp [RF.eqD,RF.flatD,RF.eqFlat] at h;exact h
  | tup ha hx=>cases y<;>simp [RF.eqD,RF.flatD] at h
  | ref hm=>
   cases ry with
   | tup hb hy=>simp [RF.eqD,RF.flatD] at h
   | kt b=>simp [RF.eqD,RF.flatD] at h
   | ref hm'=>
    rename_i n1 a n2
    unfold RF.eqD at h
    split at h
    ·rename_i xs ys h1 h2
     have e:n1=n2:=c.sep n1 n2 a hm hm' (by rw [h1];rfl) (by rw [h2];rfl)
     subst e
     rw [h1] at h2
     cases h2
     rw [if_pos rfl] at h
     obtain⟨e,e1,e2⟩:=allO_len h
     rw [e2]
     refine range_all_true fun j hj=>?_
     have j1:j<xs.length:=Nat.lt_of_lt_of_le hj (Nat.min_le_left _ _)
     obtain⟨vs,_,hx⟩:=c.lst h1 hm
     obtain⟨w,r1,r2⟩:=hx.at2 hx (List.getElem?_eq_getElem j1) (List.getElem?_eq_getElem j1)
     exact eqD_same c n _ _ w _ r1 r2 (e1 j _ _ (List.getElem?_eq_getElem j1) (List.getElem?_eq_getElem j1))
    ·cases h
  | kt a=>cases y<;>simp [RF.eqD,RF.flatD] at h
theorem eqD_cmp (c:Cn K W M S H):∀(n:Nat) (x y:D) (u v:V) (b:Bool),RelD M H x u->RelD M H y v->RF.eqD S n x y=some b->Cmp K H n u v b
 | 0,_,_,_,_,_,_,_,h=>by simp [RF.eqD] at h
 | n+1,x,y,u,v,b,rx,ry,h=>by
  by_cases hf:(RF.flatD x&&RF.flatD y)=true
  ·have hf':=hf
   simp only [Bool.and_eq_true] at hf'
   have e:RF.eqD S (n+1) x y=some (RF.eqFlat x y):=by
    cases x<;>cases y<;>first | rfl | (simp [RF.flatD] at hf';done)
   rw [e] at h
   cases h
   rw [<-flat_eq hf'.1 hf'.2 rx ry]
   exact cmp_flat (flat_rel hf'.1 rx) (flat_rel hf'.2 ry)
  ·cases x with
   | ref i=>
    cases y with
    | ref j=>
     have same:=h
     unfold RF.eqD at h
     split at h
     ·rename_i xs ys h1 h2
      obtain⟨a,vs,rfl,ea,ha,hx⟩:=lst_obj c h1 rx
      obtain⟨b',ws,rfl,eb,hb,hy⟩:=lst_obj c h2 ry
      split at h
      ·rename_i hl
       obtain⟨e,e1,e2⟩:=allO_len h
       have hb':b=(List.range vs.length).all e:=by
        rw [e2,<-hx.length,hl,Nat.min_self]
       subst hb'
       refine cmp_lists (SqL.of ha) (SqL.of hb) (by rw [<-hx.length,<-hy.length];exact hl) (fun z=>?_) fun j p q' g1 g2=>?_
       ·subst z
        exact eqD_same c (n+1) _ _ (.ref a) _ (.ref ea) (.ref eb) same
       ·obtain⟨dx,k1,k2⟩:=hx.get' g1
        obtain⟨dy,l1,l2⟩:=hy.get' g2
        exact eqD_cmp c n dx dy p q' _ k2 l2 (e1 j dx dy k1 l1)
      ·rename_i hl
       cases h
       exact cmp_lists_len (SqL.of ha) (SqL.of hb) (by rw [<-hx.length,<-hy.length];exact hl)
     ·cases h
    | _=>simp [RF.eqD,RF.flatD] at h
   | _=>cases y<;>simp [RF.eqD,RF.flatD] at h hf
theorem eqTop_cmp (c:Cn K W M S H){x y:D}{u v:V}{b:Bool}(rx:RelD M H x u)(ry:RelD M H y v)(h:RF.eqTop S RF.depth x y=some b):Cmp K H RF.depth u v b:=by
 unfold RF.eqTop at h
 split at h
 ·rename_i i j
  split at h
  ·rename_i xs h1 h2
   cases h
   obtain⟨a,rfl,ea⟩:=rel_ref rx
   obtain⟨b',ws,rfl,eb,hb,hy⟩:=lst_obj c h2 ry
   cases hy
   obtain⟨vs,ha,hx⟩:=c.at_ i _ a h1 ea
   cases hx with
   | nil=>exact cmp_up (n:=1) (cmp_lists (n:=0) (e:=fun _=>true) ha.sq (SqL.of hb) rfl (fun _=>rfl) fun j p q g1=>by simp at g1) (by decide)
   | cons _ _=>exact cmp_lists_len ha.sq (SqL.of hb) (by simp)
  ·exact eqD_cmp c _ _ _ _ _ _ rx ry h
 ·exact eqD_cmp c _ _ _ _ _ _ rx ry h
theorem optB_gl {o:Option Bool}{Q:VK}(g:GlG K W RelD E M H (RF.optB o S) Q)(c:Cn K W M S H):∃b,o=some b/\Q (.bl b) H:=by
 cases o with
 | none=>exact g.elim
 | some b=>exact⟨b,rfl,GlG.now g c (.bl b)⟩
theorem os_eq:OpS X W E (RF.cmpD .Eq) (rEqC X.K RF.depth):=by
 intro M S H x y u v Q c rx ry g
 obtain⟨b,h,q⟩:=optB_gl g c
 exact⟨b,eqTop_cmp c rx ry h,q⟩
theorem os_ne:OpS X W E (RF.cmpD .NotEq) (rNeC X.K RF.depth):=by
 intro M S H x y u v Q c rx ry g
 obtain⟨b,h,q⟩:=optB_gl g c
 obtain⟨b',h',e⟩:=Option.map_eq_some_iff.mp h
 subst e
 exact⟨b',eqTop_cmp c rx ry h',q⟩
theorem os_rel {op:CmpOp}{f:Int->Int->Bool}(h:∀(x y:D) (S:Store),RF.cmpD op x y S = .bad\/∃i j,x = .int i/\y = .int j/\RF.cmpD op x y S = .ok (.bl (f i j)) S):OpS X W E (RF.cmpD op) (rI0 fun i j=>.bl (f i j)):=by
 intro M S H x y u v Q c rx ry g
 rcases h x y S with e | ⟨i,j,rfl,rfl,e⟩
 ·rw [e] at g;exact g.elim
 ·rw [e] at g
  cases rx;cases ry
  exact⟨i,j,rfl,rfl,GlG.now g c (.bl _)⟩
theorem val_pair {κ:Type}[DecidableEq κ]{f:κ->D}(hf:∀a b,f a=f b->a=b){kvs:List (D×D)}{ks:List (κ×V)}(h:Paired (KPair f M H) kvs ks)(k:κ):
 (RF.valD kvs (f k)=none/\valV ks k=none)\/∃d v,RF.valD kvs (f k)=some d/\valV ks k=some v/\RelD M H d v:=by
 induction h with
 | nil=>exact .inl ⟨rfl,rfl⟩
 | @cons p q kvs ks r t ih=>
  obtain⟨r1,r2⟩:=r
  by_cases e:q.1=k
  ·refine .inr ⟨p.2,q.2,?_,valV_pos e,r2⟩
   simp [RF.valD,List.find?_cons,r1,e]
  ·have e':¬p.1=f k:=fun z=>e (hf _ _ (r1.symm.trans z))
   have h1:RF.valD (p::kvs) (f k)=RF.valD kvs (f k):=by simp [RF.valD,List.find?_cons,e']
   rw [h1,valV_neg e]
   exact ih
theorem flat_tup_no {k:D}(h:RF.keyFlat k=true):RF.keyTup k=false:=by cases k<;>first | rfl | (simp [RF.keyFlat] at h)
theorem tup_flat_no {k:D}(h:RF.keyTup k=true):RF.keyFlat k=false:=by cases k<;>first | rfl | (simp [RF.keyTup] at h)
theorem keys_flat {kvs:List (D×D)}{ks:List (Key×V)}(h:Paired (KPair ofKey M H) kvs ks):(kvs.all fun kv=>RF.keyFlat kv.1)=true:=by
 induction h with
 | nil=>rfl
 | cons r _ ih=>rw [List.all_cons,r.1,keyFlat_ofKey,ih];rfl
theorem keys_tup {kvs:List (D×D)}{ts:List (List Key×V)}(h:Paired (KPair ofKeys M H) kvs ts):(kvs.all fun kv=>RF.keyTup kv.1)=true:=by
 induction h with
 | nil=>rfl
 | cons r _ ih=>rw [List.all_cons,r.1,keyTup_ofKeys,ih];rfl
theorem Cn.kvs (c:Cn K W M S H){d:D}{u:V}{kvs:List (D×D)}(h:RF.kvsOf S d=some kvs)(r:RelD M H d u):∃n a,d = .ref n/\u = .ref a/\M[n]?=some a /\
 ((∃ks:List (Key×V),Rd H a (.dK ks)/\Paired (KPair ofKey M H) kvs ks)\/∃ts:List (List Key×V),Rd H a (.dT ts)/\Paired (KPair ofKeys M H) kvs ts):=by
 unfold RF.kvsOf at h
 split at h
 ·rename_i n
  obtain⟨a,rfl,e⟩:=rel_ref r
  refine⟨n,a,rfl,rfl,e,?_⟩
  split at h
  ·rename_i hS
   cases h
   rcases c.at_ n _ a hS e with⟨ks,h1,h2⟩|⟨ts,h1,h2⟩
   ·exact .inl ⟨ks,.inl h1,h2⟩
   ·exact .inr ⟨ts,.inl h1,h2⟩
  ·cases h
 ·cases h
end
end L2
namespace L2
open PySem PySem.Spec PyProof.Rows
open RF (D O Store Tab)
def Ret (H:Hp)(a:Addr)(H':Hp):Prop:=(H a=some (.dK [])/\H'=upd H a (.dT []))\/(H a=some (.dT [])/\H'=upd H a (.dK []))
section
variable {X:Cx}{pins:List (Addr×Obj)}{σ:St}{H H':Hp}{s:Shared}{a:Addr}
theorem Inv.ret (I:Inv X pins σ H s)(h:Ret H a H'):Inv X pins σ H' s:=by
 rcases h with⟨e,rfl⟩|⟨e,rfl⟩
 ·obtain⟨z,y,vs,r,o,es,ep,g,ex,d,kf,ps,nd⟩:=I.hok a _ e
  have hv:vs=[]:=by cases r;rfl
  subst hv
  have he:es.toList=[]:=by
   revert ps
   generalize es.toList=l
   intro ps
   cases ps
   rfl
  exact I.write (h':=s.heap) (t':=s.toks) (e:=a) (by rw [e];trivial) (.inl rfl) (fun b u _ q=>q) ⟨o,g⟩ ⟨Nat.zero_le _,y,[],.nil,o,es,ep,g,ex,d,he,List.nodup_nil⟩
 ·obtain⟨z,y,xs,r,o,es,ep,g,ex,d,he,nd⟩:=I.hok a _ e
  have hv:xs=[]:=by cases r;rfl
  subst hv
  have he:es = #[]:=by
   have:es.toList=[]:=he
   exact Array.toList_eq_nil_iff.mp this
  subst he
  have y':(a==sysModules)=false:=y
  refine I.write (h':=s.heap) (t':=s.toks) (e:=a) (by rw [e];trivial) (.inl rfl) (fun b u _ q=>q) ⟨o,g⟩ ⟨Nat.zero_le _,y',[],.nil,o,#[],ep,g,ex,d,?_,.nil,List.nodup_nil⟩
  first | exact fun _ hx=>by simp at hx | (intro i;simp) | (constructor<;>simp) | simp [KeysOf]
end
section
variable {X:Cx}{W:Adr}{E:XK}{K:PySem.W.Frag}{M:List Addr}{S:Store}{H H':Hp}
theorem Cn.ret (c:Cn K W M S H){n:Nat}{a:Addr}(hS:S[n]?=some (.dic []))(hM:M[n]?=some a)(h:Ret H a H'):Cn K W M S H'/\Up M H M H':=by
 have hs:S.set n (.dic [])=S:=by
  refine List.ext_getElem? fun i=>?_
  by_cases e:n=i
  ·subst e;rw [List.getElem?_set_self (List.getElem?_eq_some_iff.mp hS).1,hS]
  ·rw [List.getElem?_set_ne e]
 rcases h with⟨e,rfl⟩|⟨e,rfl⟩
 ·have nt:NoFix (H a):=nofix e rfl
  have:=c.put (o':=.dic []) (ho':=.dT []) hS hM rfl rfl nt (.inr ⟨[],upd_same,.nil⟩)
  rw [hs] at this
  exact⟨this,up_put nt⟩
 ·have nt:NoFix (H a):=nofix e rfl
  have:=c.put (o':=.dic []) (ho':=.dK []) hS hM rfl rfl nt (.inl ⟨[],upd_same,.nil⟩)
  rw [hs] at this
  exact⟨this,up_put nt⟩
theorem all_nil {f g:D->Bool}{kvs:List (D×D)}(h1:(kvs.all fun kv=>f kv.1)=true)(h2:(kvs.all fun kv=>g kv.1)=true)(hd:∀k,f k=true->g k=false):kvs=[]:=by
 cases kvs with
 | nil=>rfl
 | cons p r=>
  simp only [List.all_cons,Bool.and_eq_true] at h1 h2
  rw [hd _ h1.1] at h2
  cases h2.1
theorem fits_dic (c:Cn K W M S H){n:Nat}{a:Addr}{kvs:List (D×D)}{k:D}{u:V}(hS:S[n]?=some (.dic kvs))(hM:M[n]?=some a)(hf:RF.keyFits kvs k=true)(r:RelD M H k u):
 ∃H',(H'=H\/Ret H a H')/\Cn K W M S H'/\Up M H M H' /\
  ((∃(ks:List (Key×V)) (q:Key),H' a=some (.dK ks)/\Paired (KPair ofKey M H') kvs ks/\k=ofKey q/\u=kV q) \/
   ∃(ts:List (List Key×V)) (q:List Key) (b:Addr),H' a=some (.dT ts)/\Paired (KPair ofKeys M H') kvs ts/\k=ofKeys q/\u = .ref b/\H' b=some (.tup (q.map kV))):=by
 have tupk:∀{H':Hp} (q:List Key),RelD M H' (ofKeys q) u->∃b,u = .ref b/\H' b=some (.tup (q.map kV)):=fun q r=>by
  obtain⟨b,vs,e,hb,hs⟩:=rel_tup r
  rw [rels_kV hs] at hb
  exact⟨b,e,hb⟩
 unfold RF.keyFits at hf
 simp only [Bool.or_eq_true,Bool.and_eq_true] at hf
 rcases c.at_ n _ a hS hM with⟨ks,h1,h2⟩|⟨ts,h1,h2⟩
 ·rcases hf with⟨f1,f2⟩|⟨f1,f2⟩
  ·obtain⟨q,rfl⟩:=keyFlat_of f1
   exact⟨H,.inl rfl,c,Up.refl _ _,.inl ⟨ks,q,h1,h2,rfl,rel_kV r⟩⟩
  ·have:=all_nil (keys_flat h2) f2 (fun k=>flat_tup_no)
   subst this
   cases h2
   obtain⟨q,rfl⟩:=keyTup_of f1
   have re:Ret H a (upd H a (.dT [])):=.inl ⟨h1,rfl⟩
   obtain⟨c',u'⟩:=c.ret hS hM re
   obtain⟨b,e,hb⟩:=tupk q (r.up u')
   exact⟨_,.inr re,c',u',.inr ⟨[],q,b,upd_same,.nil,rfl,e,hb⟩⟩
 ·rcases hf with⟨f1,f2⟩|⟨f1,f2⟩
  ·have:=all_nil (keys_tup h2) f2 (fun k=>tup_flat_no)
   subst this
   cases h2
   obtain⟨q,rfl⟩:=keyFlat_of f1
   have re:Ret H a (upd H a (.dK [])):=.inr ⟨h1,rfl⟩
   obtain⟨c',u'⟩:=c.ret hS hM re
   exact⟨_,.inr re,c',u',.inl ⟨[],q,upd_same,.nil,rfl,rel_kV r⟩⟩
  ·obtain⟨q,rfl⟩:=keyTup_of f1
   obtain⟨b,e,hb⟩:=tupk q r
   exact⟨H,.inl rfl,c,Up.refl _ _,.inr ⟨ts,q,b,h1,h2,rfl,e,hb⟩⟩
theorem look_dic (c:Cn K W M S H){x k:D}{u v:V}{o:Option D}(rx:RelD M H x u)(rk:RelD M H k v)(h:RF.lookD S x k=some o):
 ∃a H' p,u = .ref a/\(H'=H\/Ret H a H')/\Cn K W M S H'/\Up M H M H'/\DGet H' a v p/\((o=none/\p=none)\/∃d w,o=some d/\p=some w/\RelD M H' d w):=by
 unfold RF.lookD at h
 split at h
 ·rename_i n
  obtain⟨a,rfl,e⟩:=rel_ref rx
  split at h
  ·rename_i kvs hS
   split at h
   ·rename_i hf
    cases h
    obtain⟨H',hr,c',u',g⟩:=fits_dic c hS e hf rk
    rcases g with⟨ks,q,g1,g2,rfl,rfl⟩|⟨ts,q,b,g1,g2,rfl,rfl,g3⟩
    ·refine⟨a,H',_,rfl,hr,c',u',DGet.k g1,?_⟩
     rcases val_pair (fun _ _=>ofKey_inj) g2 q with⟨z1,z2⟩|⟨d,w,z1,z2,z3⟩
     ·exact .inl ⟨z1,z2⟩
     ·exact .inr ⟨d,w,z1,z2,z3⟩
    ·refine⟨a,H',_,rfl,hr,c',u',DGet.t g1 g3,?_⟩
     rcases val_pair (fun _ _=>ofKeys_inj) g2 q with⟨z1,z2⟩|⟨d,w,z1,z2,z3⟩
     ·exact .inl ⟨z1,z2⟩
     ·exact .inr ⟨d,w,z1,z2,z3⟩
   ·cases h
  ·cases h
 ·cases h
def rInD (neg:Bool):R2:=fun x y H Q=>∃a H' o,y = .ref a/\(H'=H\/Ret H a H')/\DGet H' a x o/\Q (.bl (if neg then !o.isSome else o.isSome)) H'
theorem op_inD (hu:X.A.units+1<cLine):OpR X (compareOp .In) (rInD false):=by
 intro pins s σ H x y v u Q I rx ry h
 obtain⟨a,H',o,rfl,hr,g,q⟩:=h
 cases ry
 have I':Inv X pins σ H' s:=by
  rcases hr with rfl | hr
  ·exact I
  ·exact I.ret hr
 exact d_in hu I' g rx fun s' I''=>⟨.bl o.isSome,H',I'',rfl,q⟩
theorem op_notInD (hu:X.A.units+1<cLine):OpR X (compareOp .NotIn) (rInD true):=by
 intro pins s σ H x y v u Q I rx ry h
 obtain⟨a,H',o,rfl,hr,g,q⟩:=h
 cases ry
 have I':Inv X pins σ H' s:=by
  rcases hr with rfl | hr
  ·exact I
  ·exact I.ret hr
 exact d_notIn hu I' g rx fun s' I''=>⟨.bl (!o.isSome),H',I'',rfl,q⟩
def rStrIn (neg:Bool):R2:=fun x y H Q=>∃i j,x = .str i/\y = .str j/\Q (.bl (if neg then !(!(Builtin.Str.occurrences j i 0 j.length 1).isEmpty) else !(Builtin.Str.occurrences j i 0 j.length 1).isEmpty)) H
def rInA (K:PySem.W.Frag)(neg:Bool):R2:=fun x y H Q=>rInD neg x y H Q\/rIn K neg x y H Q\/rStrIn neg x y H Q
theorem op_inA (hu:X.A.units+1<cLine):OpR X (compareOp .In) (rInA X.K false):=(op_inD hu).or (op_in_seq.or op_in_str)
theorem op_notInA (hu:X.A.units+1<cLine):OpR X (compareOp .NotIn) (rInA X.K true):=(op_notInD hu).or (op_notIn_seq.or op_notIn_str)
theorem items_sq (c:Cn K W M S H){x:D}{u:V}{xs:List D}(h:RF.itemsOf S x=some xs)(r:RelD M H x u):∃a vs,u = .ref a/\(SqL K H a vs\/SqT K H a vs)/\RelDs M H xs vs:=by
 cases x with
 | tup ys=>
  cases h
  obtain⟨a,vs,rfl,ha,hx⟩:=rel_tup r
  exact⟨a,vs,rfl,.inr (SqT.of ha),hx⟩
 | ref n=>
  obtain⟨a,rfl,e⟩:=rel_ref r
  obtain⟨vs,h1,h2⟩:=c.items h e
  exact⟨a,vs,rfl,.inl h1,h2⟩
 | _=>cases h
theorem flats_rel {xs:List D}{vs:List V}(r:RelDs M H xs vs)(f:xs.all RF.flatD=true):vs.all flatV=true:=by
 induction xs generalizing vs with
 | nil=>cases r;rfl
 | cons x xs ih=>
  cases r with
  | cons h hs=>
   simp only [List.all_cons,Bool.and_eq_true] at f ⊢
   exact⟨flat_rel f.1 h,ih hs f.2⟩
theorem any_rel {x:D}{u:V}(rx:RelD M H x u)(fx:RF.flatD x=true){xs:List D}{vs:List V}(r:RelDs M H xs vs)(f:xs.all RF.flatD=true):inV u vs=xs.any fun z=>RF.eqFlat z x:=by
 induction xs generalizing vs with
 | nil=>cases r;rfl
 | cons y ys ih=>
  cases r with
  | cons h hs=>
   simp only [List.all_cons,Bool.and_eq_true] at f
   have:=ih hs f.2
   unfold inV at this ⊢
   rw [List.any_cons,List.any_cons,this,flat_eq f.1 fx h rx]
theorem in_rd (c:Cn K W M S H){x y:D}{u v:V}{b:Bool}{neg:Bool}{Q:VK}(rx:RelD M H x u)(ry:RelD M H y v)(h:RF.inD S x y=some b)(q:∀H',Cn K W M S H'->Up M H M H'->Q (.bl (if neg then !b else b)) H'):rInA K neg u v H Q:=by
 unfold RF.inD at h
 split at h
 ·obtain⟨o,h1,h2⟩:=Option.map_eq_some_iff.mp h
  obtain⟨a,H',p,e,hr,c',u',g,z⟩:=look_dic c ry rx h1
  refine .inl ⟨a,H',p,e,hr,g,?_⟩
  have:p.isSome=b:=by
   rw [<-h2]
   rcases z with⟨rfl,rfl⟩|⟨d,w,rfl,rfl,_⟩<;>rfl
  rw [this]
  exact q H' c' u'
 ·split at h
  ·rename_i ys hi
   split at h
   ·rename_i hf
    simp only [Bool.and_eq_true] at hf
    cases h
    obtain⟨a,vs,rfl,hs,hv⟩:=items_sq c hi ry
    refine .inr (.inl ⟨a,vs,rfl,hs,flat_rel hf.1 rx,flats_rel hv hf.2,?_⟩)
    rw [any_rel rx hf.1 hv hf.2]
    exact q H c (Up.refl _ _)
   ·cases h
  ·split at h
   ·cases h
    cases rx;cases ry
    exact .inr (.inr ⟨_,_,rfl,rfl,q H c (Up.refl _ _)⟩)
   ·cases h
theorem os_in:OpS X W E (RF.cmpD .In) (rInA X.K false):=by
 intro M S H x y u v Q c rx ry g
 have g:GlG X.K W RelD E M H (RF.optB (RF.inD S x y) S) Q:=g
 cases h:RF.inD S x y with
 | none=>rw [h] at g;exact g.elim
 | some b=>rw [h] at g;exact in_rd c rx ry h fun H' c' u'=>GlG.at_ g c' u' (.bl b)
theorem os_notIn:OpS X W E (RF.cmpD .NotIn) (rInA X.K true):=by
 intro M S H x y u v Q c rx ry g
 have g:GlG X.K W RelD E M H (RF.optB ((RF.inD S x y).map (! ·)) S) Q:=g
 cases h:RF.inD S x y with
 | none=>rw [h] at g;exact g.elim
 | some b=>rw [h] at g;exact in_rd c rx ry h fun H' c' u'=>GlG.at_ g c' u' (.bl !b)
theorem cmp_ok (hu:X.A.units+RF.depth<cLine)(op:CmpOp):∃r,OpR X (compareOp op) r/\OpS X W E (RF.cmpD op) r:=by
 have hu1:X.A.units+1<cLine:=Nat.lt_of_le_of_lt (Nat.add_le_add_left (by decide) _) hu
 cases op with
 | Eq=>exact⟨_,op_eqC hu,os_eq⟩
 | NotEq=>exact⟨_,op_neC hu,os_ne⟩
 | Lt=>exact⟨_,op_lt,os_rel fun x y S=>by cases x<;>cases y<;>first | exact .inl rfl | exact .inr ⟨_,_,rfl,rfl,rfl⟩⟩
 | LtE=>exact⟨_,op_le,os_rel fun x y S=>by cases x<;>cases y<;>first | exact .inl rfl | exact .inr ⟨_,_,rfl,rfl,rfl⟩⟩
 | Gt=>exact⟨_,op_gt,os_rel fun x y S=>by cases x<;>cases y<;>first | exact .inl rfl | exact .inr ⟨_,_,rfl,rfl,rfl⟩⟩
 | GtE=>exact⟨_,op_ge,os_rel fun x y S=>by cases x<;>cases y<;>first | exact .inl rfl | exact .inr ⟨_,_,rfl,rfl,rfl⟩⟩
 | Is=>exact⟨fun _ _ _ _=>False,fun _ _ _ _ _ _ _ _ _ _ _ _ z=>z.elim,fun _ _ _ _ _ _ _ _ _ _ _ g=>g.elim⟩
 | IsNot=>exact⟨fun _ _ _ _=>False,fun _ _ _ _ _ _ _ _ _ _ _ _ z=>z.elim,fun _ _ _ _ _ _ _ _ _ _ _ g=>g.elim⟩
 | In=>exact⟨_,op_inA hu1,os_in⟩
 | NotIn=>exact⟨_,op_notInA hu1,os_notIn⟩
end
end L2
namespace L2
open PySem PySem.Spec PyProof.Rows PySem.W Builtin Builtin.ObjectAttr
abbrev vMro:List Value:=[.type "ValueError",.type "Exception",.type "BaseException",.type "object"]
structure XCls (K:PySem.W.Frag)(C B:Addr)(f:Str):Prop where
 cls:∃cd,clsIn K C=some cd/\cd.mro = .ref C :: .ref B::vMro/\cd.hasDict=true
 sa:findIn K (.ref C) "__setattr__" = some (some (.builtin "object.__setattr__"))
 ga:findIn K (.ref C) "__getattribute__" = some (some (.builtin "BaseException.__getattribute__"))
 gh:findIn K (.ref C) "__getattr__" = some none
 no:findIn K (.ref C) f=some none
section
variable {prog:Program}{w:World}{A:Around}{E:Value->Shared->Prop}{s:Shared}{K:PySem.W.Frag}{x C B:Addr}{ox:Obj}{f:Str}{v:Value}
theorem xcls_is (X:K.In s.heap)(c:XCls K C B f){T:Value}(hT:(Value.ref C::Value.ref B::vMro).contains T=true):Looks (model prog w) s.heap (isSubtype (.ref C) T) true:=by
 obtain⟨cd,h1,h2,_⟩:=c.cls
 exact looks_mroIn X (by unfold mroIn;rw [h1,Option.bind_some,if_neg (by rw [h2];simp),h2,hT])
theorem exc_set {Q:Unit->Shared->Prop}(X:K.In s.heap)(c:XCls K C B f)(hx:s.heap.get? x=some ox)(hc:ox.cls = .ref C)(hd:ox.dict=none){vs:Array Value}(hf:ox.data = .fields vs)
 (h:∀h',h'.get? x=some { ox with dict:=some s.heap.objs.size }->h'.Ns1 s.heap.objs.size (fun y=>if y=f then some v else none)->(∀b o,b≠x->s.heap.get? b=some o->h'.get? b=some o)->Q () { s with heap:=h',toks:=s.toks+2 }):
 wpAny (model prog w) A (setAttr (.ref x) f v) Q E s:=by
 have I:InstAt s.heap x ox C none:=⟨hx,hc,by unfold notCls;rw [hf],by rw [hd];trivial⟩
 obtain⟨cd,h1,h2,h3⟩:=c.cls
 have SF:=PySem.F.store_object
 refine set_plain X I c.sa ?_
 have sub:Looks (model prog w) s.heap (isInstance (.ref x) (.type "object")) true:=I.type.andThen (xcls_is X c rfl)
 refine codeAny_call_builtin SF.slot.plain SF.entry (@check_slot (model prog w) _ _ { s with toks:=s.toks+1 } "object.__setattr__" "object" "__setattr__" (.ref x) [.str f s.toks,v] [] _ SF.kind SF.split sub (SF.args (.ref x) (.str f s.toks) v) ?_)
 have hm:Looks (model prog w) s.heap (mroOf (.ref C)) cd.mro:=(looks_clsIn X h1).andThen .now
 rw [osa_eq,refuse_eq]
 refine wpAny_bind (wpAny_bind (I.type.here (s:={ s with toks:=s.toks+1 }) (wpAny_bind (hm.here (s:={ s with toks:=s.toks+1 }) ?_))))
 rw [h2,refuseLoop_ref,refuseLoop_ref,PySem.F.store_ValueError.passes]
 refine wpAny_pure (wpAny_bind (I.type.here (s:={ s with toks:=s.toks+1 }) (wpAny_bind ((looks_findIn X c.no).here (s:={ s with toks:=s.toks+1 }) (wpAny_bind (wpAny_pure ?_))))))
 refine wpAny_bind (wpAny_pure ?_)
 rw [if_neg (show ¬((Value.ref C==Value.type "module")=true) by simp)]
 refine wpAny_bind (wpAny_bind (wpAny_loadPart hx ?_))
 rw [hc]
 refine wpAny_bind (Looks.here (s:={ s with toks:=s.toks+1 }) (looks_clsIn X h1) ?_)
 rw [h3,hd]
 show wpAny _ _ (if (!true || !typeHasDict (Value.ref C))=true then _ else _) _ _ _
 rw [if_neg (by simp [typeHasDict])]
 rw [hf]
 have hx₁:(s.heap.push { cls:=.type "dict",data:=.dict #[] }).get? x=some ox:=Heap.get?_push_of_some _ hx
 have hxs:x≠s.heap.objs.size:=Nat.ne_of_lt (Heap.lt_size hx)
 refine wpAny_bind (wpAny_alloc' (wpAny_bind (wpAny_update' hx₁ (wpAny_pure ?_))))
 generalize hh2:(s.heap.push { cls:=.type "dict",data:=.dict #[] }).update x (fun o=>{ o with dict:=some s.heap.objs.size })=h2'
 have gx:h2'.get? x=some { ox with dict:=some s.heap.objs.size }:=by
  rw [<-hh2]
  refine Heap.get?_update_self _ hx₁ ?_
  have hfr:=(Heap.get?_some_iff.mp hx).2
  obtain⟨oc,od,odt,osl⟩:=ox
  have hf:odt=_:=hf
  subst hf
  rfl
 have gd:h2'.get? s.heap.objs.size=some { cls:=.type "dict",data:=.dict #[] }:=by
  rw [<-hh2]
  exact (Heap.get?_update_ne _ _ _ _ hxs.symm).trans (Heap.get?_push_at rfl rfl)
 have go:∀b o,b≠x->s.heap.get? b=some o->h2'.get? b=some o:=fun b o hb e=>by
  rw [<-hh2]
  exact (Heap.get?_update_ne _ _ _ _ hb).trans (Heap.get?_push_of_some _ e)
 have nd:h2'.Ns s.heap.objs.size (fun _=>none):=⟨_,#[],_,gd,rfl,fun e he=>absurd he (by simp),fun _=>rfl⟩
 refine wpAny_bind (wpAny_pure (wpAny_bind ?_))
 refine wpAny_nsSet1 (s:={ s with heap:=h2',toks:=s.toks+1 }) (Heap.Ns1.of_empty nd) fun h' hn' hs=>?_
 obtain⟨oD,esD,epD,hoD,hdD,hcD⟩:=hn'.count (PySem.Within.cons f v PySem.Within.nil)
 refine wpAny_bind (wpAny_lookBehind hoD (by rw [hdD];exact pastItsLine_dict (Nat.le_trans hcD (by rw [List.length_cons,List.length_nil,sizeLine_eq];omega))) ?_)
 refine wpAny_pure (h _ ((hs.2 x hxs).trans gx) ?_ fun b o hb e=>(hs.2 b (Nat.ne_of_lt (Heap.lt_size e))).trans (go b o hb e))
 exact hn'
theorem exc_get {expr:Bool}{D:Addr}{mA:Str->Option Value}{Q:Value->Shared->Prop}(X:K.In s.heap)(c:XCls K C B f)(hx:s.heap.get? x=some ox)(hc:ox.cls = .ref C)(hd:ox.dict=some D){vs:Array Value}(hf:ox.data = .fields vs)(hn:s.heap.Ns1 D mA)(hv:mA f=some v)(hh:handedIn v=true)
 (h:Q v { s with toks:=s.toks+1 }):wpAny (model prog w) A (getAttr (.ref x) f expr) Q E s:=by
 obtain⟨od,ho,hl⟩:=lookIn_ns hn
 have I:InstAt s.heap x ox C (some od):=⟨hx,hc,by unfold notCls;rw [hf],by rw [hd];exact ho⟩
 obtain⟨cd,h1,h2,h3⟩:=c.cls
 have hfd:findObj K C (some od) f=some (.value v):=findObj_own (by unfold hasDictIn;rw [h1];exact h3) c.no rfl (by rw [hl,hv])
 obtain⟨hp,g,d,t,os⟩:=s
 have L0:=I.type (M:=model prog w)
 have L1:=looks_findIn (M:=model prog w) X c.ga
 have L2:=looks_findIn (M:=model prog w) X c.gh
 have L3:=looks_find (M:=model prog w) X I hfd
 have hx2:(Value.builtin "BaseException.__getattribute__" == Value.builtin "object.__getattribute__")=false:=by decide +kernel
 unfold getAttr getAttrBy
 refine wpAny_bind (wpAny_mkText (wpAny_holding (wpAny_bind (L0.at (wpAny_bind (L1.at ?_))))))
 show wpAny _ _ (if (onTheHeap (Value.ref C)&&Value.builtin "BaseException.__getattribute__" == Value.builtin "object.__getattribute__")=true then _ else _) _ _ _
 rw [hx2,Bool.and_false,if_neg (by decide)]
 unfold getAttrByItsOwn hookBefore
 rw [if_pos (show onTheHeap (Value.ref C)=true from rfl)]
 refine wpAny_bind (L2.at (wpAny_bind (wpAny_attempt (wpAny_holding ?_))))
 unfold callGetattribute
 rw [show (expr&&onTheHeap (Value.builtin "BaseException.__getattribute__"))=false by cases expr<;>rfl,if_neg (by decide)]
 unfold boundAndCalled
 rw [PySem.F.attrBase_ValueError.ga.bind]
 refine wpAny_bind (wpAny_pure (wpAny_call ?_))
 have sub:Looks (model prog w) hp (isInstance (.ref x) (.type "BaseException")) true:=L0.andThen (xcls_is (s:=⟨hp,g,d,t,os⟩) X c rfl)
 refine codeAny_call_builtin PySem.F.attrBase_ValueError.ga.plain PySem.F.entry_bexc_ga (@check_slot (model prog w) _ _ ⟨hp,g,d,t+1,os⟩ "BaseException.__getattribute__" "BaseException" "__getattribute__" (.ref x) [.str f t] [] _ (by decide +kernel) (by decide +kernel) sub (PySem.F.args_bexc_ga (.ref x) (.str f t)) ?_)
 unfold Builtin.«object.__getattribute__»
 refine wpAny_bind (wpAny_pure (wpAny_bind (wpAny_pure (wpAny_bind (L0.at (wpAny_bind (L3.at ?_)))))))
 refine wpAny_pure ?_
 show wpAny _ _ (handedOut v) _ _ _
 rw [handedOut_of hh]
 exact wpAny_pure h
end
end L2
namespace L2
open PySem PySem.Spec PyProof.Rows PySem.W
structure ExcI (K:PySem.W.Frag)(C fI:Addr):Prop where
 ex:∃nm q N bs bm hdct sn sub ab col dd k0 k1 k2 k3 k5,K.lookup C=some (excClassObj nm q C N bs bm hdct sn sub ab col dd k0 k1 k2 k3 k5 "ValueError.__new__")/\bm.contains (.type "BaseException")=true /\
  (∀h:Heap,K.In h->∃mN,h.Ns N mN/\mN "__init__" = some (.ref fI))/\∀h:Heap,K.In h->OwnTail h vMro bm
 fn:∃oI,K.lookup fI=some oI/\oI.cls = .type "function"
section
variable {prog:Program}{w:World}{A:Around}{E:Value->Shared->Prop}{h:Heap}{g:Array GenState}{d:Drawn}{t:Nat}{os:OsState}
variable {nm q:Str}{C N:Addr}{bs bm:List Value}{hdct:Bool}{sn:List Str}{sub:List Value}{ab:Bool}{col:Option Bool}{dd:Option Addr}{k0 k1 k2 k3 k5:Option Value}
theorem xinit_type {mN:Str->Option Value}{rest:List Value}{fI:Addr}{oI:Obj}{Q:Fin->Shared->Prop}(T:OwnTail h vMro bm)
 (hC:h.get? C=some (excClassObj nm q C N bs bm hdct sn sub ab col dd k0 k1 k2 k3 k5 "ValueError.__new__")) (hn:h.Ns N mN) (hi:mN "__init__" = some (.ref fI)) (hfI:h.get? fI=some oI) (hfc:oI.cls = .type "function") (hrest:rest.length<=sizeLine)
 (hq:∀h' e,h.objs.size<=e->Heap.MadeExcOf h h' e (.ref C) rest->wpAny (model prog w) A (call (.ref fI) (.ref e::rest)) (fun r s'=>r = .none/\Q (.done (.ret (.ref e))) s') E ⟨h',g,d,t,os⟩):
 wpAny (model prog w) A (Builtin.«type.__call__» ⟨.ref C::rest,[]⟩) Q E ⟨h,g,d,t,os⟩:=by
 have F:=PySem.F.excBase_ValueError
 repeat (first | with_reducible refine wpAny_loadPart_at hC ?_ | with_reducible refine wpAny_madeBy_exc hC ?_ | wp_step)
 refine codeAny_call_builtin_code (Code.quiet_builtin _ F.quiet) (wpAny_check_new_subT F T hC (codeAny_exc_new_subT F T hC ?_ hrest))
 show wpAny _ _ _ _ _ _
 generalize hh1:(h.push { cls:=.type "tuple",data:=.seq rest.toArray }).push { cls:=.ref C,data:=.fields #[.ref h.objs.size,.none,.none,.none,.bool false,.none] }=h1
 have kp:∀b o,h.get? b=some o->h1.get? b=some o:=fun b o e=>by rw [<-hh1];exact Heap.get?_push_of_some _ (Heap.get?_push_of_some _ e)
 have ge:h1.get? (h.objs.size+1)=some { cls:=.ref C,data:=.fields #[.ref h.objs.size,.none,.none,.none,.bool false,.none] }:=by rw [<-hh1];heap_get
 have gt:h1.get? h.objs.size=some { cls:=.type "tuple",data:=.seq rest.toArray }:=by rw [<-hh1];exact Heap.get?_push_of_some _ (Heap.get?_push_at rfl rfl)
 have hC1:=kp _ _ hC
 have hcC:(Value.ref C::bm).contains (.ref C)=true:=by simp
 unfold isInstance
 repeat (first | with_reducible refine wpAny_loadPart_at ge ?_ | (with_reducible refine wpAny_isSubtype_exc hC1 ?_;rw [hcC]) | wp_step)
 show wpAny _ _ (typeLookup (.ref C) _) _ _ _
 refine wpAny_typeLookup_tail hC1 (hn.keeps kp) (T.keeps kp) F.mroIs F.init.lookup ?_
 rw [hi]
 refine wpAny_holding (wpAny_bind ?_)
 unfold bindSpecial
 refine wpAny_bind (wpAny_typeOf (T:="function") ⟨_,kp _ _ hfI,hfc⟩ ?_)
 rw [if_pos (by decide)]
 refine wpAny_pure (wpAny_bind (wpAny_mono (hq _ (h.objs.size+1) (Nat.le_succ _) ⟨kp,Heap.get?_none_of_le (Nat.le_succ _),h.objs.size,ge,Heap.get?_none_of_le (Nat.le_refl _),gt⟩) (fun r s' hr=>?_) fun _ _ x=>x))
 obtain⟨rfl,hQ⟩:=hr
 wp_walk
 exact hQ
theorem xinit_call {mN:Str->Option Value}{rest:List Value}{fI:Addr}{oI:Obj}{Q:Value->Shared->Prop}(T:OwnTail h vMro bm)
 (hC:h.get? C=some (excClassObj nm q C N bs bm hdct sn sub ab col dd k0 k1 k2 k3 k5 "ValueError.__new__")) (hn:h.Ns N mN) (hi:mN "__init__" = some (.ref fI)) (hfI:h.get? fI=some oI) (hfc:oI.cls = .type "function") (hrest:rest.length<=sizeLine)
 (hq:∀h' e,h.objs.size<=e->Heap.MadeExcOf h h' e (.ref C) rest->wpAny (model prog w) (A.under (.builtin "type.__call__" ⟨.ref C::rest,[]⟩)) (call (.ref fI) (.ref e::rest)) (fun r s'=>r = .none/\Q (.ref e) s') E ⟨h',g,d,t,os⟩):
 wpAny (model prog w) A (call (.ref C) rest) Q E ⟨h,g,d,t,os⟩:=by
 have f1:=tc_lookup
 have f2:=tc_bind (.ref C)
 have hT:(⟨h,g,d,t,os⟩:Shared).TypeIs (.ref C) "type":=⟨_,hC,rfl⟩
 refine wpAny_call (codeAny_of_tree ?_)
 show wpAny _ _ (callAny (.ref C) _) _ _ _
 repeat (any_goals (first | assumption | with_reducible refine wpAny_loadPart_at hC ?_ | wp_step))
 exact⟨rfl,codeAny_call_builtin_at (Code.quiet_builtin _ (by decide +kernel)) entry_typeCall (wpAny_check_type_call_sub hC (xinit_type T hC hn hi hfI hfc hrest hq))⟩
end
end L2
namespace L2
open PySem PySem.Spec PyProof.Rows
section
variable {P:Program}{w:World}{K:PySem.W.Frag}{mg:Str->Option Value}{base:Heap}{A:Around}{outer:List Env}{s:Shared}{H:Hp}
theorem xinit_run {fI e C B:Addr}{fdI:FuncData}{st:Stmt}{qual f a1 a2:Str}{p1 p2 p3 p4:Pos}{k:Nat}{args:Args}{v:V}{u:Value}{oe:Obj}{vs:Array Value}{R:Result->Shared->Prop}(F:Fun K "__init__" qual st fI fdI)(S:FnScope [a1,a2] [a1,a2] (defScope st))
 (hbd:defBody st=[.Assign [.Attribute (.Name a1 p1) f p2] (.Name a2 p3) p4]) (h1:(defScope st).names.lookup a1=some .local) (h2:(defScope st).names.lookup a2=some .local) (d1:(a1==("__debug__":Str))=false/\(a1==("__classdict__":Str))=false/\(a2==("__debug__":Str))=false/\(a2==("__classdict__":Str))=false)
 (c:XCls K C B f) (hr:Room (k+1) A) (e0:Env0 P w K mg base A outer s H) (hb:BindsTo s fdI args [(a1,.ref e),(a2,u)]) (rv:RelV v u)
 (he:s.heap.get? e=some oe) (hH:H e=none) (hc:oe.cls = .ref C) (hd:oe.dict=none) (hf:oe.data = .fields vs) (hfr:e∉frs outer)
 (hR:∀s' D,s'.os=s.os->AllBare s'.gens->s.heap.get? D=none->Un (frs outer) [e] H (upd H D (.xd [(f,v)])) s.heap s'.heap->HOk P w (upd H D (.xd [(f,v)])) s'.heap->s'.heap.get? e=some { oe with dict:=some D }->R (.ok (.ret .none)) s'):
 codeAny (model P w) A (.call (.ref fI) args) R s:=by
 obtain⟨oc,od,kV,doc,pm,an,cdv,ct,osl,rfl,lk,hcd⟩:=F.ex
 have KX:K.In s.heap:=e0.mod.kin.keeps fun b o e=>(e0.bs b o e).1
 have lim:s.heap.NoLimit:=e0.mod.nolimit.keeps fun b o e=>(e0.bs b o e).1
 refine codeAny_call_function hr.depth (KX _ _ lk) rfl S.co S.gen rfl (PySem.W.codeRec_of KX hcd) (hb _ _ _ _ ?_)
 refine wpAny_newFunctionEnv_cells S.kind (fun y hy=>?_) fun env henv s1 x=>?_
 ·rcases List.mem_cons.mp hy with z | z
  ·rw [z];exact .inl h1
  ·rw [List.mem_singleton.mp z];exact .inl h2
 subst henv
 refine⟨lim.keeps x.toInCall.keep,codeAny_func ?_⟩
 have I:Inv (cxOf CX0 P w K mg base [a1,a2] qual (defScope st) fI cdv A outer s H E0) [] [some (.ref e),some v] H s1:=inv_start (vs:=[.ref e,v]) (us:=[.ref e,u]) S hr.hd e0 rfl (.cons rfl (.cons rv .nil)) x
 have e1:s1.heap.get? e=some oe:=x.toInCall.keep _ _ he
 have Ip:Inv (cxOf CX0 P w K mg base [a1,a2] qual (defScope st) fI cdv A outer s H E0) [(e,oe)] [some (.ref e),some v] H s1:=I.pins_of fun p hp=>by
  rw [List.mem_singleton.mp hp]
  exact⟨e1,hH,Nat.ne_of_lt (Heap.lt_size he),hfr,fun v z=>by rw [hf] at z;cases z⟩
 rw [hbd]
 have X0:(cxOf CX0 P w K mg base [a1,a2] qual (defScope st) fI cdv A outer s H E0).xe=(cxOf CX0 P w K mg base [a1,a2] qual (defScope st) fI cdv A outer s H E0).xe:=rfl
 refine wpAny_execs_cons (wpAny_mono (Q:=fun fl s'=>fl = .next/\R (.ok (.ret .none)) s') (plainObj_wpAny_Assign_Attribute (E:=fun _ _=>False) ?_ ?_) (fun fl s' q=>?_) fun _ _ z=>z.elim)
 rotate_left
 ·rfl
 ·obtain⟨rfl,q⟩:=q
  exact wpAny_execs_nil q
 have hv:=(pv (X:=(cxOf CX0 P w K mg base [a1,a2] qual (defScope st) fI cdv A outer s H E0).nox) 1 (pos:=p3) (x:=a2) rfl (Or.inl h2) d1.2.2.1 d1.2.2.2) [(e,oe)] s1 _ H (fun y H'=>y=v/\H'=H) (Ip.wish _) ⟨_,rfl,rfl,rfl⟩
 refine wpAny_mono hv (fun u1 s2 ⟨y,H',I2,ry,e1,e2⟩=>?_) fun _ _ z=>z.elim
 subst e1 e2
 have hs:=(pv (X:=(cxOf CX0 P w K mg base [a1,a2] qual (defScope st) fI cdv A outer s H' E0).nox) 0 (pos:=p1) (x:=a1) rfl (Or.inl h1) d1.1 d1.2.1) [(e,oe)] s2 _ H' (fun y H''=>y = .ref e/\H''=H') I2 ⟨_,rfl,rfl,rfl⟩
 refine wpAny_mono hs (fun u2 s3 ⟨z,H'',I3,rz,e3,e4⟩=>?_) fun _ _ z=>z.elim
 subst e3 e4
 cases rz
 have I3:=I3.unwish
 have g3:s3.heap.get? e=some oe:=(I3.pin (e,oe) (List.mem_append_right _ (List.mem_singleton.mpr rfl))).1
 refine exc_set I3.kIn c g3 hc hd hf fun h' k1 k2 k3=>?_
 have hz:s.heap.objs.size<=s3.heap.objs.size:=I3.sz
 have un3:Un (frs outer) [] H'' H'' s.heap s3.heap:=I3.base
 have nD:H'' s3.heap.objs.size=none:=I3.hok.fresh (Nat.le_refl _)
 have hne:∀{b:Addr},b∉[e]->b≠e:=fun h z=>h (by rw [z];exact List.mem_singleton.mpr rfl)
 have ne0:∀{b:Addr},b∉([]:List Addr):=fun h=>by simp at h
 refine⟨rfl,hR _ s3.heap.objs.size I3.os I3.bare (Heap.get?_none_of_le hz) ⟨fun b o q n h4 h5=>k3 b o (hne h5) (un3.keep b o q n h4 ne0),fun b o q n h4 h5=>?_,fun b o q n h5=>?_,fun b o q h5=>?_,fun b xs q=>?_,fun b o w q=>?_,fun b ps q=>⟨#[],?_⟩⟩ (fun b o q=>?_) k1⟩
 ·obtain⟨sl,z⟩:=un3.slot b o q n h4 ne0
  exact⟨sl,k3 b _ (hne h5) z⟩
 ·rw [upd_ne (Nat.ne_of_lt (Nat.lt_of_lt_of_le (Heap.lt_size q) hz))];exact n
 ·obtain⟨o',z⟩:=un3.there b o q ne0
  exact⟨o',k3 b _ (hne h5) z⟩
 ·rw [upd_ne (ne_of_none q nD)];exact q
 ·rw [upd_ne (ne_of_none q nD)];exact q
 ·rw [upd_ne (ne_of_none q nD)];simpa using q
 ·by_cases hb:b=s3.heap.objs.size
  ·subst hb
   rw [upd_same] at q
   cases q
   refine⟨_,k2,fun g=>?_⟩
   show RelO (List.lookup g [(f,y)]) (if g=f then some u1 else none)
   rw [List.lookup_cons]
   by_cases hg:g=f
   ·subst hg
    rw [if_pos rfl,show (g==g)=true by simp]
    exact ry
   ·rw [if_neg hg,show (g==f)=false by simpa using hg]
    trivial
  ·rw [upd_ne hb] at q
   refine (I3.hok b o q).stay (fun c' v' hc' r=>k3 c' v' (fun z=>?_) r) (fun c' r=>by rw [upd_ne (ne_of_none r nD)];exact r) fun c' xs r=>by rw [upd_ne (ne_of_none r nD)];exact r
   subst z
   have n:=(I3.pin (c',oe) (List.mem_append_right _ (List.mem_singleton.mpr rfl))).2.1
   rcases hc' with z | z
   ·subst z;rw [n] at q;cases q
   ·rw [n] at z;cases z
end
end L2
namespace L2
open PySem PySem.Spec PyProof.Rows
section
variable {M:Model}{A:Around}{E:Value->Shared->Prop}{env:Env}{nm q:Str}{C N:Addr}{bs bm:List Value}{hdct:Bool}{sn:List Str}{sub:List Value}{ab:Bool}{col:Option Bool}{dd:Option Addr}{k0 k1 k2 k3 k5:Option Value}{newId:String}
theorem xraise_made {s:Shared}{x:Sem Value}{Q:Flow->Shared->Prop}(hbase:bm.contains (.type "BaseException")=true)(hh:A.handled=none)
 (h:wpAny M A x (fun v s₁=>∃e t dx,v = .ref e/\s₁.heap.get? C=some (excClassObj nm q C N bs bm hdct sn sub ab col dd k0 k1 k2 k3 k5 newId)/\s₁.heap.get? e=some { cls:=.ref C,dict:=dx,data:=.fields #[.ref t,.none,.none,.none,.bool false,.none] }/\E (.ref e) s₁) E s):wpAny M A (raiseStmt env (some x) none) Q E s:=by
 have hcB:(Value.ref C::bm).contains (.type "BaseException")=true:=by rw [List.contains_cons,hbase,Bool.or_true]
 unfold raiseStmt
 refine wpAny_bind (wpAny_mono h (fun v s₁ h₁=>?_) fun _ _ x=>x)
 obtain⟨e,t,dx,rfl,hC,he,hE⟩:=h₁
 obtain⟨hp,g,d,tk,os⟩:=s₁
 repeat (first | with_reducible refine wpAny_loadPart_at he ?_ | with_reducible refine wpAny_loadPart_at hC ?_ | (with_reducible refine wpAny_isSubtype_exc hC ?_;rw [hcB]) | wp_step)
 exact wpAny_raiseNew_none hh hE
end
structure XC (P:Program)(w:World)(K:PySem.W.Frag)(C:Addr)(f:Str):Prop where
 ex:∃fI B qual st fdI a1 a2 p1 p2 p3 p4,ExcI K C fI/\XCls K C B f/\Fun K "__init__" qual st fI fdI/\FnScope [a1,a2] [a1,a2] (defScope st)/\defBody st=[.Assign [.Attribute (.Name a1 p1) f p2] (.Name a2 p3) p4] /\
  (defScope st).names.lookup a1=some .local/\(defScope st).names.lookup a2=some .local/\((a1==("__debug__":Str))=false/\(a1==("__classdict__":Str))=false/\(a2==("__debug__":Str))=false/\(a2==("__classdict__":Str))=false) /\
  ∀(s:Shared) (u1 u2:Value),BindsTo s fdI ⟨[u1,u2],[]⟩ [(a1,u1),(a2,u2)]
def tRaiseX (C:Addr)(f:Str)(E:XK)(te:TE):TS:=fun _ σ H=>te σ H fun v H1=>∀D,H1 D=none->E (.ref C) (some D) (upd H1 D (.xd [(f,v)]))
theorem ps_raiseX {X:Cx}{E:XK}{C:Addr}{f x:Str}{np cpos pos:Pos}{e:Expr}{te:TE}{k:Nat}(hF:Flies X E)(hc:X.calm=true)(xc:XC X.prog X.w X.K C f)(hr:Room (k+2) X.A)(hg:Gl X x)(hm:X.mg x=some (.ref C))(he:PE X e te)(hx:X.ex=[])(hdb:(x==("__debug__":Str))=false)
 (hs:starEach [e] X.env=[(false,eval e X.env)]):PS X (.Raise (some (.Call (.Name x np) [e] [] cpos)) none pos) (tRaiseX C f E te):=by
 intro pins s σ H D I h
 obtain⟨fI,B,qual,st,fdI,a1,a2,p1,p2,p3,p4,ci,xcl,Fi,S,hbd,l1,l2,dn,hbi⟩:=xc.ex
 obtain⟨nm,q,N,bs,bm,hdct,sn,sub,ab,col,dd,k0,k1,k2,k3,k5,hK,hb,hN,hT⟩:=ci.ex
 obtain⟨oI,hoI,hfc⟩:=ci.fn
 obtain⟨mN,hns,hni⟩:=hN X.base I.mod.kin
 have tl:=hT X.base I.mod.kin
 have hbn:bm.contains (.type "BaseException")=true:=hb
 rw [arm_exec_Raise]
 simp only [evalOpt,Option.map]
 refine wpAny_bind (wpAny_standAt (xraise_made (C:=C) (nm:=nm) (q:=q) (N:=N) (bs:=bs) (bm:=bm) (hdct:=hdct) (sn:=sn) (sub:=sub) (ab:=ab) (col:=col) (dd:=dd) (k0:=k0) (k1:=k1) (k2:=k2) (k3:=k3) (k5:=k5) (newId:="ValueError.__new__") hbn (I.ok.hd hc)
  (wpAny_bind (wpAny_mono (wpAny_Call_ofName (ld_glob I hg hm ?_ hdb)) (fun v s₃ h₃=>wpAny_bind (wpAny_standAt (wpAny_pure h₃))) fun _ _ x=>x))))
 unfold callWith
 have ev:backTo cpos (starEach [e] X.env)=backTo cpos [(false,eval e X.env)]:=by rw [hs]
 rw [ev]
 refine wpAny_bind (wpAny_holding (wpAny_mono (Calls.evalArgs_plain (Q:=fun (a:Args) s2=>∃u v H1,a=⟨[u],[]⟩/\Inv X pins σ H1 s2/\RelV v u/\∀D,H1 D=none->E (.ref C) (some D) (upd H1 D (.xd [(f,v)]))) ?_) (fun a s₂ h₂=>wpAny_bind (wpAny_standAt ?_)) fun _ _ x=>x))
 ·have hA:PA X [e] (tCons te tNil):=pa_cons he pa_nil hs
  have:=hA cpos pins s σ H (fun vs H1=>match vs with | [v]=>∀D,H1 D=none->E (.ref C) (some D) (upd H1 D (.xd [(f,v)])) | _=>False) I h
  rw [ev] at this
  refine wpAny_mono this (fun us s2 ⟨vs,H1,I1,r,q⟩=>?_) fun _ _ z=>z
  cases r with
  | nil=>exact q.elim
  | cons r1 r2=>
   cases r2 with
   | nil=>exact⟨_,_,H1,rfl,I1,r1,q⟩
   | cons _ _=>exact q.elim
 obtain⟨u,v,H1,rfl,I1,rv,q⟩:=h₂
 have hC2:=I1.kIn _ _ hK
 obtain⟨hp,g,d,tk,os⟩:=s₂
 refine wpAny_bind (wpAny_keeperOf_exc hC2 ?_)
 refine wpAny_bind (xinit_call (tl.keeps I1.bk) hC2 (hns.keeps I1.bk) hni (I1.kIn _ _ hoI) hfc (show 1<=sizeLine by decide) fun h' ea hz hm=>wpAny_call ?_)
 obtain⟨t,ht,_,_⟩:=hm.there
 have I2:Inv X pins σ H1 ⟨h',g,d,tk,os⟩:=I1.kept (t':=tk) hm.keeps
 have haH:H1 ea=none:=I1.hok.free hm.new
 refine xinit_run (k:=k) Fi S hbd l1 l2 dn xcl (hr.make C [u] []) (I2.env0.make C [u] []) (hbi _ _ _) rv ht haH rfl rfl rfl (fun z=>?_) fun s' D os' bare hD un hok he'=>?_
 ·obtain⟨_,o,ho,_⟩:=I1.stack.mem z
  rw [hm.new] at ho
  cases ho
 refine⟨rfl,wpAny_bind (wpAny_holding (wpAny_point (wpAny_pure ?_)))⟩
 have nf:X.s₀.heap.get? ea=none:=I1.gone hx hm.new
 have fo:=I1.fpOk (b:=ea) (H':=H1) hz haH
 have I3:Inv X pins σ (upd H1 D (.xd [(f,v)])) s':=I2.call' (ch:=[ea]) os' un hok bare fun b hb=>by
  rw [List.mem_singleton.mp hb]
  exact⟨fo.2.2.2.1,fo.2.1,fo.2.2.2.2.1,fo.2.2.2.2.2⟩
 have nDe:D≠ea:=fun z=>by rw [z,ht] at hD;cases hD
 refine⟨ea,t,some D,rfl,I3.kIn _ _ hK,he',hF pins σ _ s' ea C (some D) _ _ I3 nf (by rw [upd_ne (Ne.symm nDe)];exact haH) he' rfl rfl rfl rfl (.inl rfl) (q D (I2.hok.free hD))⟩
end L2
namespace L2
open PySem PySem.Spec PyProof.Rows Builtin Builtin.Str
def KDicAt (P:Program)(w:World)(K:PySem.W.Frag)(p:Addr)(kvs:List (Str×Nat)):Prop:=∃o vs,K.lookup p=some o/\(p==sysModules)=false/\(∀h:Heap,h.get? p=some o->h.DictOf (mixKind P w) p vs)/\∀z:Str,valueAt vs (.inr z:Key)=(kvs.lookup z).map Value.ref
section
variable {X:Cx}
theorem KDicAt.at {p:Addr}{kvs:List (Str×Nat)}{pins:List (Addr×Obj)}{s:Shared}{σ:St}{H:Hp}(k:KDicAt X.prog X.w X.K p kvs)(I:Inv X pins σ H s):∃vs,s.heap.DictOf (mixKind X.prog X.w) p vs/\(p==sysModules)=false/\∀z:Str,valueAt vs (.inr z:Key)=(kvs.lookup z).map Value.ref:=by
 obtain⟨o,vs,h1,h2,h3,h4⟩:=k
 exact⟨vs,h3 _ (I.kIn p o h1),h2,h4⟩
def rKin (P:Program)(w:World)(K:PySem.W.Frag)(neg:Bool):R2:=fun x y H Q=>∃z p kvs,x = .str z/\y = .ref p/\KDicAt P w K p kvs/\Q (.bl ((kvs.lookup z).isSome != neg)) H
theorem op_kin:OpR X (compareOp .In) (rKin X.prog X.w X.K false):=by
 intro pins s σ H x y v u Q I rx ry h
 obtain⟨z,p,kvs,rfl,rfl,k,q⟩:=h
 cases ry
 obtain⟨vs,dd,hs,hv⟩:=k.at I
 refine wpAny_in_of (kV_is (k:=.inr z) rx) hs dd.mapOf ⟨.bl _,H,I.tok _,rfl,?_⟩
 rw [hv,Option.isSome_map]
 rw [show ((kvs.lookup z).isSome != false)=(kvs.lookup z).isSome by cases (kvs.lookup z).isSome<;>rfl] at q
 exact q
theorem op_knotin:OpR X (compareOp .NotIn) (rKin X.prog X.w X.K true):=by
 intro pins s σ H x y v u Q I rx ry h
 obtain⟨z,p,kvs,rfl,rfl,k,q⟩:=h
 cases ry
 obtain⟨vs,dd,hs,hv⟩:=k.at I
 refine wpAny_notIn_of (kV_is (k:=.inr z) rx) hs dd.mapOf ⟨.bl _,H,I.tok _,rfl,?_⟩
 rw [hv,Option.isSome_map]
 rw [show ((kvs.lookup z).isSome != true) = !(kvs.lookup z).isSome by cases (kvs.lookup z).isSome<;>rfl] at q
 exact q
def rKix (P:Program)(w:World)(K:PySem.W.Frag):R2:=fun x y H Q=>∃z p kvs a,x = .ref p/\y = .str z/\KDicAt P w K p kvs/\kvs.lookup z=some a/\Q (.ref a) H
theorem ix_kd:IxR X (rKix X.prog X.w X.K):=by
 intro value slice pins s σ H x y v u Q I rx ry h hs
 obtain⟨z,p,kvs,a,rfl,rfl,k,e,q⟩:=h
 cases rx
 obtain⟨vs,dd,hsm,hv⟩:=k.at I
 exact tail_any dd.typeIs PySem.F.slot_dict_getitem.lookup (wpAny_getItem_of (kV_is (k:=.inr z) ry) dd.mapOf (by rw [hv,e];rfl) ⟨.ref a,H,I.tok _,rfl,q⟩) hs
theorem call_strI:CallR X (.type "str") (fun xs H Q=>∃i,xs=[.int i]/\i.natAbs.log2<1920/\Q (.str (Str.ofString (toString i))) H):=by
 intro pins s σ H xs us Q I r h
 obtain⟨i,rfl,hz,q⟩:=h
 obtain⟨u,rfl,ru⟩:=vals1 r
 obtain⟨t,rfl⟩:=ru
 exact PySem.P.str_of_int hz ⟨.str _,H,I.tok _,⟨_,rfl⟩,q⟩
theorem call_intT:CallR X (.type "int") (fun xs H Q=>∃z n,xs=[.str z]/\PySem.intText? z=some n/\z.length<=640/\Q (.int n) H):=by
 intro pins s σ H xs us Q I r h
 obtain⟨z,n,rfl,hn,hz,q⟩:=h
 obtain⟨u,rfl,ru⟩:=vals1 r
 obtain⟨t,rfl⟩:=ru
 exact PySem.W.KIN.call_text hn hz ⟨.int n,H,I.tok _,⟨_,rfl⟩,q⟩
def rSplit:V->List V->Hp->VK->Prop:=fun x vs H Q=>∃z y,x = .str z/\vs=[.str y]/\(y.length==0)=false/\z.length<=1000/\∀p,H p=none->Q (.ref p) (upd H p (.lst ((Txt.split z y).map V.str)))
theorem mt_split:MtR X "str.split" rSplit:=by
 intro pins s σ H x vs v us Q I rx rv h
 obtain⟨z,y,rfl,rfl,hy,hz,q⟩:=h
 obtain⟨t,rfl⟩:=rx
 obtain⟨u,rfl,ru⟩:=rv.one
 obtain⟨t2,rfl⟩:=ru
 have hz':z.length+2<=sizeLine:=Nat.le_trans (show z.length+2<=1002 by omega) (by decide)
 have hzz:(Txt.split z y).length<=sizeLine:=Nat.le_trans (split_le z y hy) hz'
 have fin:∀(l:List (Str×Tok)) (tk:Nat),l.map (·.1)=Txt.split z y->EP X pins σ Q (.ref s.heap.objs.size) { s with heap:=s.heap.push { cls:=.type "list",data:=.seq (strValues l).toArray },toks:=tk }:=fun l tk hl=>
  ⟨.ref s.heap.objs.size,_,I.laid (t':=tk) (fun b o e=>Heap.get?_push_of_some _ e) (Nat.le_refl _) (show ObjOk X.prog X.w _ _ _ (.lst ((Txt.split z y).map V.str)) from ⟨by rw [List.length_map];exact hzz,_,0,by rw [<-hl];exact vals_strs l,Heap.get?_push_size _ rfl⟩),rfl,q _ (I.hok.fresh (Nat.le_refl _))⟩
 cases c1:(decide (z.length<y.length)||decide (strKind z<strKind y)) with
 | true=>exact call_meets F.slot_str_split (typeIs_str _ _ _) F.entry_str_split (F.args_str_split_2 _ _) (meets_str_split_cannot_occur z y t t2 c1) (fin [(z,t)] s.toks (if_pos c1).symm)
 | false=>
  have n1:¬((decide (z.length<y.length)||decide (strKind z<strKind y))=true):=by rw [c1];exact Bool.false_ne_true
  cases c2:(occurrences z y 0 z.length (z.length+1)).isEmpty with
  | true=>exact call_meets F.slot_str_split (typeIs_str _ _ _) F.entry_str_split (F.args_str_split_2 _ _) (meets_str_split_not_found z y t t2 c1 hy c2) (fin [(z,t)] s.toks ((if_neg n1).trans (if_pos c2)).symm)
  | false=>
   have n2:¬((occurrences z y 0 z.length (z.length+1)).isEmpty=true):=by rw [c2];exact Bool.false_ne_true
   have e:Txt.split z y=partsBetween z (occurrences z y 0 z.length (z.length+1)) y.length:=(if_neg n1).trans (if_neg n2)
   have f:=fin (numbered s.toks (partsBetween z (occurrences z y 0 z.length (z.length+1)) y.length)) (s.toks+(partsBetween z (occurrences z y 0 z.length (z.length+1)) y.length).length) ((numbered_texts _ _).trans e.symm)
   rw [<-strsFrom_eq] at f
   exact call_meets F.slot_str_split (typeIs_str _ _ _) F.entry_str_split (F.args_str_split_2 _ _) (meets_str_split_sep z y t t2 c1 hy c2 (by omega) (Nat.le_trans (parts_le z y hy) hz')) f
end
end L2
namespace L2
open PySem PySem.Spec PyProof.Rows
section
variable {X:Cx}
def gStar (K:PySem.W.Frag)(t:TGs):TG:=fun v σ H Q=>∃a x xs,v = .ref a/\SqL K H a (x::xs)/\xs.length<=16000/\∀p,H p=none->t [x,.ref p] σ (upd H p (.lst xs)) Q
theorem pg_star {e1 e2:Expr}{k:Nat}{pos p2:Pos}{t:TGs}(hc:X.calm=true)(h:PGs X [e1,e2] t)(he:assignEach [e1,.Starred e2 p2] X.env=[(false,assign e1 X.env),(true,assign e2 X.env)])(he':(assignEach [e1,e2] X.env).map (·.2)=[assign e1 X.env,assign e2 X.env]):
 PG X (.Tuple [e1,.Starred e2 p2] k pos) (gStar X.K t):=by
 intro pins s σ H v u Q I r hw
 obtain⟨a,x,xs,e1,hq,hl,hw⟩:=hw
 subst e1
 cases r
 obtain⟨its,rv,pl,hz⟩:=I.list hq
 cases rv with
 | @cons _ u1 _ us ru rus=>
  have hlen:=rus.length
  have hL:=pl.isList
  have hh:=I.ok.hd hc
  have alt:a<s.heap.objs.size:=by obtain⟨o,ho,_⟩:=hL;exact Heap.lt_size ho
  have hne:a≠s.heap.objs.size:=Nat.ne_of_lt alt
  rw [assign_Tuple]
  refine wpAny_bind (wpAny_standAt ?_)
  unfold unpack
  rw [he]
  show wpAny _ _ (holding [Value.ref a] (unpackItems (.ref a) 2 (some 1)) >>= _) _ _ _
  refine wpAny_bind (wpAny_holding ?_)
  unfold unpackItems
  refine wpAny_bind ?_
  unfold notIterableAtAll
  refine wpAny_bind (wpAny_specialOf hL.typeIs slot_list_iter.lookup (wpAny_pure ?_))
  simp only [Bool.false_eq_true,if_false]
  refine wpAny_bind (wpAny_holding (wpAny_pyIter_list hL ?_))
  refine wpAny_bind (wpAny_holding (PySem.W.kun_draw hne 1 0 _ _ ⟨_,Heap.get?_push_size _ rfl,rfl,rfl⟩ (hL.push _) (by simp) fun h1 i1 m1=>?_))
  have L1:h1.IsList a (u1::us).toArray:=(hL.push _).extBut m1.extBut hne
  have i1:h1.IsListIter s.heap.objs.size a 1:=i1
  obtain⟨oi,hoi,_⟩:=id i1
  obtain⟨ol,hol,_⟩:=id L1
  show wpAny _ _ (if ([u1]:List Value).length<1 then _ else _) _ _ _
  rw [if_neg (by simp)]
  refine wpAny_bind (wpAny_holding (PySem.W.kun_collect (s:={ s with heap:=h1 }) (T:="list_iterator") (.inr (.inr (.inl rfl))) (Walks.list (A:=X.A.in1) hh s.heap.objs.size a hne (u1::us).toArray) (fun j u st=>st.1.typeIs) (k:=1) (by simp) ⟨i1,L1⟩ (Heap.lt_size hoi) (Heap.lt_size hol) (fun h2 tk hk=>?_) (by rw [sizeLine_eq];simp;omega)))
  show wpAny _ _ (if us.length<0 then _ else _) _ _ _
  rw [if_neg (Nat.not_lt_zero _)]
  show wpAny _ _ (newList (us.take us.length) >>= fun d=>pure ([u1]++[d]++us.drop us.length)) _ _ _
  rw [List.take_length,List.drop_length]
  have J:Inv X pins σ H { s with heap:=h2,toks:=tk }:=I.kept (t':=tk) fun b o e=>hk b o (Nat.ne_of_lt (Heap.lt_size e)) (m1.extBut b o (Nat.ne_of_lt (Heap.lt_size e)) (Heap.get?_push_of_some _ e))
  refine wpAny_bind (wpAny_newList (wpAny_pure ?_) (by rw [sizeLine_eq];omega))
  have J2:Inv X pins σ (upd H h2.objs.size (.lst xs)) { s with heap:=h2.push { cls:=.type "list",data:=.seq us.toArray },toks:=tk }:=
   J.laid (t':=tk) (fun b o e=>Heap.get?_push_of_some _ e) (Nat.le_refl _) (show ObjOk X.prog X.w _ _ _ (.lst xs) from ⟨by rw [sizeLine_eq];omega,us,0,rus,Heap.get?_push_size _ rfl⟩)
  have g:=h pins _ σ _ [x,.ref h2.objs.size] [u1,.ref h2.objs.size] Q J2 (.cons ru (.cons rfl .nil)) (hw _ (J.hok.fresh (Nat.le_refl _)))
  rw [he'] at g
  exact g
end
end L2
namespace L2
open PySem PySem.Spec PyProof.Rows
section
variable {X:Cx}{pins:List (Addr×Obj)}{σ:St}{H:Hp}{s:Shared}{h':Heap}
theorem Inv.turnedL {t':Nat}{ch:List Addr}(I:Inv X pins σ H s)(k:∀b o,b∉ch->s.heap.get? b=some o->h'.get? b=some o)(hf:∀b∈ch,FpOk X pins H b):Inv X pins σ H { s with heap:=h',toks:=t' }:=by
 have nch:∀b u,H b=some u->b∉ch:=fun b u e z=>by rw [(hf b z).1] at e;cases e
 refine I.step (g':=s.gens) (d':=s.drawn) (ch:=ch) (fun b hb=>?_) (fun b o _ _ hc e _=>k b o hc e) (fun b o _ _ hc e _=>⟨o.slots,k b o hc e⟩) (fun _ _ _ _ n=>n)
  (fun b o hc e=>⟨o,k b o hc e⟩) (fun _ _ e=>e) (fun _ _ _ e=>e) (fun b ps e=>⟨#[],by rw [e];simp⟩) (fun m hm=>?_) (fun b u e=>?_) I.bare
 ·obtain⟨_,h1,_,h3,h4,h5⟩:=hf b hb
  exact⟨h3,h1,h4,h5⟩
 ·obtain⟨o,es,ep,ho,r⟩:=hm
  exact⟨o,es,ep,k _ o (fun z=>(hf _ z).2.1 rfl) ho,r⟩
 ·refine (I.hok b u e).stay (fun c v hc q=>k c v ?_ q) (fun _ q=>q) fun _ _ q=>q
  rcases hc with z | z
  ·rw [z];exact nch b u e
  ·exact nch c _ z
theorem Inv.paired {t':Nat}{ch:List Addr}{a b:V}{u v:Value}(I:Inv X pins σ H s)(k:∀c o,c∉ch->s.heap.get? c=some o->h'.get? c=some o)(hf:∀c∈ch,FpOk X pins H c)(ra:RelV a u)(rb:RelV b v)
 (hT:h'.get? s.heap.objs.size=some { cls:=.type "tuple",data:=.seq #[u,v] }):Inv X pins σ (upd H s.heap.objs.size (.tup [a,b])) { s with heap:=h',toks:=t' }:=
 (I.turnedL (t':=t') k hf).track (I.fpOk (Nat.le_refl _) (I.hok.fresh (Nat.le_refl _))) I.sz ⟨by show 2<=sizeLine;decide,[u,v],.cons ra (.cons rb .nil),⟨_,hT,rfl,_,rfl⟩⟩
end
def Ite (K:PySem.W.Frag)(a:Addr):It:=
 ⟨fun i H=>∃xs x,SqL K H a xs/\xs[i]?=some x,fun i H x H'=>∃p v,H p=none/\(∀xs,SqL K H a xs->xs[i]?=some v)/\x = .ref p/\H'=upd H p (.tup [.int i,v]),fun i H=>∃xs,SqL K H a xs/\xs.length<=i⟩
theorem turn_enum {P:Program}{w:World}{K:PySem.W.Frag}{elts:List Expr}{kk:Nat}{pos:Pos}(a e it:Addr)(hne:e≠it):Turn P w K (.Tuple elts kk pos) (Ite K a) [e,it] e (fun i h=>(∃old,IsEnum h e it i old)/\h.IsListIter it a i) where
 mem:=by simp
 obj:=fun i h st b hb=>by
  obtain⟨⟨old,he⟩,o,e1,c,d⟩:=st
  rcases List.mem_cons.mp hb with z | z
  ·subst z;exact⟨_,he,fun v q=>nomatch q⟩
  ·rw [List.mem_singleton.mp z];exact⟨o,e1,fun v q=>by rw [d] at q;cases q⟩
 keep:=fun i h h' st k=>⟨st.1.elim fun old he=>⟨old,k e (by simp) _ he⟩,st.2.at fun o q=>k it (by simp) o q⟩
 item:=by
  intro X hP hw hK hc i pins s σ H E I hf st hg
  subst hP hw hK
  obtain⟨xs,x,hq,hx⟩:=hg
  obtain⟨its,rv,p,hz⟩:=I.list hq
  obtain⟨u,hu,ru⟩:=rv.get hx
  obtain⟨⟨old,he⟩,hi⟩:=st
  refine wpAny_pyNext_enum_item he hi p.isList (x:=u) (by simpa using hu) hne fun h1 g1 g2 g3 g4 g5=>⟨_,rfl,?_⟩
  refine wpAny_letOwnedTupleGo_enum g1 fun h2 g6 sb=>?_
  have elt:e<s.heap.objs.size:=Heap.lt_size he
  have J:Inv X pins σ (upd H s.heap.objs.size (.tup [.int i,x])) { s with heap:=h2,toks:=s.toks+1 }:=I.paired (ch:=[e,it]) (fun b o hb q=>(sb.2 b fun z=>hb (by simp [z])).trans (g5 b o (fun z=>hb (by simp [z])) (fun z=>hb (by simp [z])) q)) hf ⟨_,rfl⟩ ru ((sb.2 _ (Nat.ne_of_gt elt)).trans g3)
  refine⟨.ref s.heap.objs.size,_,J,rfl,⟨_,x,I.hok.fresh (Nat.le_refl _),fun ys hy=>by rw [I.list_inj hy hq];exact hx,rfl,rfl⟩,⟨⟨_,by simpa using g6⟩,g2.at fun o q=>(sb.2 it hne.symm).trans q⟩,fun b hb=>?_⟩
  have hlt:b<s.heap.objs.size:=by
   rcases List.mem_cons.mp hb with z | z
   ·rw [z];exact elt
   ·rw [List.mem_singleton.mp z];obtain⟨_,q,_⟩:=hi;exact Heap.lt_size q
  rw [upd_ne (Nat.ne_of_lt hlt)]
  exact (hf b hb).1
 done:=by
  intro X hP hw hK hc i pins s σ H E I hf st hg
  subst hP hw hK
  obtain⟨xs,hq,hx⟩:=hg
  obtain⟨its,rv,p,hz⟩:=I.list hq
  obtain⟨⟨old,he⟩,hi⟩:=st
  have hl:=rv.length
  exact wpAny_pyNext_enum_end (I.ok.hd hc) he hi p.isList (by simp;omega) fun h1 eb=>⟨rfl,I.turnedL (t':=s.toks) (ch:=[e,it]) (fun b o hb q=>eb b o (fun z=>hb (by simp [z])) q) hf⟩
 self:=fun _ _ _ _ _ st h=>by
  obtain⟨⟨old,he⟩,_⟩:=st
  exact wpAny_pyIter_enum he h
section
variable {X:Cx}
def iEnum (K:PySem.W.Frag)(tl:TA):TI:=fun σ H R=>tl σ H fun xs H1=>∃a,xs=[.ref a]/\(∃ys,SqL K H1 a ys)/\R (Ite K a) H1
theorem pi_enum {l:Expr}{tl:TA}{elts:List Expr}{kk:Nat}{p pos pt:Pos}(hg:Gl X "enumerate")(hm:X.mg "enumerate" = none)(hl:PA X [l] tl)(hs:starEach [l] X.env=[(false,eval l X.env)]):PI X (.Tuple elts kk pt) (.Call (.Name "enumerate" p) [l] [] pos) (iEnum X.K tl):=by
 intro pins s σ H R I h
 refine wpAny_Call_Name_kw (ld_blt I hg hm PyProof.Rows.boot_enumerate ?_ (by decide +kernel) (by decide))
 refine PyProof.Rows.callWith_type1 (thn (hl pos pins s σ H _ I h) fun us s1 ⟨vs,H1,I1,r1,a,e,⟨ys,hq⟩,q⟩=>?_) hs rfl
 subst e
 obtain⟨u,rfl,ru⟩:=vals1 r1
 cases ru
 obtain⟨its,rv,pl,hz⟩:=I1.list hq
 refine call_enumerate_list pl.isList fun h1 g1 g2 g3 g4=>wpAny_pyIter_enum g1 ?_
 refine⟨s1.heap.objs.size+1,[s1.heap.objs.size+1,s1.heap.objs.size],_,Ite X.K a,H1,rfl,I1.kept (t':=s1.toks) g4,turn_enum a _ _ (Nat.succ_ne_self _),⟨⟨_,g1⟩,g2⟩,fun b hb=>?_,q⟩
 have hb':s1.heap.objs.size<=b:=by
  rcases List.mem_cons.mp hb with z | z
  ·rw [z];exact Nat.le_succ _
  ·rw [List.mem_singleton.mp z];exact Nat.le_refl _
 exact I1.fpOk hb' (I1.hok.fresh hb')
end
end L2
namespace L2
open PySem PySem.Spec PyProof.Rows Builtin.SmallTypes
def ItB (b:Bool)(h:Heap)(it l:Addr)(i:Nat):Prop:=match b with | true=>h.IsListIter it l i | false=>h.IsTupleIter it l i
def SeB (b:Bool)(h:Heap)(l:Addr)(its:Array Value):Prop:=match b with | true=>h.IsList l its | false=>h.IsTuple l its
theorem ItB.at {b:Bool}{h h':Heap}{it l:Addr}{i:Nat}(x:ItB b h it l i)(k:∀o,h.get? it=some o->h'.get? it=some o):ItB b h' it l i:=by
 cases b with
 | true=>exact Heap.IsListIter.at x k
 | false=>exact Heap.IsTupleIter.at x k
theorem SeB.at {b:Bool}{h h':Heap}{l:Addr}{its:Array Value}(x:SeB b h l its)(k:∀o,h.get? l=some o->h'.get? l=some o):SeB b h' l its:=by
 cases b with
 | true=>exact Heap.IsList.at x k
 | false=>exact Heap.IsTuple.at x k
theorem ItB.obj {b:Bool}{h:Heap}{it l:Addr}{i:Nat}(x:ItB b h it l i):∃o vs,h.get? it=some o/\o.data = .fields vs:=by
 cases b<;>(obtain⟨o,e,_,d⟩:=x;exact⟨o,_,e,d⟩)
section
variable {prog:Program}{w:World}{A:Around}{E:Value->Shared->Prop}{s:Shared}
theorem nx_tup {it t:Addr}{i:Nat}{its:Array Value}{x:Value}{Q:Value->Shared->Prop}(hi:s.heap.IsTupleIter it t i)(ht:s.heap.IsTuple t its)(hx:its[i]?=some x)
 (k:∀h',h'.IsTupleIter it t (i+1)->Heap.SameBut it s.heap h'->Q x { s with heap:=h' }):wpAny (model prog w) A (nextOf (.ref it)) Q E s:=by
 obtain⟨ob,g,gc,gd⟩:=id hi
 obtain⟨ot,gt,_,nt,gtd⟩:=ht
 unfold nextOf
 refine wpAny_bind (wpAny_callSpecial?_slot (name:=Str.ofString "__next__") hi.typeIs F.slot_tuple_iterator_next (wpAny_call_entry F.slot_tuple_iterator_next hi.typeIs F.entry_tuple_iterator_next ?_ (F.args_tuple_iterator_next_1 _)))
 show wpAny _ _ (field (.ref it) 0 >>= _) _ _ s
 refine wpAny_bind (wpAny_field g gd (x:=.ref t) rfl ?_)
 show wpAny _ _ (if (Value.ref t==Value.none)=true then _ else _) _ _ s
 rw [if_neg (show ¬((Value.ref t==Value.none)=true) from Bool.false_ne_true)]
 show wpAny _ _ (field (.ref it) 1 >>= _) _ _ s
 refine wpAny_bind (wpAny_field g gd (x:=.int i 0) rfl ?_)
 show wpAny _ _ (seqItems? (.ref t) >>= _) _ _ s
 refine wpAny_bind (wpAny_seqItems gt gtd ?_)
 simp only [Int.toNat_natCast,hx]
 refine wpAny_bind (wpAny_setField g gd (by simp) (wpAny_pure ⟨x,rfl,wpAny_pure (k _ ⟨_,Heap.get?_update_self _ g (Obj.isFreed_of_fields (Obj.data_mapFields gd _)),(Obj.cls_mapFields ..).trans gc,?_⟩ (Heap.SameBut.update ..))⟩))
 rw [Obj.data_mapFields gd]
 simp [rawInt]
theorem nx_tup_end {it t:Addr}{i:Nat}{its:Array Value}{Q:Value->Shared->Prop}(hh:A.handled=none)(hi:s.heap.IsTupleIter it t i)(ht:s.heap.IsTuple t its)(hx:its[i]?=none)
 (k:∀h' e,Heap.ExtBut it s.heap h'->(∃o,h'.get? e=some o/\o.cls = .type "StopIteration")->E (.ref e) { s with heap:=h' }):wpAny (model prog w) A (nextOf (.ref it)) Q E s:=by
 obtain⟨ob,g,gc,gd⟩:=id hi
 obtain⟨ot,gt,_,nt,gtd⟩:=ht
 unfold nextOf
 refine wpAny_bind (wpAny_callSpecial?_slot (name:=Str.ofString "__next__") hi.typeIs F.slot_tuple_iterator_next (wpAny_call_entry F.slot_tuple_iterator_next hi.typeIs F.entry_tuple_iterator_next ?_ (F.args_tuple_iterator_next_1 _)))
 show wpAny _ _ (field (.ref it) 0 >>= _) _ _ s
 refine wpAny_bind (wpAny_field g gd (x:=.ref t) rfl ?_)
 show wpAny _ _ (if (Value.ref t==Value.none)=true then _ else _) _ _ s
 rw [if_neg (show ¬((Value.ref t==Value.none)=true) from Bool.false_ne_true)]
 show wpAny _ _ (field (.ref it) 1 >>= _) _ _ s
 refine wpAny_bind (wpAny_field g gd (x:=.int i 0) rfl ?_)
 show wpAny _ _ (seqItems? (.ref t) >>= _) _ _ s
 refine wpAny_bind (wpAny_seqItems gt gtd ?_)
 simp only [Int.toNat_natCast,hx]
 refine wpAny_bind (wpAny_rule (wpAny_bind (wpAny_setField g gd (by simp) ?_)))
 show wpAny _ _ (newExc (.type "StopIteration") [] >>= _) _ _ _
 refine wpAny_bind ?_
 simp only [newExc,newTuple]
 refine wpAny_bind (wpAny_newObj_type ?_ (by size_fits))
 refine wpAny_bind (m:=firstArgMember _ _) (wpAny_of_eq (a:=Value.none) (by first | rfl | (simp only [firstArgMember];rfl)) ?_)
 refine wpAny_newObj_type ?_ (by size_fits)
 simp only [raiseNew]
 refine wpAny_bind (wpAny_handled ?_)
 first | rw [show A.in1.handled=none from hh] | rw [hh]
 refine wpAny_bind (wpAny_pure (wpAny_throw (k _ _ (((Heap.SameBut.update ..).extBut.push _).push _) ⟨_,Heap.get?_push_size _ rfl,rfl⟩)))
theorem nx_B {b:Bool}{it t:Addr}{i:Nat}{its:Array Value}{x:Value}{Q:Value->Shared->Prop}(hi:ItB b s.heap it t i)(ht:SeB b s.heap t its)(hx:its[i]?=some x)
 (k:∀h',ItB b h' it t (i+1)->Heap.SameBut it s.heap h'->Q x { s with heap:=h' }):wpAny (model prog w) A (nextOf (.ref it)) Q E s:=by
 cases b with
 | true=>exact wpAny_nextOf_list_item hi ht hx k
 | false=>exact nx_tup hi ht hx k
theorem zip_turn {b:Bool}{z TI TO j1 j2 l1 l2:Addr}{k:Nat}{xs ys:Array Value}{x y u v:Value}{Q:Value->Shared->Prop}(D:ZipApart z TI TO j1 j2 l1 l2)
 (hz:IsZip s.heap z TI TO .none) (hTI:IsPair s.heap TI (.ref j1) (.ref j2)) (hTO:IsPair s.heap TO u v) (h1:s.heap.IsTupleIter j1 l1 k) (h2:ItB b s.heap j2 l2 k) (g1:s.heap.IsTuple l1 xs) (g2:SeB b s.heap l2 ys) (hx:xs[k]?=some x) (hy:ys[k]?=some y)
 (q:∀h',IsZip h' z TI TO (rawInt s.heap.objs.size)->IsPair h' TO x y->h'.IsTupleIter j1 l1 (k+1)->ItB b h' j2 l2 (k+1)->IsPair h' s.heap.objs.size x y->(∀c o,c≠z->c≠TO->c≠j1->c≠j2->s.heap.get? c=some o->h'.get? c=some o)->Q (.ref s.heap.objs.size) { s with heap:=h' }):
 wpAny (model prog w) A (Builtin.«zip.__next__» ⟨[.ref z],[]⟩) (fun fin s'=>∃v,fin = .done (.ret v)/\Q v s') E s:=by
 show wpAny _ _ (field (.ref z) 2 >>= _) _ _ _
 refine wpAny_bind (wpAny_field hz rfl (x:=.bool false) rfl ?_)
 show wpAny _ _ (field (.ref z) 3 >>= _) _ _ _
 refine wpAny_bind (wpAny_field hz rfl (x:=.ref TI) rfl (wpAny_bind (wpAny_seqItems hTI rfl ?_)))
 show wpAny _ _ (ownedTupleIsFree (.ref z) >>= _) _ _ _
 refine wpAny_bind ?_
 unfold ownedTupleIsFree
 refine wpAny_bind (wpAny_field hz rfl (x:=.none) rfl (wpAny_pure ?_))
 simp only [if_true]
 refine wpAny_bind (wpAny_rule (wpAny_bind (wpAny_field hz rfl (x:=.ref TO) rfl (wpAny_bind (wpAny_setField_rec hz (by simp) fun a1 z1 m1=>?_)))))
 replace z1:IsZip a1 z TI TO .ellipsis:=z1
 refine wpAny_bind ?_
 simp only [List.zipIdx_cons,List.zipIdx_nil,List.forIn_cons,List.forIn_nil]
 refine wpAny_bind (wpAny_bind (wpAny_onRaise ?_))
 show wpAny _ _ (nextOf (.ref j1) >>= _) _ _ _
 refine wpAny_bind (nx_tup (h1.extBut m1.extBut D.i1z) (g1.extBut m1.extBut D.l1z) hx fun a2 i2 m2=>wpAny_pure ?_)
 have o2:IsPair a2 TO u v:=m2.extBut _ _ D.TOi1 (m1.extBut _ _ D.TOz hTO)
 refine wpAny_bind (wpAny_seqItems o2 rfl (wpAny_bind (wpAny_updateSeq_pair o2 fun a3 o3 m3=>?_)))
 replace o3:IsPair a3 TO x v:=o3
 refine wpAny_bind (wpAny_letGo (wpAny_pure (wpAny_bind (wpAny_bind (wpAny_onRaise ?_)))))
 show wpAny _ _ (nextOf (.ref j2) >>= _) _ _ _
 have up3:∀c o,c≠z->c≠TO->c≠j1->s.heap.get? c=some o->a3.get? c=some o:=fun c o c1 c2 c3 e=>m3.extBut _ _ c2 (m2.extBut _ _ c3 (m1.extBut _ _ c1 e))
 refine wpAny_bind (nx_B (h2.at fun o e=>up3 _ _ D.i2z D.TOi2.symm D.i12.symm e) (g2.at fun o e=>up3 _ _ D.l2z D.l2TO D.l2i1 e) hy fun a4 i4 m4=>wpAny_pure ?_)
 have o4:IsPair a4 TO x v:=m4.extBut _ _ D.TOi2 o3
 refine wpAny_bind (wpAny_seqItems o4 rfl (wpAny_bind (wpAny_updateSeq_pair o4 fun a5 o5 m5=>?_)))
 replace o5:IsPair a5 TO x y:=o5
 refine wpAny_bind (wpAny_letGo (wpAny_pure (wpAny_pure (wpAny_bind (wpAny_seqItems o5 rfl (wpAny_bind (wpAny_newTuple ?_)))))))
 have sz:a5.objs.size=s.heap.objs.size:=by rw [m5.1,m4.1,m3.1,m2.1,m1.1]
 have z5:IsZip a5 z TI TO .ellipsis:=m5.extBut _ _ D.TOz.symm (m4.extBut _ _ D.i2z.symm (m3.extBut _ _ D.TOz.symm (m2.extBut _ _ D.i1z.symm z1)))
 have k5:∀c o,c≠z->c≠TO->c≠j1->c≠j2->s.heap.get? c=some o->a5.get? c=some o:=fun c o c1 c2 c3 c4 e=>m5.extBut _ _ c2 (m4.extBut _ _ c4 (up3 c o c1 c2 c3 e))
 have p1:a5.IsTupleIter j1 l1 (k+1):=((i2.extBut m3.extBut D.TOi1.symm).extBut m4.extBut D.i12).extBut m5.extBut D.TOi1.symm
 have p2:ItB b a5 j2 l2 (k+1):=i4.at fun o e=>m5.extBut _ _ D.TOi2.symm e
 have zl:z<a5.objs.size:=Heap.lt_size z5
 show wpAny _ _ (ownedTupleHandOut (.ref z) (.ref a5.objs.size) >>= _) _ _ _
 refine wpAny_bind ?_
 unfold ownedTupleHandOut
 have z6:IsZip (a5.push { cls:=.type "tuple",data:=.seq #[x,y] }) z TI TO .ellipsis:=Heap.get?_push_of_some _ z5
 refine wpAny_bind (wpAny_setField_rec z6 (by simp) fun a7 z7 m7=>?_)
 replace z7:IsZip a7 z TI TO (rawInt a5.objs.size):=z7
 refine wpAny_setField_rec z7 (by simp) fun a8 z8 m8=>?_
 replace z8:IsZip a8 z TI TO (rawInt a5.objs.size):=z8
 have up:∀c o,c≠z->a5.get? c=some o->a8.get? c=some o:=fun c o c1 e=>m8.extBut _ _ c1 (m7.extBut _ _ c1 (Heap.get?_push_of_some _ e))
 have t8:IsPair a8 a5.objs.size x y:=m8.extBut _ _ (Nat.ne_of_gt zl) (m7.extBut _ _ (Nat.ne_of_gt zl) (Heap.get?_push_size _ rfl))
 rw [sz] at z8 t8
 refine wpAny_pure ⟨_,rfl,?_⟩
 show Q (.ref a5.objs.size) _
 rw [sz]
 exact q a8 z8 (up _ _ D.TOz o5) (p1.at fun o e=>up _ o D.i1z e) (p2.at fun o e=>up _ o D.i2z e) t8 fun c o c1 c2 c3 c4 e=>up c o c1 (k5 c o c1 c2 c3 c4 e)
theorem zip_stop {z TI TO j1 j2 l1 l2:Addr}{k:Nat}{xs:Array Value}{u v:Value}{Q:Fin->Shared->Prop}(hh:A.handled=none)(D:ZipApart z TI TO j1 j2 l1 l2)
 (hz:IsZip s.heap z TI TO .none) (hTI:IsPair s.heap TI (.ref j1) (.ref j2)) (h1:s.heap.IsTupleIter j1 l1 k) (g1:s.heap.IsTuple l1 xs) (hx:xs[k]?=none)
 (q:∀h' e,(∀c o,c≠z->c≠j1->s.heap.get? c=some o->h'.get? c=some o)->(∃o,h'.get? e=some o/\o.cls = .type "StopIteration")->E (.ref e) { s with heap:=h' }):
 wpAny (model prog w) A (Builtin.«zip.__next__» ⟨[.ref z],[]⟩) Q E s:=by
 show wpAny _ _ (field (.ref z) 2 >>= _) _ _ _
 refine wpAny_bind (wpAny_field hz rfl (x:=.bool false) rfl ?_)
 show wpAny _ _ (field (.ref z) 3 >>= _) _ _ _
 refine wpAny_bind (wpAny_field hz rfl (x:=.ref TI) rfl (wpAny_bind (wpAny_seqItems hTI rfl ?_)))
 show wpAny _ _ (ownedTupleIsFree (.ref z) >>= _) _ _ _
 refine wpAny_bind ?_
 unfold ownedTupleIsFree
 refine wpAny_bind (wpAny_field hz rfl (x:=.none) rfl (wpAny_pure ?_))
 simp only [if_true]
 refine wpAny_bind (wpAny_rule (wpAny_bind (wpAny_field hz rfl (x:=.ref TO) rfl (wpAny_bind (wpAny_setField_rec hz (by simp) fun a1 z1 m1=>?_)))))
 replace z1:IsZip a1 z TI TO .ellipsis:=z1
 refine wpAny_bind ?_
 simp only [List.zipIdx_cons,List.zipIdx_nil,List.forIn_cons,List.forIn_nil]
 refine wpAny_bind (wpAny_bind (wpAny_onRaise ?_))
 show wpAny _ _ (nextOf (.ref j1) >>= _) _ _ _
 refine wpAny_bind (nx_tup_end hh (h1.extBut m1.extBut D.i1z) (g1.extBut m1.extBut D.l1z) hx fun a2 e m2 ⟨oe,he,ce⟩=>?_)
 have z2:IsZip a2 z TI TO .ellipsis:=m2 _ _ D.i1z.symm z1
 have nz:e≠z:=fun y=>by subst y;rw [z2] at he;cases he;simp at ce
 refine wpAny_setField_rec z2 (by simp) fun a3 _ m3=>q a3 e (fun c o c1 c3 y=>m3.extBut _ _ c1 (m2 _ _ c3 (m1.extBut _ _ c1 y))) ⟨oe,m3.extBut _ _ nz he,ce⟩
theorem zip_next {b:Bool}{z TI TO j1 j2 l1 l2:Addr}{k:Nat}{xs ys:Array Value}{x y u v:Value}{Q:Option Value->Shared->Prop}(D:ZipApart z TI TO j1 j2 l1 l2)
 (hz:IsZip s.heap z TI TO .none) (hTI:IsPair s.heap TI (.ref j1) (.ref j2)) (hTO:IsPair s.heap TO u v) (h1:s.heap.IsTupleIter j1 l1 k) (h2:ItB b s.heap j2 l2 k) (g1:s.heap.IsTuple l1 xs) (g2:SeB b s.heap l2 ys) (hx:xs[k]?=some x) (hy:ys[k]?=some y)
 (q:∀h',IsZip h' z TI TO (rawInt s.heap.objs.size)->IsPair h' TO x y->h'.IsTupleIter j1 l1 (k+1)->ItB b h' j2 l2 (k+1)->IsPair h' s.heap.objs.size x y->(∀c o,c≠z->c≠TO->c≠j1->c≠j2->s.heap.get? c=some o->h'.get? c=some o)->Q (some (.ref s.heap.objs.size)) { s with heap:=h' }):
 wpAny (model prog w) A (pyNext (.ref z)) Q E s:=by
 have hT:s.TypeIs (.ref z) "zip":=⟨_,hz,rfl⟩
 unfold pyNext
 exact wpAny_bind (wpAny_attempt (wpAny_callSpecial?_slot (name:=Str.ofString "__next__") hT F.slot_zip_next (wpAny_call_entry F.slot_zip_next hT F.entry_zip_next
  (zip_turn D hz hTI hTO h1 h2 g1 g2 hx hy fun h' a1 a2 a3 a4 a5 a6=>wpAny_pure (q h' a1 a2 a3 a4 a5 a6)) (F.args_zip_next_1 _))))
theorem zip_end {z TI TO j1 j2 l1 l2:Addr}{k:Nat}{xs:Array Value}{Q:Option Value->Shared->Prop}(hh:A.handled=none)(D:ZipApart z TI TO j1 j2 l1 l2)
 (hz:IsZip s.heap z TI TO .none) (hTI:IsPair s.heap TI (.ref j1) (.ref j2)) (h1:s.heap.IsTupleIter j1 l1 k) (g1:s.heap.IsTuple l1 xs) (hx:xs[k]?=none)
 (q:∀h',(∀c o,c≠z->c≠j1->s.heap.get? c=some o->h'.get? c=some o)->Q none { s with heap:=h' }):wpAny (model prog w) A (pyNext (.ref z)) Q E s:=by
 have hT:s.TypeIs (.ref z) "zip":=⟨_,hz,rfl⟩
 unfold pyNext
 refine wpAny_bind (wpAny_attempt (wpAny_callSpecial?_slot (name:=Str.ofString "__next__") hT F.slot_zip_next (wpAny_call_entry F.slot_zip_next hT F.entry_zip_next
  (zip_stop (u:=.none) (v:=.none) hh D hz hTI h1 g1 hx fun h' e hk ⟨o,ho,hc⟩=>?_) (F.args_zip_next_1 _))))
 exact wpAny_bind (wpAny_isInstance (T:="StopIteration") (b:=true) ⟨o,ho,hc⟩ isSubtype_stop (wpAny_pure (q _ hk)))
end
end L2
namespace L2
open PySem PySem.Spec PyProof.Rows
def itN (b:Bool):String:=match b with | true=>"list_iterator" | false=>"tuple_iterator"
abbrev zH1 (h:Heap)(l1:Addr):Heap:=h.push { cls:=.type "tuple_iterator",data:=.fields #[.ref l1,.int 0 0] }
abbrev zH2 (b:Bool)(h:Heap)(l1 l2:Addr):Heap:=(zH1 h l1).push { cls:=.type (itN b),data:=.fields #[.ref l2,.int 0 0] }
abbrev zH3 (b:Bool)(h:Heap)(l1 l2:Addr):Heap:=(zH2 b h l1 l2).push { cls:=.type "tuple",data:=.seq #[.ref h.objs.size,.ref (zH1 h l1).objs.size] }
abbrev zH4 (b:Bool)(h:Heap)(l1 l2:Addr):Heap:=(zH3 b h l1 l2).push { cls:=.type "tuple",data:=.seq #[.none,.none] }
abbrev zH5 (b:Bool)(h:Heap)(l1 l2:Addr):Heap:=(zH4 b h l1 l2).push { cls:=.type "zip",data:=.fields #[.none,.bool false,.bool false,.ref (zH2 b h l1 l2).objs.size,.ref (zH3 b h l1 l2).objs.size] }
theorem meets_zipB (b:Bool)(l1 l2:Addr)(xs ys:Array Value):Meets (Builtin.«zip.__new__» ⟨[.type "zip",.ref l1,.ref l2],[]⟩) (fun _ R s=>s.heap.IsTuple l1 xs/\SeB b s.heap l2 ys/\R (.ok (.ret (.ref (zH4 b s.heap l1 l2).objs.size))) { s with heap:=zH5 b s.heap l1 l2 }):=
 .of_wp fun prog w A R s h=>by
  obtain⟨hp,g,d,tk,os⟩:=s
  obtain⟨t1,t2,h⟩:=h
  have hsub:=sub_zip
  have g1:Heap.IsTuple (Shared.heap ⟨hp,g,d,tk,os⟩) l1 xs:=t1
  have g2:SeB b (Shared.heap ⟨hp.push { cls:=.type "tuple_iterator",data:=.fields #[.ref l1,.int 0 0] },g,d,tk,os⟩) l2 ys:=t2.at fun o e=>Heap.get?_push_of_some _ e
  cases b with
  | true=>
   have g2:Heap.IsList (Shared.heap ⟨hp.push { cls:=.type "tuple_iterator",data:=.fields #[.ref l1,.int 0 0] },g,d,tk,os⟩) l2 ys:=g2
   wp_walk using wpAny_pyIter_tuple g1,wpAny_pyIter_list g2
   exact⟨_,rfl,h⟩
  | false=>
   have g2:Heap.IsTuple (Shared.heap ⟨hp.push { cls:=.type "tuple_iterator",data:=.fields #[.ref l1,.int 0 0] },g,d,tk,os⟩) l2 ys:=g2
   wp_walk using wpAny_pyIter_tuple g1,wpAny_pyIter_tuple g2
   exact⟨_,rfl,h⟩
section
variable {prog:Program}{w:World}{A:Around}{E:Value->Shared->Prop}{s:Shared}
theorem zip_made {b:Bool}{l1 l2:Addr}{xs ys:Array Value}{Q:Value->Shared->Prop}(t1:s.heap.IsTuple l1 xs)(t2:SeB b s.heap l2 ys)
 (k:∀h',IsZip h' (s.heap.objs.size+4) (s.heap.objs.size+2) (s.heap.objs.size+3) .none->IsPair h' (s.heap.objs.size+2) (.ref s.heap.objs.size) (.ref (s.heap.objs.size+1))->IsPair h' (s.heap.objs.size+3) .none .none ->
   h'.IsTupleIter s.heap.objs.size l1 0->ItB b h' (s.heap.objs.size+1) l2 0->(∀c o,s.heap.get? c=some o->h'.get? c=some o)->Q (.ref (s.heap.objs.size+4)) { s with heap:=h' }):
 wpAny (model prog w) A (call (.type "zip") [.ref l1,.ref l2]) Q E s:=by
 refine callType_new F.called_zip (by decide) (F.typeCall_zip_2 _ _) (F.newCall_zip_2 _ _) (fun obj=>F.args_object_init_3 obj _ _) F.entry_zip_new (meets_zipB b l1 l2 xs ys) ⟨t1,t2,?_⟩
 have n1:(zH1 s.heap l1).objs.size=s.heap.objs.size+1:=Heap.size_push ..
 have n2:(zH2 b s.heap l1 l2).objs.size=s.heap.objs.size+2:=by rw [Heap.size_push,n1]
 have n3:(zH3 b s.heap l1 l2).objs.size=s.heap.objs.size+3:=by rw [Heap.size_push,n2]
 have n4:(zH4 b s.heap l1 l2).objs.size=s.heap.objs.size+4:=by rw [Heap.size_push,n3]
 have up:∀{h:Heap} {o:Obj} {c:Addr} {u:Obj},h.get? c=some u->(h.push o).get? c=some u:=fun e=>Heap.get?_push_of_some _ e
 have e5:(zH5 b s.heap l1 l2).get? (zH4 b s.heap l1 l2).objs.size=some _:=Heap.get?_push_size _ rfl
 have e4:(zH5 b s.heap l1 l2).get? (zH3 b s.heap l1 l2).objs.size=some _:=up (Heap.get?_push_size _ rfl)
 have e3:(zH5 b s.heap l1 l2).get? (zH2 b s.heap l1 l2).objs.size=some _:=up (up (Heap.get?_push_size _ rfl))
 have e2:(zH5 b s.heap l1 l2).get? (zH1 s.heap l1).objs.size=some _:=up (up (up (Heap.get?_push_size _ rfl)))
 have e1:(zH5 b s.heap l1 l2).get? s.heap.objs.size=some _:=up (up (up (up (Heap.get?_push_size _ rfl))))
 show _/\_
 rw [n2,n3,n4] at e5
 rw [n1,n2] at e3
 rw [n3] at e4
 rw [n1] at e2
 rw [n4]
 exact⟨⟨_,e5,rfl⟩,k _ e5 e3 e4 ⟨_,e1,rfl,rfl⟩ (by cases b<;>exact⟨_,e2,rfl,rfl⟩) fun c o e=>up (up (up (up (up e))))⟩
end
def SqB (b:Bool)(K:PySem.W.Frag)(H:Hp)(a:Addr)(xs:List V):Prop:=match b with | true=>SqL K H a xs | false=>SqT K H a xs
theorem Inv.seB {X:Cx}{pins:List (Addr×Obj)}{σ:St}{H:Hp}{s:Shared}{b:Bool}{a:Addr}{xs:List V}(I:Inv X pins σ H s)(h:SqB b X.K H a xs):∃its:List Value,Vals xs its/\SeB b s.heap a its.toArray:=by
 cases b with
 | true=>obtain⟨its,rv,p,_⟩:=I.list h;exact⟨its,rv,p.isList⟩
 | false=>obtain⟨its,rv,p,_⟩:=I.tuple h;exact⟨its,rv,p⟩
def Itz (b:Bool)(K:PySem.W.Frag)(zs:List Str)(l:Addr):It:=
 ⟨fun i H=>∃z ys y,zs[i]?=some z/\SqB b K H l ys/\ys[i]?=some y,fun i H x H'=>∃p z y,H p=none/\zs[i]?=some z/\(∀ys,SqB b K H l ys->ys[i]?=some y)/\x = .ref p/\H'=upd H p (.tup [.str z,y]),fun i H=>zs.length<=i⟩
theorem sqB_inj {X:Cx}{pins:List (Addr×Obj)}{σ:St}{H:Hp}{s:Shared}{b:Bool}{a:Addr}{xs ys:List V}(I:Inv X pins σ H s)(h:SqB b X.K H a xs)(h':SqB b X.K H a ys):xs=ys:=by
 cases b with
 | true=>exact I.list_inj h h'
 | false=>exact I.tuple_inj h h'
theorem turn_zip {P:Program}{w:World}{K:PySem.W.Frag}{elts:List Expr}{kk:Nat}{pos:Pos}{b:Bool}{zs:List Str}{a z TI TO j1 j2 l:Addr}(hK:∀H,SqT K H a (zs.map V.str))(D:ZipApart z TI TO j1 j2 a l):
 Turn P w K (.Tuple elts kk pos) (Itz b K zs l) [z,TI,TO,j1,j2] z (fun i h=>IsZip h z TI TO .none/\IsPair h TI (.ref j1) (.ref j2)/\(∃u v,IsPair h TO u v)/\h.IsTupleIter j1 a i/\ItB b h j2 l i) where
 mem:=by simp
 obj:=fun i h st c hc=>by
  obtain⟨g1,g2,⟨u,v,g3⟩,⟨o4,g4,_,d4⟩,g5⟩:=st
  obtain⟨o5,vs,g5,d5⟩:=g5.obj
  simp only [List.mem_cons,List.not_mem_nil,or_false] at hc
  rcases hc with rfl|rfl|rfl|rfl|rfl
  ·exact⟨_,g1,fun v q=>nomatch q⟩
  ·exact⟨_,g2,fun v q=>nomatch q⟩
  ·exact⟨_,g3,fun v q=>nomatch q⟩
  ·exact⟨_,g4,fun v q=>by rw [d4] at q;cases q⟩
  ·exact⟨_,g5,fun v q=>by rw [d5] at q;cases q⟩
 keep:=fun i h h' st k=>by
  obtain⟨g1,g2,⟨u,v,g3⟩,g4,g5⟩:=st
  exact⟨k _ (by simp) _ g1,k _ (by simp) _ g2,⟨u,v,k _ (by simp) _ g3⟩,g4.at fun o e=>k _ (by simp) o e,g5.at fun o e=>k _ (by simp) o e⟩
 item:=by
  intro X hP hw hKK hc i pins s σ H E I hf st hg
  subst hP hw hKK
  obtain⟨x,ys,y,hx,hq,hy⟩:=hg
  obtain⟨it1,r1,p1,_⟩:=I.tuple (hK H)
  obtain⟨it2,r2,p2⟩:=I.seB hq
  obtain⟨u1,hu1,ru1⟩:=r1.get (i:=i) (x:=.str x) (by rw [List.getElem?_map,hx];rfl)
  obtain⟨u2,hu2,ru2⟩:=r2.get hy
  obtain⟨g1,g2,⟨u,v,g3⟩,g4,g5⟩:=st
  refine zip_next D g1 g2 g3 g4 g5 p1 p2 (by simpa using hu1) (by simpa using hu2) fun h1 k1 k2 k3 k4 k5 k6=>⟨_,rfl,?_⟩
  refine wpAny_letOwnedTupleGo_zip k1 fun h2 z2 sb=>?_
  have zl:z<s.heap.objs.size:=Heap.lt_size g1
  have J:Inv X pins σ (upd H s.heap.objs.size (.tup [.str x,y])) { s with heap:=h2,toks:=s.toks }:=I.paired (ch:=[z,TI,TO,j1,j2]) (fun c o hc e=>(sb.2 c fun q=>hc (by simp [q])).trans (k6 c o (fun q=>hc (by simp [q])) (fun q=>hc (by simp [q])) (fun q=>hc (by simp [q])) (fun q=>hc (by simp [q])) e)) hf ru1 ru2 ((sb.2 _ (Nat.ne_of_gt zl)).trans k5)
  refine⟨.ref s.heap.objs.size,_,J,rfl,⟨_,x,y,I.hok.fresh (Nat.le_refl _),hx,fun ws hw=>by rw [sqB_inj I hw hq];exact hy,rfl,rfl⟩,⟨z2,(sb.2 _ D.TIz).trans (k6 _ _ D.TIz D.TITO D.TIi1 D.TIi2 g2),⟨_,_,(sb.2 _ D.TOz).trans k2⟩,k3.at fun o e=>(sb.2 _ D.i1z).trans e,k4.at fun o e=>(sb.2 _ D.i2z).trans e⟩,fun c hc=>?_⟩
  have hlt:c<s.heap.objs.size:=by
   simp only [List.mem_cons,List.not_mem_nil,or_false] at hc
   rcases hc with rfl|rfl|rfl|rfl|rfl
   ·exact zl
   ·exact Heap.lt_size g2
   ·exact Heap.lt_size g3
   ·obtain⟨_,e,_⟩:=g4;exact Heap.lt_size e
   ·obtain⟨_,_,e,_⟩:=g5.obj;exact Heap.lt_size e
  rw [upd_ne (Nat.ne_of_lt hlt)]
  exact (hf c hc).1
 done:=by
  intro X hP hw hKK hc i pins s σ H E I hf st hg
  subst hP hw hKK
  obtain⟨it1,r1,p1,_⟩:=I.tuple (hK H)
  obtain⟨g1,g2,⟨u,v,g3⟩,g4,g5⟩:=st
  have hl:=r1.length
  rw [List.length_map] at hl
  have hg:zs.length<=i:=hg
  exact zip_end (I.ok.hd hc) D g1 g2 g4 p1 (by simp;omega) fun h1 k1=>⟨rfl,I.turnedL (t':=s.toks) (ch:=[z,TI,TO,j1,j2]) (fun c o hc e=>k1 c o (fun q=>hc (by simp [q])) (fun q=>hc (by simp [q])) e) hf⟩
 self:=fun _ _ _ _ _ st h=>wpAny_pyIter_zip st.1 h
section
variable {X:Cx}
def iZip (K:PySem.W.Frag)(tl:TA):TI:=fun σ H R=>tl σ H fun xs H1=>∃a l zs b ys,xs=[.ref a,.ref l]/\(∀H,SqT K H a (zs.map V.str))/\SqB b K H1 l ys/\R (Itz b K zs l) H1
theorem pi_zip {e1 e2:Expr}{tl:TA}{elts:List Expr}{kk:Nat}{p pos pt:Pos}(hg:Gl X "zip")(hm:X.mg "zip" = none)(hl:PA X [e1,e2] tl)(hs:starEach [e1,e2] X.env=(false,eval e1 X.env)::starEach [e2] X.env)(hpl:(backTo pos (starEach [e2] X.env)).any (·.1)=false):
 PI X (.Tuple elts kk pt) (.Call (.Name "zip" p) [e1,e2] [] pos) (iZip X.K tl):=by
 intro pins s σ H R I h
 refine wpAny_Call_Name_kw (ld_blt I hg hm PyProof.Rows.boot_zip ?_ (by decide +kernel) (by decide))
 refine PyProof.Rows.callWith_type1 (thn (hl pos pins s σ H _ I h) fun us s1 ⟨vs,H1,I1,r1,a,l,zs,b,ys,e,hK,hq,q⟩=>?_) hs hpl
 subst e
 obtain⟨u,v,rfl,ru,rv⟩:=vals2 r1
 cases ru
 cases rv
 obtain⟨it1,q1,p1,_⟩:=I1.tuple (hK H1)
 obtain⟨it2,q2,p2⟩:=I1.seB hq
 have l1:a<s1.heap.objs.size:=p1.lt
 have l2:l<s1.heap.objs.size:=by cases b<;>(obtain⟨_,e,_⟩:=p2;exact Heap.lt_size e)
 refine zip_made p1 p2 fun h1 g1 g2 g3 g4 g5 g6=>wpAny_pyIter_zip g1 ?_
 refine⟨s1.heap.objs.size+4,[s1.heap.objs.size+4,s1.heap.objs.size+2,s1.heap.objs.size+3,s1.heap.objs.size,s1.heap.objs.size+1],_,Itz b X.K zs l,H1,rfl,I1.kept (t':=s1.toks) g6,turn_zip hK (PySem.W.ktu_apart _ _ _ l1 l2),⟨g1,g2,⟨_,_,g3⟩,g4,g5⟩,fun c hc=>?_,q⟩
 have hc':s1.heap.objs.size<=c:=by
  simp only [List.mem_cons,List.not_mem_nil,or_false] at hc
  rcases hc with rfl|rfl|rfl|rfl|rfl<;>first | exact Nat.le_add_right _ _ | exact Nat.le_refl _
 exact I1.fpOk hc' (I1.hok.fresh hc')
end
end L2
namespace L2
open PySem PySem.Spec PyProof.Rows
open RF (D O Store Tab)
theorem star_plain {e:Expr}{es:List Expr}{env:Env}(h:RF.plainE e=true):starEach (e::es) env=(false,eval e env)::starEach es env:=by
 cases e<;>first | rfl | (simp [RF.plainE] at h)
theorem star_none {env:Env}{pos:Pos}:∀{es:List Expr},es.all RF.plainE=true->(backTo pos (starEach es env)).any (·.1)=false
 | [],_=>rfl
 | e::es,h=>by
  simp only [List.all_cons,Bool.and_eq_true] at h
  rw [star_plain h.1]
  show (false||(backTo pos (starEach es env)).any (·.1))=false
  rw [star_none h.2]
  rfl
theorem star_all {env:Env}{pos:Pos}:∀{es:List Expr},es.all RF.plainE=true->(backTo pos (starEach es env)).all (fun x=>!x.1)=true
 | [],_=>rfl
 | e::es,h=>by
  simp only [List.all_cons,Bool.and_eq_true] at h
  rw [star_plain h.1]
  show (true&&(backTo pos (starEach es env)).all (fun x=>!x.1))=true
  rw [star_all h.2]
  rfl
theorem base_no {o:Expr}{m:Str}{env:Env}{w:Sem Value}(h:RF.noBase o=true):attributeBase o m env w=w:=by
 unfold attributeBase
 split
 ·rename_i x _ _
  have h:(x != ("super":Str))=true:=h
  rw [h]
  rfl
 ·rfl
theorem few_ok {env:Env}{pos:Pos}{es:List Expr}(h:es.all RF.plainE=true)(hn:es.length<30):
 ((backTo pos (starEach es env)).all (fun x=>!x.1)&&(backToKw pos (keywordEach [] env)).all (fun x=>x.1.isSome)&&decide (es.length+([]:List Keyword).length+(if ([]:List Keyword).isEmpty then 0 else 1)<30))=true:=by
 rw [star_all h]
 simp [backToKw,keywordEach,hn]
theorem meth_eval {o:Expr}{m:Str}{apos pos:Pos}{args:List Expr}{env:Env}(hb:RF.noBase o=true)(hp:args.all RF.plainE=true)(hn:args.length<30)(hl:(apos.endLine==pos.line)=true):
 eval (.Call (.Attribute o m apos) args [] pos) env=(do
  let ov <-eval o env
  standAt apos.atName
  let (f,first) <-holding [ov] (getMethod ov m (do return (<-importBound o env).getD true))
  callWith pos f first (backTo pos (starEach args env)) (backToKw pos (keywordEach [] env))):=by
 have hf:methodCallForm (args.length+([]:List Keyword).length) (backTo pos (starEach args env)) (backToKw pos (keywordEach [] env))=true:=few_ok hp hn
 rw [arm_eval_Call,base_no hb]
 unfold methodCall
 rw [hf]
 simp only [calleeOf,methodCallPos,hl,if_true,Bool.not_true,Bool.false_or,pure_bind]
theorem ixOf_get {l:List Str}{x:Str}{i:Nat}(h:RF.ixOf l x=some i):l[i]?=some x:=by
 unfold RF.ixOf at h
 obtain⟨hi,h1,_⟩:=List.findIdx?_eq_some_iff_getElem.mp h
 rw [List.getElem?_eq_getElem hi]
 exact congrArg some (of_decide_eq_true h1)
def Kin (sc sc':Scope):Prop:=∀x:Str,sc'.names.lookup x=sc.names.lookup x\/(sc.names.lookup x=some .free/\sc'.names.lookup x=some .cell)
theorem Kin.refl (sc:Scope):Kin sc sc:=fun _=>.inl rfl
theorem Kin.vis {sc sc':Scope}(k:Kin sc sc'){x:Str}(h:Vis sc x):Vis sc' x:=by
 rcases k x with e | ⟨_,e⟩
 ·unfold Vis;rw [e];exact h
 ·exact .inr (.inl e)
theorem Kin.glob {sc sc':Scope}(k:Kin sc sc'){x:Str}(h:sc.names.lookup x=some .globalImplicit):sc'.names.lookup x=some .globalImplicit:=by
 rcases k x with e | ⟨e,_⟩
 ·rw [e];exact h
 ·rw [h] at e;cases e
def spC (K:PySem.W.Frag)(W:Adr)(f:List D->Store->RF.R D)(n:Nat):Sp:=fun vs H Q E=>vs.length=n/\∃M S ds,Cn K W M S H/\RelDs M H ds vs/\GlG K W RelD E M H (f ds S) Q
def bNames:List Str:=["isinstance","int","bool","str","tuple","list","len","all","max","min","range","set","sorted","zip","enumerate","ValueError"]
def dV:D->V
 | .bl b=>.bl b
 | .int i=>.int i
 | .str x=>.str x
 | _=>.non
def fillV (kw:List (Str×D))(ks:List Str)(zs:List V):List V:=kw.map fun p=>((ks.zip zs).lookup p.1).getD (dV p.2)
def BindsM (K:PySem.W.Frag)(T:Tab)(c:Nat)(x:Str)(fd:FuncData)(ps:List Str):Prop:=
 (x = "__init__"/\T.kwOf c≠[]/\(∀p∈T.kwOf c,RF.flatD p.2=true)/\∀ks:List Str,(ks.all fun q=>(T.kwOf c).any fun p=>decide (p.1=q))=true->ks.Nodup->∃g,KBinds K fd ps ks g fun vs zs=>vs++fillV (T.kwOf c) ks zs)\/((x = "__init__"->T.kwOf c=[])/\Binds K fd ps [])
structure XIs (K:PySem.W.Frag)(W:Adr)(c:Nat):Prop where
 is:ExcIs K (W.x c)
 one:∀d,d<W.T.excs.length->PySem.W.kitOne K (.ref (W.x c)) (.ref (W.x d))=some (c==d)
 ve:PySem.W.kitOne K (.ref (W.x c)) (.type "ValueError")=some true
 fld:∀f,W.T.pay.lookup c=some f->∃B,XCls K (W.x c) B f
structure TopK (P:Program)(w:World)(K:PySem.W.Frag)(mg:Str->Option Value)(base:Heap)(W:Adr)(cl:RF.Calls)(k:Nat):Prop where
 cons:∀x d,W.T.cons.lookup x=some d->∃u v,mg x=some u/\RelV v u/\∀M H,RelD M H d v
 fn:∀x i,RF.ixOf W.T.funs x=some i->∃f fd ps,FnOk P w K mg base (CXF P w) k f fd ps (spC K W (cl.f i) ps.length)/\(∀ds S,ds.length≠ps.length->cl.f i ds S = .bad)/\mg x=some (.ref f)/\PySem.W.keepIn K (.ref f)=true/\Binds K fd ps []
 clsG:∀x c,RF.ixOf W.T.clss x=some c->mg x=some (.ref (W.c c))
 clsK:∀c,c<W.T.clss.length->Cls K (W.c c)
 plain:∀c f x,c<W.T.clss.length->W.T.plain c f=true->W.T.nams[f]?=some x->NoAttr K (W.c c) x
 mt:∀c m x,W.T.isM c m=true->W.T.nams[m]?=some x->∃f fd ps,FnOk P w K mg base (CXF P w) k f fd ps (spC K W (cl.m c m) ps.length)/\(∀ds S,ds.length≠ps.length->cl.m c m ds S = .bad)/\Meth K (W.c c) x f/\BindsM K W.T c x fd ps/\(x = "__init__"->Mk K (W.c c) f)/\Cls K (W.c c)
 exc:∀x c,RF.ixOf W.T.excs x=some c->mg x=some (.ref (W.x c))/\(W.T.pay.lookup c=none->ExcC K (W.x c))/\∀f,W.T.pay.lookup c=some f->XC P w K (W.x c) f
 blt:∀x∈bNames,mg x=none
 kd:∀x kvs,W.T.kds.lookup x=some kvs->∃p,mg x=some (.ref p)/\KDicAt P w K p kvs
 kt:∀a xs,W.T.kts.lookup a=some xs->xs.length<=100/\∀H,SqT K H a (xs.map V.str)
 xis:∀c,c<W.T.excs.length->XIs K W c
def LamK (X:Cx)(W:Adr)(k:Nat):Prop:=∃(c P ft Wa:Addr),(P,X.env.qual ++ "<lambda>")∈W.tb/\(∀p∈W.tb,p.1=P->p.2=X.env.qual ++ "<lambda>")/\X.env.code = .ref c/\PySem.W.codeHdIn X.K c P=true/\BmAt X.mg X.base/\Room (k+3) X.A /\
 MetOk X.prog X.w X.K X.mg X.base ft Wa/\X.mg "_law_met" = some (.ref ft)/\PySem.W.keepIn X.K (.ref ft)=true/\∀i,i<W.T.excs.length->PySem.W.kitCls X.K (.ref (W.x i)) (.ref Wa)=some true
structure CxK (X:Cx)(W:Adr)(Γ:RF.Gm)(E:XK)(cl:RF.Calls)(k:Nat):Prop where
 N:X.N=Γ.N
 nd:X.N.Nodup
 kin:Kin Γ.sc X.env.scope
 calm:X.calm=true
 room:Room (k+1) X.A
 pass:Passes (CXF X.prog X.w) X E
 top:TopK X.prog X.w X.K X.mg X.base W cl k
 lamK:Γ.lam=true->LamK X W k
section
variable {X:Cx}{W:Adr}{Γ:RF.Gm}{E:XK}{cl:RF.Calls}{k:Nat}{a b c e:Expr}{ca cb cc:RF.C D}{pos:Pos}
theorem CxK.units (C:CxK X W Γ E cl k):X.A.units+RF.depth<cLine:=Nat.lt_of_le_of_lt (Nat.add_le_add_left (by decide:RF.depth<=64) _) C.room.units
theorem CxK.units1 (C:CxK X W Γ E cl k):X.A.units+1<cLine:=hu_of C.room
theorem CxK.units2 (C:CxK X W Γ E cl k):X.A.units+2<cLine:=Nat.lt_of_le_of_lt (Nat.add_le_add_left (by decide:2<=64) _) C.room.units
theorem CxK.units3 (C:CxK X W Γ E cl k):X.A.units+3<cLine:=Nat.lt_of_le_of_lt (Nat.add_le_add_left (by decide:3<=64) _) C.room.units
theorem CxK.gl (C:CxK X W Γ E cl k){x:Str}(h:RF.isGl Γ x=true):Gl X x/\(x==("__debug__":Str))=false:=by
 unfold RF.isGl RF.oddName at h
 simp only [Bool.and_eq_true,Bool.not_eq_true',Bool.or_eq_false_iff] at h
 exact⟨C.kin.glob (eq_of_beq h.2),h.1.1⟩
theorem sn_con {d:D}{v:V}{t:TE}(h:PE X e (tC v))(r:∀M H,RelD M H d v):PE X e (tE X.K W E (RF.cE d)):=
 h.imp fun σ H Q ⟨M,ρ,S,s,g⟩=>GlG.now g s.con (r M H)
theorem sn_var {i:Nat}{x:Str}(hN:X.N[i]?=some x)(hv:Vis X.env.scope x)(hd:(x==("__debug__":Str))=false)(hc:(x==("__classdict__":Str))=false):PE X (.Name x pos) (tE X.K W E (RF.varE i)):=by
 refine (pe_var hN hv hd hc).imp fun σ H Q ⟨M,ρ,S,s,g⟩=>?_
 unfold RF.varE at g
 split at g
 ·rename_i d hd
  obtain⟨v,h1,h2⟩:=s.env i d hd
  exact⟨v,h1,GlG.now g s.con h2⟩
 ·exact g.elim
theorem sn_name (C:CxK X W Γ E cl k)(x:Str):PE X (.Name x pos) (tE X.K W E (RF.nameE W.T Γ x)):=by
 unfold RF.nameE
 split
 ·exact pe_bad
 ·rename_i ho
  unfold RF.oddName at ho
  simp only [Bool.or_eq_true,not_or,Bool.not_eq_true] at ho
  have loc:Vis Γ.sc x->PE X (.Name x pos) (tE X.K W E (match RF.ixOf Γ.N x with | some i=>RF.varE i | none=>RF.badC)):=fun hv=>by
   split
   ·rename_i i hi
    exact sn_var (by rw [C.N];exact ixOf_get hi) (C.kin.vis hv) ho.1 ho.2
   ·exact pe_bad
  split
  ·rename_i h;exact loc (.inl h)
  ·rename_i h;exact loc (.inr (.inl h))
  ·rename_i h;exact loc (.inr (.inr h))
  ·rename_i h
   split
   ·rename_i d hd
    obtain⟨u,v,h1,h2,h3⟩:=C.top.cons x d hd
    exact sn_con (t:=tC v) (pe_glob (C.kin.glob h) h1 h2 ho.1) h3
   ·exact pe_bad
  ·exact pe_bad
theorem sn_not (ha:PE X a (tE X.K W E ca)):PE X (.UnaryOp .Not a pos) (tE X.K W E (RF.notE ca)):=by
 refine (pe_not ha).imp fun σ H Q ⟨M,ρ,S,s,g⟩=>?_
 refine seqG s g fun M1 H1 x u S1 s1 u1 r1 g1=>?_
 obtain⟨t,rfl,g1⟩:=bool_gl g1
 cases r1
 exact⟨t,rfl,GlG.now g1 s1.con (.bl _)⟩
theorem sn_and {r:List Expr}(ha:PE X a (tE X.K W E ca))(hb:PE X (.BoolOp .And (b::r) pos) (tE X.K W E cb)):PE X (.BoolOp .And (a::b::r) pos) (tE X.K W E (RF.andE ca cb)):=by
 refine (pe_and ha hb).imp fun σ H Q ⟨M,ρ,S,s,g⟩=>?_
 refine seqG s g fun M1 H1 x u S1 s1 u1 r1 g1=>?_
 obtain⟨t,rfl,g1⟩:=bool_gl g1
 cases r1
 refine⟨t,rfl,?_⟩
 cases t with
 | true=>exact iteT ⟨M1,ρ,S1,s1,g1⟩
 | false=>exact iteF (GlG.now g1 s1.con (.bl _))
theorem sn_or {r:List Expr}(ha:PE X a (tE X.K W E ca))(hb:PE X (.BoolOp .Or (b::r) pos) (tE X.K W E cb)):PE X (.BoolOp .Or (a::b::r) pos) (tE X.K W E (RF.orE ca cb)):=by
 refine (pe_or ha hb).imp fun σ H Q ⟨M,ρ,S,s,g⟩=>?_
 refine seqG s g fun M1 H1 x u S1 s1 u1 r1 g1=>?_
 obtain⟨t,rfl,g1⟩:=bool_gl g1
 cases r1
 refine⟨t,rfl,?_⟩
 cases t with
 | true=>exact iteT (GlG.now g1 s1.con (.bl _))
 | false=>exact iteF ⟨M1,ρ,S1,s1,g1⟩
theorem sn_notT {ct:RF.C Bool}(ha:PT X a (tT X.K W E ct)):PT X (.UnaryOp .Not a pos) (tT X.K W E (RF.notT ct)):=by
 refine (pt_not ha).imp fun σ H Q ⟨M,ρ,S,s,g⟩=>?_
 refine seqG s g fun M1 H1 x u S1 s1 u1 r1 g1=>?_
 subst r1
 exact GlG.now g1 s1.con rfl
theorem sn_andT {r:List Expr}{ct cu:RF.C Bool}(ha:PT X a (tT X.K W E ct))(hb:PW X (.BoolOp .And (b::r) pos) (tT X.K W E cu)):PW X (.BoolOp .And (a::b::r) pos) (tT X.K W E (RF.andT ct cu)):=by
 refine (pw_and ha hb).imp fun σ H Q ⟨M,ρ,S,s,g⟩=>?_
 refine seqG s g fun M1 H1 x u S1 s1 u1 r1 g1=>?_
 subst r1
 cases x with
 | true=>exact iteT ⟨M1,ρ,S1,s1,g1⟩
 | false=>exact iteF (GlG.now g1 s1.con rfl)
theorem sn_orT {r:List Expr}{ct cu:RF.C Bool}(ha:PT X a (tT X.K W E ct))(hb:PW X (.BoolOp .Or (b::r) pos) (tT X.K W E cu)):PW X (.BoolOp .Or (a::b::r) pos) (tT X.K W E (RF.orT ct cu)):=by
 refine (pw_or ha hb).imp fun σ H Q ⟨M,ρ,S,s,g⟩=>?_
 refine seqG s g fun M1 H1 x u S1 s1 u1 r1 g1=>?_
 subst r1
 cases x with
 | true=>exact iteT (GlG.now g1 s1.con rfl)
 | false=>exact iteF ⟨M1,ρ,S1,s1,g1⟩
theorem tru_rel {K:PySem.W.Frag}{M:List Addr}{S:Store}{H:Hp}(cn:Cn K W M S H){x:D}{u:V}{t:Bool}(r:RelD M H x u)(h:RF.truthD S x=some t):TruV K u H t:=by
 cases r with
 | non=>cases h;rfl
 | bl b=>cases h;rfl
 | int i=>cases h;rfl
 | str z=>cases h
 | kt a=>cases h
 | tup ha hx=>
  cases h
  exact .inr (.inl ⟨_,SqT.of ha,by rw [hx.nil_iff]⟩)
 | ref hm=>
  rename_i n p
  simp only [RF.truthD] at h
  split at h
  ·rename_i xs hS
   cases h
   obtain⟨vs,h1,h2⟩:=cn.lst hS hm
   exact .inl ⟨vs,SqL.of h1,by rw [h2.nil_iff]⟩
  ·rename_i xs hS
   cases h
   obtain⟨vs,h1,h2⟩:=cn.at_ n _ p hS hm
   exact .inl ⟨vs,h1.sq,by rw [h2.nil_iff]⟩
  ·cases h
theorem sn_test (ha:PE X a (tE X.K W E ca))(he:∀whole,isTrue a X.env whole=(do let v <-whole;standAt a.pos;holding [v] (truthy v))):PT X a (tT X.K W E (RF.testE ca)):=by
 refine (pt_truth ha he).imp fun σ H Q ⟨M,ρ,S,s,g⟩=>?_
 refine seqG s g fun M1 H1 x u S1 s1 u1 r1 g1=>?_
 unfold RF.truthOf at g1
 split at g1
 ·rename_i t ht
  exact⟨t,tru_rel s1.con r1 ht,GlG.now g1 s1.con rfl⟩
 ·exact g1.elim
theorem sn_args {f:Expr->RF.C D}:∀{es:List Expr},(∀e∈es,PE X e (tE X.K W E (f e)))->es.all RF.plainE=true->PA X es (tA X.K W E (RF.seqE (es.map f)))
 | [],_,_=>pa_nil.imp fun σ H Q ⟨M,ρ,S,s,g⟩=>GlG.now g s.con .nil
 | e::es,h,hp=>by
  simp only [List.all_cons,Bool.and_eq_true] at hp
  refine (pa_cons (h e List.mem_cons_self) (sn_args (fun e' he'=>h e' (List.mem_cons_of_mem _ he')) hp.2) (star_plain hp.1)).imp fun σ H Q ⟨M,ρ,S,s,g⟩=>?_
  refine seqG s g fun M1 H1 x u S1 s1 u1 r1 g1=>seqG s1 g1 fun M2 H2 xs us S2 s2 u2 r2 g2=>?_
  exact GlG.now g2 s2.con (.cons (r1.up u2) r2)
theorem seqE_len {cs:List (RF.C D)}{ρ:RF.Env}{S S':Store}{xs:List D}(h:RF.seqE cs ρ S = .ok xs S'):xs.length=cs.length:=by
 induction cs generalizing S S' xs with
 | nil=>cases h;rfl
 | cons c cs ih=>
  unfold RF.seqE at h
  cases e:c ρ S with
  | ok x S1=>
   rw [e,RF.R.bind_ok] at h
   cases e2:RF.seqE cs ρ S1 with
   | ok ys S2=>
    rw [e2,RF.R.bind_ok] at h
    cases h
    simp [ih e2]
   | ex _ _ _=>rw [e2] at h;cases h
   | bad=>rw [e2] at h;cases h
  | ex _ _ _=>rw [e] at h;cases h
  | bad=>rw [e] at h;cases h
theorem sn_tup {f:Expr->RF.C D}{es:List Expr}{kk:Nat}(h:∀e∈es,PE X e (tE X.K W E (f e)))(hp:es.all RF.plainE=true):PE X (.Tuple es kk pos) (tE X.K W E (RF.tupE (es.map f))):=by
 refine (pe_tup (sn_args h hp)).imp fun σ H Q ⟨M,ρ,S,s,g⟩=>?_
 obtain⟨hz,g⟩:=GlG.guard g
 have hz:(es.map f).length<=sizeLine:=of_decide_eq_true hz
 refine⟨M,ρ,S,s,?_⟩
 cases e:RF.seqE (es.map f) ρ S with
 | ok xs S1=>
  rw [e,RF.R.bind_ok] at g
  intro M1 H1 us c1 u1 r1
  refine⟨by rw [<-r1.length,seqE_len e];exact hz,fun p hp=>?_⟩
  exact GlG.at_ (g.up u1) (c1.fresh hp) (up_fresh hp) (.tup upd_same (r1.up (up_fresh hp)))
 | ex x p S1=>rw [e] at g;exact g
 | bad=>rw [e] at g;exact g
theorem sn_lst {f:Expr->RF.C D}{es:List Expr}(h:∀e∈es,PE X e (tE X.K W E (f e)))(hp:es.all RF.plainE=true):PE X (.List es pos) (tE X.K W E (RF.lstE (es.map f))):=by
 refine (pe_lst (sn_args h hp)).imp fun σ H Q ⟨M,ρ,S,s,g⟩=>?_
 obtain⟨hz,g⟩:=GlG.guard g
 have hz:(es.map f).length<=sizeLine:=of_decide_eq_true hz
 refine⟨M,ρ,S,s,?_⟩
 cases e:RF.seqE (es.map f) ρ S with
 | ok xs S1=>
  rw [e,RF.R.bind_ok] at g
  intro M1 H1 us c1 u1 r1
  exact⟨by rw [<-r1.length,seqE_len e];exact hz,gl_newL (g.up u1) c1 r1⟩
 | ex x p S1=>rw [e] at g;exact g
 | bad=>rw [e] at g;exact g
theorem sn_dict:PE X (.Dict [] [] pos) (tE X.K W E RF.dictE):=
 pe_dnewT.imp fun σ H Q ⟨M,ρ,S,s,g⟩ p hp=>GlG.at_ g (s.con.new hp rfl (.inr ⟨[],upd_same,.nil⟩)) (up_new hp) (new_at s.con)
end
end L2
namespace L2
open PySem PySem.Spec PyProof.Rows
open RF (D O Store Tab)
section
variable {K:PySem.W.Frag}{W:Adr}{M M1 M2:List Addr}{S S1 S2:Store}{H H1 H2:Hp}{ρ:RF.Env}{σ:St}{E:XK}
theorem tG_ok {α β:Type}{rel:List Addr->Hp->α->β->Prop}{c:RF.C α}{x:α}{Q1:β->Hp->Prop}(s:Sm K W M S H ρ σ)(e:c ρ S = .ok x S1)(k:∀M1 H1 u,Sm K W M1 S1 H1 ρ σ->Up M H M1 H1->rel M1 H1 x u->Q1 u H1):tG K W rel E c σ H Q1:=
 ⟨M,ρ,S,s,by rw [e];exact fun M1 H1 u c1 u1 r1=>k M1 H1 u (s.to c1 u1) u1 r1⟩
theorem tG_ex {α β γ δ:Type}{rel:List Addr->Hp->α->β->Prop}{rel':List Addr->Hp->γ->δ->Prop}{c:RF.C α}{x:Nat}{p:List D}{Q1:β->Hp->Prop}{Q:δ->Hp->Prop}(s:Sm K W M S H ρ σ)(e:c ρ S = .ex x p S1)(g:GlG K W rel' E M H (.ex x p S1) Q):tG K W rel E c σ H Q1:=
 ⟨M,ρ,S,s,by rw [e];exact g⟩
end
section
variable {X:Cx}{W:Adr}{Γ:RF.Gm}{E:XK}{cl:RF.Calls}{k:Nat}{a b c e:Expr}{ca cb cc:RF.C D}{pos:Pos}
theorem getI_at {M:List Addr}{H:Hp}{xs:List D}{vs:List V}(r:RelDs M H xs vs){i:Int}{d:D}(h:RF.getI xs i=some d):∃v,atI vs i=some v/\RelD M H d v:=by
 unfold RF.getI at h
 unfold atI
 obtain⟨j,h1,h2⟩:=Option.bind_eq_some_iff.mp h
 obtain⟨v,g1,g2⟩:=r.get h2
 refine⟨v,?_,g2⟩
 have:ixN vs.length i=some j:=by rw [<-r.length];exact h1
 rw [this]
 exact g1
theorem noSl_of {i:Expr}(h:RF.noSlice i=true):∀ov iv,subscripted i false ov iv=operate [ov,iv] (getItem ov iv):=by
 intro ov iv
 cases i<;>first | rfl | (simp [RF.noSlice] at h)
def rIxD:R2:=fun x y H Q=>∃a v,x = .ref a/\DGet H a y (some v)/\Q v H
theorem ix_dict (hu:X.A.units+1<cLine):IxR X rIxD:=by
 intro value slice pins s σ H x y v u Q I rx ry h hs
 obtain⟨a,w',rfl,g,q⟩:=h
 cases rx
 exact tail_any (dict_typeIs I g) PySem.F.slot_dict_getitem.lookup (d_getItem hu I g ry fun z s3 I3 rz=>⟨w',H,I3,rz,q⟩) hs
def rIxA (K:PySem.W.Frag):R2:=fun x y H Q=>rIxD x y H Q\/rIxL K x y H Q\/rIxT K x y H Q
theorem os_ix:OpS X W E RF.getItemD (rIxA X.K):=by
 intro M S H x y u v Q cn rx ry g
 unfold RF.getItemD at g
 split at g
 ·split at g
  ·rename_i hd d hl
   obtain⟨p,H',o,e,hr,c',u',dg,z⟩:=look_dic cn rx ry hl
   rcases z with⟨z,_⟩|⟨d',w,z1,rfl,z3⟩
   ·cases z
   ·cases z1
    rcases hr with rfl | hr
    ·exact .inl ⟨p,w,e,dg,GlG.now g cn z3⟩
    ·exfalso
     rcases hr with⟨q,rfl⟩|⟨q,rfl⟩
     ·rcases dg with⟨kvs,kk,q1,_,q3⟩|⟨kvs,kk,bb,q1,_,_,q3⟩
      ·rcases q1 with q1 | ⟨_,q1⟩<;>(rw [upd_same] at q1;cases q1)
      ·rcases q1 with q1 | ⟨_,q1⟩<;>(rw [upd_same] at q1;cases q1)
       cases q3
     ·rcases dg with⟨kvs,kk,q1,_,q3⟩|⟨kvs,kk,bb,q1,_,_,q3⟩
      ·rcases q1 with q1 | ⟨_,q1⟩<;>(rw [upd_same] at q1;cases q1)
       cases q3
      ·rcases q1 with q1 | ⟨_,q1⟩<;>(rw [upd_same] at q1;cases q1)
  ·exact g.elim
 ·split at g
  ·rename_i xs i hi
   split at g
   ·rename_i d hd
    cases ry
    obtain⟨p,vs,rfl,hs,hv⟩:=items_sq cn hi rx
    obtain⟨w,e1,e2⟩:=getI_at hv hd
    rcases hs with hs | hs
    ·exact .inr (.inl ⟨p,vs,i,w,rfl,rfl,hs,e1,GlG.now g cn e2⟩)
    ·exact .inr (.inr ⟨p,vs,i,w,rfl,rfl,hs,e1,GlG.now g cn e2⟩)
   ·exact g.elim
  ·exact g.elim
theorem sn_ix (C:CxK X W Γ E cl k)(ha:PE X a (tE X.K W E ca))(hb:PE X b (tE X.K W E cb))(hs:RF.noSlice b=true):PE X (.Subscript a b pos) (tE X.K W E (RF.ixE ca cb)):=
 (pe_ix (r:=rIxA X.K) ((ix_dict C.units1).or (ix_list.or ix_tup)) ha hb (noSl_of hs)).imp fun _ _ _ h=>op2 os_ix h
theorem cut_rel {M:List Addr}{H:Hp}{xs:List D}{vs:List V}(r:RelDs M H xs vs)(lo hi:Option Int):RelDs M H (RF.cutD xs lo hi) (cutV vs lo hi):=by
 unfold RF.cutD cutV
 rw [<-r.length]
 exact (r.drop _).take _
theorem sn_part {f:Expr->RF.C D}{o:Option Expr}(h:∀e∈o,PE X e (tE X.K W E (f e))):PO X o (tG X.K W (fun _ _ x y=>x=y) E (RF.intPart (o.map f))):=by
 cases o with
 | none=>
  intro pins s σ H Q I ⟨M,ρ,S,sm,g⟩
  exact po_none pins s σ H Q I (GlG.now g sm.con rfl)
 | some e=>
  intro pins s σ H Q I ⟨M,ρ,S,sm,g⟩
  refine po_some (h e rfl) pins s σ H Q I ?_
  refine seqG sm g fun M1 H1 x u S1 s1 u1 r1 g1=>?_
  cases x with
  | int i=>cases r1;exact⟨i,rfl,GlG.now g1 s1.con rfl⟩
  | _=>exact g1.elim
theorem sn_slice {f:Expr->RF.C D}{lo hi:Option Expr}{p2:Pos}(ha:PE X a (tE X.K W E ca))(hl:∀e∈lo,PE X e (tE X.K W E (f e)))(hh:∀e∈hi,PE X e (tE X.K W E (f e))):
 PE X (.Subscript a (.Slice lo hi none p2) pos) (tE X.K W E (RF.sliceE ca (lo.map f) (hi.map f))):=by
 refine (pe_slice (sl_tup.or sl_str) ha (sn_part hl) (sn_part hh)).imp fun σ H Q ⟨M,ρ,S,s,g⟩=>?_
 refine seqG s g fun M1 H1 x u S1 s1 u1 r1 g1=>seqG s1 g1 fun M2 H2 l l' S2 s2 u2 r2 g2=>seqG s2 g2 fun M3 H3 h h' S3 s3 u3 r3 g3=>?_
 subst r2 r3
 have rx:=(r1.up u2).up u3
 unfold RF.sliceD at g3
 split at g3
 ·obtain⟨p,vs,rfl,hp,hv⟩:=rel_tup rx
  obtain⟨hw,g3⟩:=GlG.guard g3
  refine .inl ⟨p,vs,rfl,SqT.of hp,fun z=>?_,fun q hq=>?_⟩
  ·rw [<-hv.length] at z
   have z1:=z.1
   have z2:=z.2
   change RF.sIx _ 0 _=0 at z1
   change RF.sIx _ _ _=_ at z2
   rw [z1,z2] at hw
   simp at hw
  ·exact GlG.at_ g3 (s3.con.fresh hq) (up_fresh hq) (.tup upd_same ((cut_rel hv l h).up (up_fresh hq)))
 ·cases rx
  obtain⟨hz,g3⟩:=GlG.guard g3
  exact .inr ⟨_,rfl,of_decide_eq_true hz,GlG.now g3 s3.con (.str _)⟩
 ·exact g3.elim
theorem fld_at {K:PySem.W.Frag}{M:List Addr}{H:Hp}{W:Adr}{cc:Nat}(nd:W.T.nams.Nodup){fs:List (Nat×D)}{gs:List (Str×V)}(h:Paired (fun (p:Nat×D) (q:Str×V)=>(W.T.nams[p.1]?=some q.1/\W.T.plain cc p.1=true)/\RelD M H p.2 q.2) fs gs){f:Nat}{x:Str}(hx:W.T.nams[f]?=some x):
 (fs.lookup f=none/\gs.lookup x=none)\/∃d v,fs.lookup f=some d/\gs.lookup x=some v/\RelD M H d v/\W.T.plain cc f=true:=by
 induction h with
 | nil=>exact .inl ⟨rfl,rfl⟩
 | @cons p q fs gs r t ih=>
  obtain⟨pf,pd⟩:=p
  obtain⟨qf,qv⟩:=q
  obtain⟨⟨r1,r2⟩,r3⟩:=r
  by_cases e:f=pf
  ·subst e
   have e2:x=qf:=Option.some.inj (hx.symm.trans r1)
   subst e2
   exact .inr ⟨pd,qv,by simp [List.lookup],by simp [List.lookup],r3,r2⟩
  ·have e2:¬x=qf:=fun z=>e (by
    subst z
    exact (List.getElem?_inj (List.getElem?_eq_some_iff.mp hx).1 nd).mp (hx.trans r1.symm))
   have b1:(f==pf)=false:=by simpa using e
   have b2:(x==qf)=false:=by simpa using e2
   simp only [List.lookup,b1,b2]
   exact ih
def tXFld (K:PySem.W.Frag)(ta:TE)(f:Str):TE:=fun σ H Q=>ta σ H fun x H1=>∃a o C B D u v,x = .ref a/\H1 a=some (excH o)/\ExcObj o C/\o.dict=some D/\XCls K C B f/\H1 D=some (.frz u (.xd [(f,v)]))/\Q v H1
theorem pe_xfld {ta:TE}{f:Str}(he:PE X e ta)(hb:attributeBase e f X.env (eval e X.env)=eval e X.env):PE X (.Attribute e f pos) (tXFld X.K ta f):=by
 intro pins s σ H Q I h
 refine attr_of hb (thn (he pins s σ H _ I h) fun u s1 ⟨x,H1,I1,rx,a,o,C,B,D,w,v,ex,ea,eo,hd,c,eD,q⟩=>?_)
 subst ex
 obtain rfl:u=Value.ref a:=rx
 obtain⟨mA,hn,hr⟩:=(I1.hok D _ eD).2
 have hv:=hr f
 have e1:([(f,v)]:List (Str×V)).lookup f=some v:=by simp
 rw [e1] at hv
 obtain⟨vs,hf,_⟩:=eo.data
 cases hm:mA f with
 | none=>rw [hm] at hv;exact hv.elim
 | some u'=>
  rw [hm] at hv
  exact exc_get I1.kIn c (I1.hok a _ ea).1 eo.cls hd hf hn hm (handed_of hv) ⟨v,H1,I1.tok _,hv,q⟩
theorem sn_fld (C:CxK X W Γ E cl k){f:Str}{i:Nat}(ha:PE X a (tE X.K W E ca))(hi:RF.ixOf W.T.nams f=some i)(hb:RF.noBase a=true):PE X (.Attribute a f pos) (tE X.K W E (RF.fldE (fun c=>W.T.pay.lookup c==some f) ca i)):=by
 refine ((pe_fld ha (base_no hb)).or (pe_xfld ha (base_no hb))).imp fun σ H Q ⟨M,ρ,S,s,g⟩=>?_
 have g:GlG X.K W RelD E M H ((ca ρ S).bind fun x S1=>RF.fieldD (fun c=>W.T.pay.lookup c==some f) x i S1) Q:=g
 cases ev:ca ρ S with
 | bad=>rw [ev] at g;exact g.elim
 | ex y p S1=>exact .inl ⟨M,ρ,S,s,by rw [ev] at g ⊢;exact g⟩
 | ok x S1=>
  rw [ev,RF.R.bind_ok] at g
  unfold RF.fieldD at g
  split at g
  ·rename_i n
   split at g
   ·rename_i cc fs hS
    refine .inl (tG_ok s ev fun M1 H1 u s1 u1 r1=>?_)
    split at g
    ·rename_i d hd
     obtain⟨p,rfl,e⟩:=rel_ref r1
     obtain⟨dx,gs,h1,hc,h2⟩:=s1.con.at_ n _ p hS e
     rcases fld_at (K:=X.K) s1.con.nod h2 (ixOf_get hi) with⟨z,_⟩|⟨d',v,z1,z2,z3,z4⟩
     ·rw [z] at hd;cases hd
     ·rw [z1] at hd
      cases hd
      exact⟨p,W.c cc,dx,gs,v,rfl,h1,C.top.clsK cc hc,C.top.plain cc i f hc z4 (ixOf_get hi),z2,GlG.now (g.up u1) s1.con z3⟩
    ·exact g.elim
   ·rename_i x d hS
    refine .inr (tG_ok s ev fun M1 H1 u s1 u1 r1=>?_)
    obtain⟨hp,g⟩:=GlG.guard g
    obtain⟨p,rfl,e⟩:=rel_ref r1
    obtain⟨hx,o,h1,h2,f',D',w,v,h3,h4,h5,h6⟩:=s1.con.at_ n _ p hS e
    have hp:W.T.pay.lookup x=some f:=eq_of_beq hp
    rw [hp] at h3
    cases h3
    obtain⟨B,xc⟩:=(C.top.xis x hx).fld f hp
    exact⟨p,o,W.x x,B,D',w,v,rfl,h1,h2,h4,xc,h5,GlG.now (g.up u1) s1.con h6⟩
   ·exact g.elim
  ·exact g.elim
def knOf:RF.Kd->String
 | .int=>"int" | .bool=>"bool" | .str=>"str" | .tuple=>"tuple" | .list=>"list"
def kfOf:RF.Kd->Kn->Bool
 | .int=>isInt | .bool=>isBl | .str=>isStr | .tuple=>isTup | .list=>isLst
theorem kit_of (K:PySem.W.Frag)(d:RF.Kd)(n:Kn):PySem.W.kitOne K (.type n.ty) (.type (knOf d))=some (kfOf d n):=by
 cases d with
 | int=>exact kit_int K n
 | bool=>exact kit_bool K n
 | str=>exact kit_str K n
 | tuple=>exact kit_tuple K n
 | list=>exact kit_list K n
theorem is_rel {K:PySem.W.Frag}{M:List Addr}{S:Store}{H:Hp}(cn:Cn K W M S H){d:RF.Kd}{x:D}{u:V}{t:Bool}(r:RelD M H x u)(h:RF.isD S d x=some t):∃n,KindV K H u n/\t=kfOf d n:=by
 cases r with
 | non=>cases h;exact⟨.non,kn_non,by cases d<;>rfl⟩
 | bl b=>cases h;exact⟨.bl,kn_bl b,by cases d<;>rfl⟩
 | int i=>cases h;exact⟨.int,kn_int i,by cases d<;>rfl⟩
 | str z=>cases h;exact⟨.str,kn_str z,by cases d<;>rfl⟩
 | tup ha hx=>cases h;exact⟨.tup,kn_tup ha,by cases d<;>rfl⟩
 | kt a=>cases h
 | ref hm=>
  simp only [RF.isD] at h
  split at h
  ·rename_i xs hS
   cases h
   obtain⟨vs,h1,h2⟩:=cn.lst hS hm
   exact⟨.lst,kn_lst h1,by cases d<;>rfl⟩
  ·cases h
theorem kd_of {t:Str}{d:RF.Kd}(h:RF.kdOf t=some d):t∈bNames/\bootBuiltins t=some (.type (knOf d))/\t ≠ "__name__":=by
 unfold RF.kdOf at h
 split at h
 ·rename_i e;cases h;subst e;exact⟨by simp [bNames],boot_int,by decide +kernel⟩
 ·split at h
  ·rename_i e;cases h;subst e;exact⟨by simp [bNames],boot_bool,by decide +kernel⟩
  ·split at h
   ·rename_i e;cases h;subst e;exact⟨by simp [bNames],boot_str,by decide +kernel⟩
   ·split at h
    ·rename_i e;cases h;subst e;exact⟨by simp [bNames],boot_tuple,by decide +kernel⟩
    ·split at h
     ·rename_i e;cases h;subst e;exact⟨by simp [bNames],boot_list,by decide +kernel⟩
     ·cases h
theorem sn_isi (C:CxK X W Γ E cl k){t:Str}{d:RF.Kd}{pt pf:Pos}(hg:RF.isGl Γ "isinstance" = true)(hgt:RF.isGl Γ t=true)(hd:RF.kdOf t=some d)(ha:PE X a (tE X.K W E ca))(hp:RF.plainE a=true):
 PE X (.Call (.Name "isinstance" pf) [a,.Name t pt] [] pos) (tE X.K W E (RF.isE d ca)):=by
 obtain⟨k1,k2,k3⟩:=kd_of hd
 obtain⟨g1,g2⟩:=C.gl hgt
 refine (pe_callB (call_isiK (kit_of X.K d)) (C.gl hg).1 (C.top.blt _ (by simp [bNames])) boot_isinstance (pa_cons ha (pa_cons (pe_bltn (v:=.ty (knOf d)) g1 (C.top.blt t k1) k2 rfl k3 g2) pa_nil (star_plain rfl)) (star_plain hp)) (by decide +kernel) (C.gl hg).2 (star_plain hp) (star_none rfl)).imp fun σ H Q ⟨M,ρ,S,s,g⟩=>?_
 refine seqG s g fun M1 H1 x u S1 s1 u1 r1 g1=>?_
 obtain⟨t',ht,q⟩:=optB_gl g1 s1.con
 obtain⟨n,h1,h2⟩:=is_rel s1.con r1 ht
 subst h2
 exact⟨u,n,rfl,h1,q⟩
theorem isx_rd (C:CxK X W Γ E cl k){q:Option Nat}{c:V}{cv:Value}(uc:∀u,RelV c u->u=cv)(hq:∀x,x<W.T.excs.length->PySem.W.kitOne X.K (.ref (W.x x)) cv=some (match q with | some y=>x==y | none=>true)){σ:St}{H:Hp}{Q:VK}(h:tE X.K W E (RF.isXE q ca) σ H Q):
 tCB (rIsiE X.K) (tCons (tE X.K W E ca) (tCons (tC c) tNil)) σ H Q:=by
 obtain⟨M,ρ,S,s,g⟩:=h
 refine seqG s g fun M1 H1 x u S1 s1 u1 r1 g1=>?_
 split at g1
 ·rename_i n
  split at g1
  ·rename_i x p hS
   obtain⟨a,rfl,e⟩:=rel_ref r1
   obtain⟨hx,o,h1,h2,h3⟩:=s1.con.at_ n _ a hS e
   refine⟨a,o,W.x x,c,cv,_,rfl,h1,h2,fun D hD=>?_,(C.top.xis x hx).is,uc,hq x hx,GlG.now g1 s1.con (.bl _)⟩
   match p,h3 with
   | [],h3=>rw [show o.dict=none from h3] at hD;cases hD
   | [d],⟨f,D',w,v,_,h4,h5,_⟩=>rw [h4] at hD;cases hD;exact⟨_,h5⟩
  ·exact g1.elim
 ·exact g1.elim
theorem sn_isx (C:CxK X W Γ E cl k){t:Str}{c:Nat}{pt pf:Pos}(hg:RF.isGl Γ "isinstance" = true)(hgt:RF.isGl Γ t=true)(hc:RF.ixOf W.T.excs t=some c)(ha:PE X a (tE X.K W E ca))(hp:RF.plainE a=true):
 PE X (.Call (.Name "isinstance" pf) [a,.Name t pt] [] pos) (tE X.K W E (RF.isXE (some c) ca)):=by
 obtain⟨g1,g2⟩:=C.gl hgt
 have hl:c<W.T.excs.length:=(List.getElem?_eq_some_iff.mp (ixOf_get hc)).1
 exact (pe_callB call_isiE (C.gl hg).1 (C.top.blt _ (by simp [bNames])) boot_isinstance (pa_cons ha (pa_cons (pe_glob (v:=.ref (W.x c)) g1 (C.top.exc t c hc).1 rfl g2) pa_nil (star_plain rfl)) (star_plain hp)) (by decide +kernel) (C.gl hg).2 (star_plain hp) (star_none rfl)).imp fun σ H Q h=>isx_rd (q:=some c) (c:=V.ref (W.x c)) (cv:=.ref (W.x c)) C (fun _ z=>z) (fun x hx=>(C.top.xis x hx).one c hl) h
theorem sn_isv (C:CxK X W Γ E cl k){pt pf:Pos}(hg:RF.isGl Γ "isinstance" = true)(hgt:RF.isGl Γ "ValueError" = true)(ha:PE X a (tE X.K W E ca))(hp:RF.plainE a=true):
 PE X (.Call (.Name "isinstance" pf) [a,.Name "ValueError" pt] [] pos) (tE X.K W E (RF.isXE none ca)):=by
 obtain⟨g1,g2⟩:=C.gl hgt
 exact (pe_callB call_isiE (C.gl hg).1 (C.top.blt _ (by simp [bNames])) boot_isinstance (pa_cons ha (pa_cons (pe_bltn (v:=.ty "ValueError") g1 (C.top.blt _ (by simp [bNames])) PyProof.Rows.Boot.«ValueError» rfl (by decide +kernel) g2) pa_nil (star_plain rfl)) (star_plain hp)) (by decide +kernel) (C.gl hg).2 (star_plain hp) (star_none rfl)).imp fun σ H Q h=>isx_rd (q:=none) (c:=V.ty "ValueError") (cv:=.type "ValueError") C (fun _ z=>z) (fun x hx=>(C.top.xis x hx).ve) h
theorem sn_str (C:CxK X W Γ E cl k){pf:Pos}(hg:RF.isGl Γ "str" = true)(ha:PE X a (tE X.K W E ca))(hp:RF.plainE a=true):PE X (.Call (.Name "str" pf) [a] [] pos) (tE X.K W E (RF.strE ca)):=by
 refine (pe_callTy call_strI (C.gl hg).1 (C.top.blt _ (by simp [bNames])) boot_str (pa_cons ha pa_nil (star_plain hp)) (by decide +kernel) (C.gl hg).2 (star_plain hp) (star_none rfl)).imp fun σ H Q ⟨M,ρ,S,s,g⟩=>?_
 refine seqG s g fun M1 H1 x u S1 s1 u1 r1 g1=>?_
 split at g1
 ·cases r1
  obtain⟨hz,g1⟩:=GlG.guard g1
  exact⟨_,rfl,of_decide_eq_true hz,GlG.now g1 s1.con (.str _)⟩
 ·exact g1.elim
theorem sn_int (C:CxK X W Γ E cl k){pf:Pos}(hg:RF.isGl Γ "int" = true)(ha:PE X a (tE X.K W E ca))(hp:RF.plainE a=true):PE X (.Call (.Name "int" pf) [a] [] pos) (tE X.K W E (RF.intE ca)):=by
 refine (pe_callTy call_intT (C.gl hg).1 (C.top.blt _ (by simp [bNames])) boot_int (pa_cons ha pa_nil (star_plain hp)) (by decide +kernel) (C.gl hg).2 (star_plain hp) (star_none rfl)).imp fun σ H Q ⟨M,ρ,S,s,g⟩=>?_
 refine seqG s g fun M1 H1 x u S1 s1 u1 r1 g1=>?_
 split at g1
 ·cases r1
  split at g1
  ·rename_i n hn
   obtain⟨hz,g1⟩:=GlG.guard g1
   exact⟨_,n,rfl,hn,of_decide_eq_true hz,GlG.now g1 s1.con (.int _)⟩
  ·exact g1.elim
 ·exact g1.elim
theorem kd_get (C:CxK X W Γ E cl k){b:Expr}{kvs:List (Str×Nat)}(h:RF.kdOfE W.T Γ b=some kvs):∃p,PE X b (tC (.ref p))/\KDicAt X.prog X.w X.K p kvs/\(∀op,behindInMarks op b=false)/\∀o1 o2 c,lastMarks [o1,o2] [c,b]=false:=by
 unfold RF.kdOfE at h
 split at h
 ·rename_i x p
  split at h
  ·rename_i hg
   obtain⟨g1,g2⟩:=C.gl hg
   obtain⟨q,e1,e2⟩:=C.top.kd x kvs h
   exact⟨q,pe_glob g1 e1 rfl g2,e2,fun op=>rfl,fun _ _ _=>rfl⟩
  ·cases h
 ·cases h
theorem kin_rd {neg:Bool}{kvs:List (Str×Nat)}{p:Addr}(hk:KDicAt X.prog X.w X.K p kvs){σ:St}{H:Hp}{Q:VK}(h:tE X.K W E (RF.kinE neg kvs ca) σ H Q):tOp (rKin X.prog X.w X.K neg) (tE X.K W E ca) (tC (.ref p)) σ H Q:=by
 obtain⟨M,ρ,S,s,g⟩:=h
 refine seqG s g fun M1 H1 x u S1 s1 u1 r1 g1=>?_
 split at g1
 ·cases r1
  exact⟨_,p,kvs,rfl,rfl,hk,GlG.now g1 s1.con (.bl _)⟩
 ·exact g1.elim
theorem sn_kin {op:CmpOp}{neg:Bool}{kvs:List (Str×Nat)}{p:Addr}(ho:OpR X (compareOp op) (rKin X.prog X.w X.K neg))(hk:KDicAt X.prog X.w X.K p kvs)(ha:PE X a (tE X.K W E ca))(hb:PE X b (tC (.ref p)))(hm:behindInMarks op b=false):PE X (.Compare a [op] [b] pos) (tE X.K W E (RF.kinE neg kvs ca)):=
 (pe_cmpR ho ha hb hm).imp fun _ _ _ h=>kin_rd hk h
theorem sn_kinT {op:CmpOp}{neg:Bool}{kvs:List (Str×Nat)}{p:Addr}(ho:OpR X (compareOp op) (rKin X.prog X.w X.K neg))(hk:KDicAt X.prog X.w X.K p kvs)(ha:PE X a (tE X.K W E ca))(hb:PE X b (tC (.ref p)))(hm:behindInMarks op b=false):PT X (.Compare a [op] [b] pos) (tT X.K W E (RF.testB (RF.kinE neg kvs ca))):=by
 refine (pt_cmpR ho ha hb hm).imp fun σ H Q ⟨M,ρ,S,s,g⟩=>?_
 refine kin_rd (Q:=fun x H'=>∃k,x = .bl k/\Q k H') hk ⟨M,ρ,S,s,?_⟩
 refine seqR g fun M1 H1 d v S1 c1 u1 r1 g1=>?_
 cases d with
 | bl k=>cases r1;exact⟨k,rfl,GlG.now g1 c1 rfl⟩
 | _=>exact g1.elim
theorem sn_kix {kvs:List (Str×Nat)}{p:Addr}(hk:KDicAt X.prog X.w X.K p kvs)(ha:PE X a (tC (.ref p)))(hb:PE X b (tE X.K W E cb))(hs:RF.noSlice b=true):PE X (.Subscript a b pos) (tE X.K W E (RF.kixE kvs cb)):=by
 refine (pe_ix ix_kd ha hb (noSl_of hs)).imp fun σ H Q ⟨M,ρ,S,s,g⟩=>?_
 show tE X.K W E cb σ H _
 refine seqG s g fun M1 H1 x u S1 s1 u1 r1 g1=>?_
 split at g1
 ·cases r1
  split at g1
  ·rename_i q hq
   exact⟨_,p,kvs,q,rfl,rfl,hk,hq,GlG.now g1 s1.con (.kt _)⟩
  ·exact g1.elim
 ·exact g1.elim
end
end L2
namespace L2
open PySem PySem.Spec PyProof.Rows
open RF (D O Store Tab)
section
variable {X:Cx}{W:Adr}{Γ:RF.Gm}{E:XK}{cl:RF.Calls}{k:Nat}{a b c e:Expr}{ca cb cc:RF.C D}{pos:Pos}
def ClS (X:Cx)(W:Adr)(E:XK)(f:List D->Store->RF.R D)(r:List V->Hp->VK->Prop):Prop:=∀(M:List Addr) (S:Store) (H:Hp) (xs:List D) (us:List V) (Q:VK),Cn X.K W M S H->RelDs M H xs us->GlG X.K W RelD E M H (f xs S) Q->r us H Q
theorem call_rd {f:List D->Store->RF.R D}{r:List V->Hp->VK->Prop}(h:ClS X W E f r){cs:List (RF.C D)}{σ:St}{H:Hp}{Q:VK}(hq:tE X.K W E (RF.callE f cs) σ H Q):tCB r (tA X.K W E (RF.seqE cs)) σ H Q:=by
 obtain⟨M,ρ,S,s,g⟩:=hq
 exact seqG s g fun M1 H1 xs us S1 s1 u1 r1 g1=>h M1 S1 H1 xs us Q s1.con r1 g1
theorem rels1 {M:List Addr}{H:Hp}{x:D}{us:List V}(r:RelDs M H [x] us):∃u,us=[u]/\RelD M H x u:=by
 cases r with | cons h hs=>cases hs;exact⟨_,rfl,h⟩
theorem rels2 {M:List Addr}{H:Hp}{x y:D}{us:List V}(r:RelDs M H [x,y] us):∃u v,us=[u,v]/\RelD M H x u/\RelD M H y v:=by
 cases r with | cons h hs=>cases hs with | cons h2 hs=>cases hs;exact⟨_,_,rfl,h,h2⟩
theorem bools_rel {M:List Addr}{H:Hp}{xs:List D}{vs:List V}{bs:List Bool}(r:RelDs M H xs vs)(h:RF.bools xs=some bs):vs=bs.map V.bl:=by
 induction xs generalizing vs bs with
 | nil=>cases h;cases r;rfl
 | cons x xs ih=>
  cases r with
  | cons h1 h2=>
   cases x with
   | bl t=>
    simp only [RF.bools] at h
    obtain⟨bs',e1,e2⟩:=Option.map_eq_some_iff.mp h
    subst e2
    cases h1
    rw [ih h2 e1]
    rfl
   | _=>cases h
def rLenA (K:PySem.W.Frag):List V->Hp->VK->Prop:=fun xs H Q=>(∃x n,xs=[x]/\LenV K x H n/\Q (.int n) H)\/(∃a kvs,xs=[V.ref a]/\Rd H a (.dT kvs)/\Q (.int (kvs.length:Nat)) H)\/∃a kvs,xs=[V.ref a]/\Rd H a (.dK kvs)/\Q (.int (kvs.length:Nat)) H
theorem call_lenK:CallR X (.builtin "len") (fun xs H Q=>∃a kvs,xs=[V.ref a]/\Rd H a (.dK kvs)/\Q (.int (kvs.length:Nat)) H):=by
 intro pins s σ H xs us Q I r h
 obtain⟨a,kvs,rfl,ha,q⟩:=h
 obtain⟨u,rfl,ru⟩:=vals1 r
 cases ru
 exact d_len I ha fun t s' I'=>⟨.int kvs.length,H,I',⟨t,rfl⟩,q⟩
theorem call_lenA:CallR X (.builtin "len") (rLenA X.K):=call_len.or (call_lenT.or call_lenK)
theorem cs_len:ClS X W E (RF.callB .len) (rLenA X.K):=by
 intro M S H xs us Q cn r g
 match xs,r,g with
 | [x],r,g=>
  simp only [RF.callB] at g
  split at g
  ·rename_i n hn
   obtain⟨u,rfl,ru⟩:=rels1 r
   have q:=GlG.now g cn (.int _)
   unfold RF.lenD at hn
   split at hn
   ·split at hn
    ·cases hn
     cases ru
     exact .inl ⟨_,_,rfl,⟨by assumption,rfl⟩,q⟩
    ·cases hn
   ·split at hn
    ·rename_i kvs hk
     cases hn
     obtain⟨m,p,rfl,rfl,_,h⟩:=cn.kvs hk ru
     rcases h with⟨ks,h1,h2⟩|⟨ts,h1,h2⟩
     ·exact .inr (.inr ⟨p,ks,rfl,h1,by rw [<-Paired.length h2];exact q⟩)
     ·exact .inr (.inl ⟨p,ts,rfl,h1,by rw [<-Paired.length h2];exact q⟩)
    ·obtain⟨ys,hy,e⟩:=Option.map_eq_some_iff.mp hn
     subst e
     obtain⟨p,vs,rfl,hs,hv⟩:=items_sq cn hy ru
     refine .inl ⟨_,_,rfl,?_,q⟩
     rcases hs with hs | hs
     ·exact .inl ⟨vs,hs,hv.length⟩
     ·exact .inr ⟨vs,hs,hv.length⟩
  ·exact g.elim
 | [],r,g=>exact g.elim
 | _::_::_,r,g=>exact g.elim
theorem cs_max:ClS X W E (RF.callB .max2) (fun xs H Q=>∃i j,xs=[.int i,.int j]/\Q (.int (if j > i then j else i)) H):=by
 intro M S H xs us Q cn r g
 match xs,r,g with
 | [x,y],r,g=>
  obtain⟨u,v,rfl,ru,rv⟩:=rels2 r
  cases x with
  | int i=>
   cases y with
   | int j=>cases ru;cases rv;exact⟨_,_,rfl,GlG.now g cn (.int _)⟩
   | _=>exact g.elim
  | _=>exact g.elim
 | [],r,g=>exact g.elim
 | [x],r,g=>cases x<;>exact g.elim
 | x::y::_::_,r,g=>cases x<;>first | exact g.elim | (cases y<;>exact g.elim)
theorem cs_min:ClS X W E (RF.callB .min2) (fun xs H Q=>∃i j,xs=[.int i,.int j]/\Q (.int (if j<i then j else i)) H):=by
 intro M S H xs us Q cn r g
 match xs,r,g with
 | [x,y],r,g=>
  obtain⟨u,v,rfl,ru,rv⟩:=rels2 r
  cases x with
  | int i=>
   cases y with
   | int j=>cases ru;cases rv;exact⟨_,_,rfl,GlG.now g cn (.int _)⟩
   | _=>exact g.elim
  | _=>exact g.elim
 | [],r,g=>exact g.elim
 | [x],r,g=>cases x<;>exact g.elim
 | x::y::_::_,r,g=>cases x<;>first | exact g.elim | (cases y<;>exact g.elim)
theorem cs_tuple:ClS X W E (RF.callB .tuple) (fun xs H Q=>∃p ys,xs=[.ref p]/\((SqL X.K H p ys/\∀l,H l=none->Q (.ref l) (upd H l (.tup ys)))\/(SqT X.K H p ys/\Q (.ref p) H))):=by
 intro M S H xs us Q cn r g
 match xs,r,g with
 | [x],r,g=>
  obtain⟨u,rfl,ru⟩:=rels1 r
  simp only [RF.callB] at g
  split at g
  ·rename_i ys hy
   cases x with
   | tup zs=>
    cases hy
    obtain⟨p,vs,rfl,hp,hv⟩:=rel_tup ru
    exact⟨p,vs,rfl,.inr ⟨SqT.of hp,GlG.now g cn (.tup hp hv)⟩⟩
   | ref n=>
    obtain⟨p,rfl,e⟩:=rel_ref ru
    obtain⟨vs,h1,h2⟩:=cn.items hy e
    exact⟨p,vs,rfl,.inl ⟨h1,fun l hl=>GlG.at_ g (cn.fresh hl) (up_fresh hl) (.tup upd_same (h2.up (up_fresh hl)))⟩⟩
   | _=>cases hy
  ·exact g.elim
 | [],r,g=>exact g.elim
 | _::_::_,r,g=>exact g.elim
def rListA (K:PySem.W.Frag):List V->Hp->VK->Prop:=fun xs H Q=>∃p ys,xs=[.ref p]/\(SqL K H p ys\/SqT K H p ys)/\∀l,H l=none->Q (.ref l) (upd H l (.lst ys))
theorem cs_list:ClS X W E (RF.callB .list) (rListA X.K):=by
 intro M S H xs us Q cn r g
 match xs,r,g with
 | [x],r,g=>
  obtain⟨u,rfl,ru⟩:=rels1 r
  simp only [RF.callB] at g
  split at g
  ·rename_i ys hy
   obtain⟨p,vs,rfl,hs,hv⟩:=items_sq cn hy ru
   exact⟨p,vs,rfl,hs,gl_newL g cn hv⟩
  ·exact g.elim
 | [],r,g=>exact g.elim
 | _::_::_,r,g=>exact g.elim
theorem intsD_rel {M:List Addr}{H:Hp}:∀{xs:List D} {vs:List V} {is:List Int},RelDs M H xs vs->RF.intsD xs=some is->vs=is.map V.int
 | [],_,_,.nil,h=>by cases h;rfl
 | .int i::r,_,is,.cons h hs,e=>by
  have e:(RF.intsD r).map (i :: ·)=some is:=e
  obtain⟨js,e1,rfl⟩:=Option.map_eq_some_iff.mp e
  cases h
  rw [intsD_rel hs e1]
  rfl
 | .non::_,_,_,_,e | .bl _::_,_,_,_,e | .str _::_,_,_,_,e | .tup _::_,_,_,_,e | .ref _::_,_,_,_,e | .kt _::_,_,_,_,e=>by cases e
theorem tupsD_rel {M:List Addr}{H:Hp}:∀{xs:List D} {vs:List V} {ks:List (List Int)},RelDs M H xs vs->RF.tupsD xs=some ks->∃bs,vs=bs.map V.ref/\Paired (fun b k=>H b=some (.tup (k.map V.int))) bs ks
 | [],_,_,.nil,h=>by cases h;exact⟨[],rfl,.nil⟩
 | .tup ys::r,_,ks,.cons h hs,e=>by
  unfold RF.tupsD at e
  split at e
  ·rename_i k ks' e1 e2
   cases e
   obtain⟨bs,e3,e4⟩:=tupsD_rel hs e2
   obtain⟨b,us,rfl,hb,hu⟩:=rel_tup h
   rw [intsD_rel hu e1] at hb
   exact⟨b::bs,by rw [e3];rfl,.cons hb e4⟩
  ·cases e
 | .non::_,_,_,_,e | .bl _::_,_,_,_,e | .str _::_,_,_,_,e | .int _::_,_,_,_,e | .ref _::_,_,_,_,e | .kt _::_,_,_,_,e=>by cases e
theorem rels_getD {M:List Addr}{H:Hp}{xs:List D}{vs:List V}(r:RelDs M H xs vs)(i:Nat):RelD M H (xs.getD i .non) (vs.getD i .non):=by
 rw [List.getD_eq_getElem?_getD,List.getD_eq_getElem?_getD]
 cases e:xs[i]? with
 | some d=>obtain⟨v,e1,e2⟩:=r.get e;rw [e1];exact e2
 | none=>
  have:vs[i]?=none:=by rw [List.getElem?_eq_none_iff] at e ⊢;rw [<-r.length];exact e
  rw [this];exact .non
theorem rels_pick {M:List Addr}{H:Hp}{xs:List D}{vs:List V}(r:RelDs M H xs vs):∀p:List Nat,RelDs M H (p.map fun i=>xs.getD i .non) (p.map fun i=>vs.getD i .non)
 | []=>.nil
 | i::p=>.cons (rels_getD r i) (rels_pick r p)
def rSortL (K:PySem.W.Frag):List V->Hp->VK->Prop:=fun xs H Q=>∃a bs ks,xs=[V.ref a]/\TupsAt K H a bs ks/\ks.length<64/\∀l,H l=none->Q (.ref l) (upd H l (.lst ((srtI ks).map fun i=>(bs.map V.ref).getD i .non)))
theorem cs_sorted:ClS X W E (RF.callB .sorted) (rSortL X.K):=by
 intro M S H xs us Q cn r g
 match xs,r,g with
 | [.ref n],r,g=>
  obtain⟨u,rfl,ru⟩:=rels1 r
  obtain⟨a,rfl,ea⟩:=rel_ref ru
  simp only [RF.callB] at g
  split at g
  ·rename_i ys hS
   split at g
   ·rename_i ks hk
    obtain⟨hz,g⟩:=GlG.guard g
    obtain⟨vs,h1,h2⟩:=cn.lst hS ea
    obtain⟨bs,rfl,hp⟩:=tupsD_rel h2 hk
    exact⟨a,bs,ks,rfl,⟨SqL.of h1,hp⟩,of_decide_eq_true hz,gl_newL g cn (rels_pick h2 _)⟩
   ·exact g.elim
  ·exact g.elim
 | [],r,g=>exact g.elim
 | [.non],r,g=>exact g.elim
 | [.bl _],r,g=>exact g.elim
 | [.int _],r,g=>exact g.elim
 | [.str _],r,g=>exact g.elim
 | [.tup _],r,g=>exact g.elim
 | [.kt _],r,g=>exact g.elim
 | x::_::_,r,g=>cases x<;>exact g.elim
theorem sn_builtin (C:CxK X W Γ E cl k){x:Str}{bb:RF.B}{f:Expr->RF.C D}{es:List Expr}{pf:Pos}(hb:RF.bOf x es.length=some bb)(hg:RF.isGl Γ x=true)(h:∀e∈es,PE X e (tE X.K W E (f e)))(hp:es.all RF.plainE=true):
 PE X (.Call (.Name x pf) es [] pos) (tE X.K W E (RF.callE (RF.callB bb) (es.map f))):=by
 obtain⟨g1,g2⟩:=C.gl hg
 have args:=sn_args h hp
 cases es with
 | nil=>unfold RF.bOf at hb;simp at hb
 | cons e es=>
  have hp':=hp
  simp only [List.all_cons,Bool.and_eq_true] at hp
  have st:starEach (e::es) X.env=(false,eval e X.env)::starEach es X.env:=star_plain hp.1
  have pl:=star_none (env:=X.env) (pos:=pos) hp.2
  unfold RF.bOf at hb
  split at hb
  ·rename_i z;cases hb;obtain⟨rfl,_⟩:=z
   exact (pe_callB (call_max2 C.calm) g1 (C.top.blt _ (by simp [bNames])) boot_max args (by decide +kernel) g2 st pl).imp fun _ _ _ q=>call_rd cs_max q
  ·split at hb
   ·rename_i z;cases hb;obtain⟨rfl,_⟩:=z
    exact (pe_callB (call_min2 C.calm) g1 (C.top.blt _ (by simp [bNames])) boot_min args (by decide +kernel) g2 st pl).imp fun _ _ _ q=>call_rd cs_min q
   ·split at hb
    ·rename_i z;cases hb;obtain⟨rfl,_⟩:=z
     exact (pe_callTy call_list_of g1 (C.top.blt _ (by simp [bNames])) boot_list args (by decide +kernel) g2 st pl).imp fun _ _ _ q=>call_rd cs_list q
    ·split at hb
     ·rename_i z;cases hb;obtain⟨rfl,_⟩:=z
      exact (pe_callB (call_sortedL C.units2) g1 (C.top.blt _ (by simp [bNames])) boot_sorted args (by decide +kernel) g2 st pl).imp fun _ _ _ q=>call_rd cs_sorted q
     ·split at hb
      ·rename_i z;cases hb;obtain⟨rfl,_⟩:=z
       exact (pe_callTy call_tuple_of g1 (C.top.blt _ (by simp [bNames])) boot_tuple args (by decide +kernel) g2 st pl).imp fun _ _ _ q=>call_rd cs_tuple q
      ·cases hb
theorem call_sp {K:PySem.W.Frag}{f:List D->Store->RF.R D}{n:Nat}{M:List Addr}{S:Store}{H:Hp}{xs:List D}{us:List V}{Q:VK}(cn:Cn K W M S H)(r:RelDs M H xs us)(hl:∀ds S,ds.length≠n->f ds S = .bad)(g:GlG K W RelD E M H (f xs S) Q):spC K W f n us H Q E:=by
 refine⟨?_,M,S,xs,cn,r,g⟩
 rw [<-r.length]
 exact Classical.byContradiction fun z=>by rw [hl xs S z] at g;exact g
theorem sn_call (C:CxK X W Γ E cl k){x:Str}{i:Nat}{f:Expr->RF.C D}{es:List Expr}{pf:Pos}(hi:RF.ixOf W.T.funs x=some i)(hg:RF.isGl Γ x=true)(h:∀e∈es,PE X e (tE X.K W E (f e)))(hp:es.all RF.plainE=true):
 PE X (.Call (.Name x pf) es [] pos) (tE X.K W E (RF.callE (cl.f i) (es.map f))):=by
 obtain⟨g1,g2⟩:=C.gl hg
 have args:=sn_args h hp
 obtain⟨fa,fd,ps,F,hl,hm,hk,bd⟩:=C.top.fn x i hi
 cases es with
 | nil=>
  refine (pe_call0 F (C.room.mono (Nat.le_succ k)) g1 hm hk bd .nil C.pass g2).imp fun σ H Q ⟨M,ρ,S,s,g⟩=>?_
  exact call_sp (xs:=[]) s.con .nil hl g
 | cons e es=>
  simp only [List.all_cons,Bool.and_eq_true] at hp
  refine (pe_call F (C.room.mono (Nat.le_succ k)) g1 hm hk bd .nil C.pass args g2 (star_plain hp.1) (star_none hp.2)).imp fun σ H Q ⟨M,ρ,S,s,g⟩=>?_
  refine seqG s g fun M1 H1 xs us S1 s1 u1 r1 g1=>?_
  rw [List.append_nil]
  exact call_sp s1.con r1 hl g1
theorem dV_rel {d:D}(h:RF.flatD d=true)(M:List Addr)(H:Hp):RelD M H d (dV d):=by
 cases d with
 | non=>exact .non
 | bl b=>exact .bl b
 | int i=>exact .int i
 | str x=>exact .str x
 | _=>cases h
theorem zip_rel {M:List Addr}{H:Hp}(x:Str):∀{ks:List Str} {zs:List D} {vs:List V},RelDs M H zs vs->((ks.zip zs).lookup x=none/\(ks.zip vs).lookup x=none)\/∃d v,(ks.zip zs).lookup x=some d/\(ks.zip vs).lookup x=some v/\RelD M H d v
 | [],_,_,_=>.inl ⟨by simp,by simp⟩
 | _::_,[],_,.nil=>.inl ⟨by simp,by simp⟩
 | k::ks,z::zs,v::vs,.cons h hs=>by
  simp only [List.zip_cons_cons,List.lookup_cons]
  cases e:(x==k) with
  | true=>exact .inr ⟨z,v,rfl,rfl,h⟩
  | false=>exact zip_rel x hs
theorem fill_rel {M:List Addr}{H:Hp}{ks:List Str}{zs:List D}{vs:List V}(r:RelDs M H zs vs):∀{kw:List (Str×D)},(∀p∈kw,RF.flatD p.2=true)->RelDs M H (RF.fillK kw ks zs) (fillV kw ks vs)
 | [],_=>.nil
 | p::kw,h=>by
  refine .cons ?_ (fill_rel r fun q hq=>h q (List.mem_cons_of_mem _ hq))
  show RelD M H (((ks.zip zs).lookup p.1).getD p.2) (((ks.zip vs).lookup p.1).getD (dV p.2))
  rcases zip_rel p.1 (ks:=ks) r with⟨e1,e2⟩|⟨d,v,e1,e2,e3⟩
  ·rw [e1,e2];exact dV_rel (h p List.mem_cons_self) M H
  ·rw [e1,e2];exact e3
theorem make_rd (C:CxK X W Γ E cl k){ps:List Str}{i c:Nat}{M1:List Addr}{S1:Store}{H1:Hp}{Q:VK}{xs:List D}{us:List V}{p dx:Addr}(hcl:c<W.T.clss.length)(hl:∀ds S,ds.length≠ps.length->cl.m c i ds S = .bad)(c1:Cn X.K W M1 S1 H1)(r1:RelDs M1 H1 xs us)(hp:H1 p=none)(hdx:H1 dx=none)(hne:dx≠p)
 (g1:GlG X.K W RelD E M1 H1 ((cl.m c i (.ref S1.length::xs) (S1++[.obj c []])).bind fun r S3=>match r with | .non=>.ok (.ref S1.length) S3 | _=>.bad) Q):
 spC X.K W (cl.m c i) ps.length (.ref p::us) (upd (upd H1 dx (.own p)) p (.ins (W.c c) dx [])) (fun v H2=>v = .non/\Q (.ref p) H2) E:=by
 have hp2:upd H1 dx (.own p) p=none:=by rw [upd_ne (Ne.symm hne)];exact hp
 have c2:Cn X.K W M1 S1 (upd H1 dx (.own p)):=c1.fresh hdx
 have c3:Cn X.K W (M1++[p]) (S1++[.obj c []]) (upd (upd H1 dx (.own p)) p (.ins (W.c c) dx [])):=c2.new hp2 rfl ⟨dx,[],upd_same,hcl,.nil⟩
 have u3:Up M1 H1 (M1++[p]) (upd (upd H1 dx (.own p)) p (.ins (W.c c) dx [])):=(up_fresh (M:=M1) hdx).trans (up_new hp2)
 refine call_sp (xs:=.ref S1.length::xs) c3 (.cons (new_at c1) (r1.up u3)) hl ?_
 refine seqR (g1.up u3) fun M4 H4 d v S4 c4 u4 r4 g4=>?_
 cases d with
 | non=>
  cases r4
  exact⟨rfl,GlG.now g4 c4 ((new_at (H':=H4) c1).up0 ⟨u4.pre,fun b xs h=>h,fun _ _ _ h=>h⟩)⟩
 | _=>exact g4.elim
theorem kw_each {kws:List Keyword}{env:Env}{pos:Pos}:(kws.all fun q=>q.arg.isSome)=true->(backToKw pos (keywordEach kws env)).all (·.1.isSome)=true/\(backToKw pos (keywordEach kws env)).filterMap (·.1)=kws.filterMap (·.arg)/\(backToKw pos (keywordEach kws env)).any (·.1.isNone)=false:=by
 induction kws with
 | nil=>intro _;exact⟨rfl,rfl,rfl⟩
 | cons q r ih=>
  intro h
  simp only [List.all_cons,Bool.and_eq_true] at h
  obtain⟨a,b,c⟩:=ih h.2
  obtain⟨nm,v,p⟩:=q
  cases nm with
  | none=>cases h.1
  | some n=>
   have e:backToKw pos (keywordEach (⟨some n,v,p⟩::r) env)=(some n,do let x <-eval v env;standAt pos;pure x)::backToKw pos (keywordEach r env):=rfl
   rw [e]
   refine⟨?_,?_,?_⟩
   ·rw [List.all_cons,a];rfl
   ·rw [List.filterMap_cons,b];rfl
   ·rw [List.any_cons,c];rfl
theorem sn_kws {f:Expr->RF.C D}:∀{kws:List Keyword},(∀e,PE X e (tE X.K W E (f e)))->PK X kws (tA X.K W E (RF.seqE (kws.map fun q=>f q.value)))
 | [],_=>fun pos pins s σ H Q I ⟨M,ρ,S,sm,g⟩=>pk_nil pos pins s σ H Q I (GlG.now g sm.con .nil)
 | ⟨nm,e,kp⟩::kws,h=>fun pos pins s σ H Q I ⟨M,ρ,S,sm,g⟩=>pk_cons (h e) (sn_kws h) pos pins s σ H Q I (seqG sm g fun M1 H1 x u S1 s1 u1 r1 g1=>seqG s1 g1 fun M2 H2 xs us S2 s2 u2 r2 g2=>GlG.now g2 s2.con (.cons (r1.up u2) r2))
theorem BindsM.plain {K:PySem.W.Frag}{T:Tab}{c:Nat}{x:Str}{fd:FuncData}{ps:List Str}(h:BindsM K T c x fd ps)(n:x ≠ "__init__"):Binds K fd ps []:=h.elim (fun z=>absurd z.1 n) fun z=>z.2
theorem sn_makeK (C:CxK X W Γ E cl k){x:Str}{i c:Nat}{f:Expr->RF.C D}{e:Expr}{es:List Expr}{kws:List Keyword}{pf:Pos}(hc:RF.ixOf W.T.clss x=some c)(hi:RF.ixOf W.T.nams "__init__" = some i)(hM:W.T.isM c i=true)(hk:W.T.kwOf c≠[])(hg:RF.isGl Γ x=true)(h:∀e,PE X e (tE X.K W E (f e)))(hp:(e::es).all RF.plainE=true)
 (h1:(kws.all fun q=>q.arg.isSome)=true) (h2:((kws.filterMap (·.arg)).all fun q=>(W.T.kwOf c).any fun p=>decide (p.1=q))=true) (h3:(kws.filterMap (·.arg)).Nodup):
 PE X (.Call (.Name x pf) (e::es) kws pos) (tE X.K W E (RF.makeE (cl.m c i) c ((e::es).map f) (W.T.kwOf c) (kws.filterMap (·.arg)) (kws.map fun q=>f q.value))):=by
 obtain⟨g1,g2⟩:=C.gl hg
 have args:=sn_args (fun e _=>h e) hp
 obtain⟨fa,fd,ps,F,hl,hm,bd,mk,_⟩:=C.top.mt c i "__init__" hM (ixOf_get hi)
 have hcl:c<W.T.clss.length:=(List.getElem?_eq_some_iff.mp (ixOf_get hc)).1
 rcases bd with⟨_,_,hf,hb⟩|⟨z,_⟩
 ·obtain⟨g,kb⟩:=hb _ h2 h3
  simp only [List.all_cons,Bool.and_eq_true] at hp
  obtain⟨k1,k2,k3⟩:=kw_each (env:=X.env) (pos:=pos) h1
  refine (pe_makeK (mk rfl) F C.room g1 (C.top.clsG x c hc) kb C.pass args (sn_kws h) k1 k2 g2 (star_plain hp.1) ?_).imp fun σ H Q ⟨M,ρ,S,s,g⟩=>?_
  ·rw [k3,Bool.or_false,star_plain hp.1]
   show (false||(backTo pos (starEach es X.env)).any (·.1))=false
   rw [star_none hp.2]
   rfl
  ·refine seqG s g fun M1 H1 xs us S1 s1 u1 r1 g1=>seqG s1 g1 fun M2 H2 zs vs S2 s2 u2 r2 g2=>?_
   intro p dx hp hdx hne
   show spC _ _ _ _ (.ref p::(us++fillV (W.T.kwOf c) (kws.filterMap (·.arg)) vs)) _ _ _
   exact make_rd C hcl hl s2.con ((r1.up u2).append (fill_rel r2 hf)) hp hdx hne g2
 ·exact absurd (z rfl) hk
theorem sn_make (C:CxK X W Γ E cl k){x:Str}{i c:Nat}{f:Expr->RF.C D}{es:List Expr}{pf:Pos}(hc:RF.ixOf W.T.clss x=some c)(hi:RF.ixOf W.T.nams "__init__" = some i)(hM:W.T.isM c i=true)(hk0:W.T.kwOf c=[]\/es.isEmpty=false)(hg:RF.isGl Γ x=true)(hA:∀e,PE X e (tE X.K W E (f e)))(hp:es.all RF.plainE=true):
 PE X (.Call (.Name x pf) es [] pos) (tE X.K W E (RF.makeE (cl.m c i) c (es.map f) (W.T.kwOf c) [] [])):=by
 by_cases hk:W.T.kwOf c=[]
 ·obtain⟨g1,g2⟩:=C.gl hg
  have args:=sn_args (fun e _=>hA e) hp
  obtain⟨fa,fd,ps,F,hl,hm,bd,mk,_⟩:=C.top.mt c i "__init__" hM (ixOf_get hi)
  have hcl:c<W.T.clss.length:=(List.getElem?_eq_some_iff.mp (ixOf_get hc)).1
  have bd:Binds X.K fd ps []:=bd.elim (fun z=>absurd hk z.2.1) fun z=>z.2
  have rd:∀(σ:St) (H:Hp) (Q:VK),tE X.K W E (RF.makeE (cl.m c i) c (es.map f) (W.T.kwOf c) [] []) σ H Q->tMake (W.c c) (spC X.K W (cl.m c i) ps.length) [] E (tA X.K W E (RF.seqE (es.map f))) σ H Q:=by
   intro σ H Q ⟨M,ρ,S,s,g⟩
   refine seqG s g fun M1 H1 xs us S1 s1 u1 r1 g1=>?_
   intro p dx hp hdx hne
   have e1:xs++RF.fillK (W.T.kwOf c) [] []=xs:=by rw [hk];exact List.append_nil _
   have g1:GlG X.K W RelD E M1 H1 ((cl.m c i (.ref S1.length::(xs++RF.fillK (W.T.kwOf c) [] [])) (S1++[.obj c []])).bind _) Q:=g1
   rw [e1] at g1
   rw [List.append_nil]
   exact make_rd C hcl hl s1.con r1 hp hdx hne g1
  cases es with
  | nil=>
   refine (pe_make0 (mk rfl) F C.room g1 (C.top.clsG x c hc) bd .nil C.pass g2).imp fun σ H Q q=>?_
   obtain⟨M,ρ,S,s,g⟩:=rd σ H Q q
   exact GlG.now g s.con .nil
  | cons e es=>
   simp only [List.all_cons,Bool.and_eq_true] at hp
   exact (pe_make (mk rfl) F C.room g1 (C.top.clsG x c hc) bd .nil C.pass args g2 (star_plain hp.1) (star_none hp.2)).imp rd
 ·cases es with
  | nil=>rcases hk0 with z | z;exact absurd z hk;cases z
  | cons e es=>exact sn_makeK (kws:=[]) C hc hi hM hk hg hA hp rfl rfl List.nodup_nil
theorem sn_len (C:CxK X W Γ E cl k){pf:Pos}(hg:RF.isGl Γ "len" = true)(ha:PE X a (tE X.K W E ca))(hp:RF.plainE a=true):PE X (.Call (.Name "len" pf) [a] [] pos) (tE X.K W E (RF.lenE W.T.kts ca)):=by
 obtain⟨g1,g2⟩:=C.gl hg
 refine (pe_callB (call_lenA) g1 (C.top.blt _ (by simp [bNames])) PySem.boot_len (pa_cons ha pa_nil (star_plain hp)) (by decide +kernel) g2 (star_plain hp) (star_none rfl)).imp fun σ H Q ⟨M,ρ,S,s,g⟩=>?_
 refine seqG s g fun M1 H1 x u S1 s1 u1 r1 g=>?_
 split at g
 ·rename_i p
  split at g
  ·rename_i xs hk
   cases r1
   exact .inl ⟨_,_,rfl,.inr ⟨_,(C.top.kt p xs hk).2 H1,(List.length_map _).symm⟩,GlG.now g s1.con (.int _)⟩
  ·exact g.elim
 ·exact cs_len M1 S1 H1 [x] [u] Q s1.con (.cons r1 .nil) g
theorem sn_lenSet (C:CxK X W Γ E cl k){pf pg p2:Pos}(hg:RF.isGl Γ "len" = true)(hs:RF.isGl Γ "set" = true)(hb:PE X b (tE X.K W E cb))(hp:RF.plainE b=true):
 PE X (.Call (.Name "len" pf) [.Call (.Name "set" pg) [b] [] p2] [] pos) (tE X.K W E (RF.lenSetE cb)):=by
 obtain⟨g1,g2⟩:=C.gl hg
 obtain⟨g3,g4⟩:=C.gl hs
 have hIs:=pe_callB (p:=pf) (pos:=pos) call_lenS g1 (C.top.blt _ (by simp [bNames])) PySem.boot_len (pa_cons (pe_callTy (pos:=p2) (p:=pg) (call_setE C.calm) g3 (C.top.blt _ (by simp [bNames])) PyProof.Rows.boot_set (pa_cons hb pa_nil (star_plain hp)) (by decide +kernel) g4 (star_plain hp) (star_none rfl)) pa_nil (star_plain rfl)) (by decide +kernel) g2 (star_plain rfl) (star_none rfl)
 have hTs:=pe_callB (p:=pf) (pos:=pos) call_lenZ g1 (C.top.blt _ (by simp [bNames])) PySem.boot_len (pa_cons (pe_callTy (pos:=p2) (p:=pg) (call_setT C.calm C.units3) g3 (C.top.blt _ (by simp [bNames])) PyProof.Rows.boot_set (pa_cons hb pa_nil (star_plain hp)) (by decide +kernel) g4 (star_plain hp) (star_none rfl)) pa_nil (star_plain rfl)) (by decide +kernel) g2 (star_plain rfl) (star_none rfl)
 refine (hIs.or hTs).imp fun σ H Q ⟨M,ρ,S,s,g⟩=>?_
 have g:GlG X.K W RelD E M H ((cb ρ S).bind fun x S1=>RF.lenSetD x S1) Q:=g
 cases ev:cb ρ S with
 | bad=>rw [ev] at g;exact g.elim
 | ex y p S1=>exact .inl ⟨M,ρ,S,s,by rw [ev] at g ⊢;exact g⟩
 | ok x S1=>
  rw [ev,RF.R.bind_ok] at g
  unfold RF.lenSetD at g
  cases x with
  | ref n=>
   dsimp only at g
   split at g
   ·rename_i xs hS
    split at g
    ·rename_i is e2
     obtain⟨hz,g⟩:=GlG.guard g
     refine .inl (tG_ok s ev fun M1 H1 u s1 u1 r1=>?_)
     obtain⟨a,rfl,ea⟩:=rel_ref r1
     obtain⟨vs,q1,q2⟩:=s1.con.lst hS ea
     rw [intsD_rel q2 e2] at q1
     exact⟨a,is,rfl,SqL.of q1,of_decide_eq_true hz,fun p Sx hp=>⟨p,Sx,_,rfl,upd_same,GlG.at_ g (s1.con.fresh hp) (u1.trans (up_fresh hp)) (RelD.int _)⟩⟩
    ·split at g
     ·rename_i ks e3
      split at g
      ·rename_i n1 m1 e4 e5
       obtain⟨hz,g2⟩:=GlG.guard g
       refine .inr (tG_ok s ev fun M1 H1 u s1 u1 r1=>?_)
       obtain⟨a,rfl,ea⟩:=rel_ref r1
       obtain⟨vs,q1,q2⟩:=s1.con.lst hS ea
       obtain⟨bs,rfl,hpp⟩:=tupsD_rel q2 e3
       have hnm:n1=m1:=by simpa using hz
       subst hnm
       exact⟨a,bs,ks,n1,rfl,⟨SqL.of q1,hpp⟩,fun led=>by cases led<;>assumption,fun p hp=>⟨p,n1,rfl,upd_same,GlG.at_ g2 (s1.con.fresh hp) (u1.trans (up_fresh hp)) (RelD.int _)⟩⟩
      ·exact g.elim
     ·exact g.elim
   ·exact g.elim
  | _=>exact g.elim
end
end L2
namespace L2
open PySem PySem.Spec PyProof.Rows
open RF (D O Store Tab)
section
variable {X:Cx}{W:Adr}{Γ:RF.Gm}{E:XK}{cl:RF.Calls}{k:Nat}{a b c e:Expr}{ca cb cc:RF.C D}{pos apos:Pos}
theorem mt_append_of {m:Str}{n:Nat}(h:RF.mtOf m n=some .append):m = "append"/\n=1:=by
 unfold RF.mtOf at h
 split at h
 ·rename_i z;exact z
 ·split at h<;>cases h
theorem mt_split_of {m:Str}{n:Nat}(h:RF.mtOf m n=some .split):m = "split"/\n=1:=by
 unfold RF.mtOf at h
 split at h
 ·cases h
 ·split at h
  ·rename_i z;exact z
  ·cases h
theorem strs_rel (M:List Addr)(H:Hp):∀l:List Str,RelDs M H (l.map D.str) (l.map V.str)
 | []=>.nil
 | x::l=>.cons (.str x) (strs_rel M H l)
theorem args1 {f:Expr->RF.C D}{es:List Expr}(h:es.length=1):∃e,es=[e]:=by
 match es,h with
 | [e],_=>exact⟨e,rfl⟩
theorem sn_meth (C:CxK X W Γ E cl k){m:Str}{f:Expr->RF.C D}{es:List Expr}(ha:PE X a (tE X.K W E ca))(h:∀e∈es,PE X e (tE X.K W E (f e)))(hp:es.all RF.plainE=true)(hb:RF.noBase a=true)(hl:(apos.endLine==pos.line)=true)(hn:es.length<30)(hi0:m≠("__init__":Str)):
 PE X (.Call (.Attribute a m apos) es [] pos) (tE X.K W E (RF.methE W.T.isM cl.m (RF.ixOf W.T.nams m) (RF.mtOf m es.length) ca (es.map f))):=by
 have args:=sn_args h hp
 intro pins s σ H Q I ⟨M,ρ,S,sm,g⟩
 unfold RF.methE at g
 cases e:ca ρ S with
 | bad=>rw [e] at g;exact g.elim
 | ex x p S1=>
  rw [e] at g
  rw [meth_eval hb hp hn hl]
  exact wpAny_bind (wpAny_mono (ha pins s σ H (fun _ _=>False) I (tG_ex sm e g)) (fun v s1 ⟨_,_,_,_,z⟩=>z.elim) fun _ _ z=>z)
 | ok x S1=>
  rw [e,RF.R.bind_ok] at g
  split at g
  ·rename_i n
   split at g
   ·rename_i cc fs hS
    split at g
    ·rename_i i hi
     obtain⟨hM,g⟩:=GlG.guard g
     rw [Bool.and_eq_true] at hM
     obtain⟨fa,fd,ps,F,hln,hmt,bd,_,hcl⟩:=C.top.mt cc i m hM.2 (ixOf_get hi)
     have rd:tMeth (W.c cc) m (spC X.K W (cl.m cc i) ps.length) [] E (tE X.K W E ca) (tA X.K W E (RF.seqE (es.map f))) σ H Q:=by
      refine tG_ok sm e fun M1 H1 u s1 u1 r1=>?_
      obtain⟨p,rfl,ea⟩:=rel_ref r1
      obtain⟨dx,gs,h1,hc,h2⟩:=s1.con.at_ n _ p hS ea
      refine⟨p,dx,gs,rfl,h1,?_,?_⟩
      ·rcases fld_at (K:=X.K) s1.con.nod h2 (ixOf_get hi) with⟨_,z⟩|⟨d,v,z,_⟩
       ·exact z
       ·rw [z] at hM;cases hM.1
      ·refine seqG s1 (GlG.up g u1) fun M2 H2 xs us S2 s2 u2 r2 g2=>?_
       rw [List.append_nil]
       exact call_sp (xs:=.ref n::xs) s2.con (.cons ((RelD.ref ea).up u2) r2) hln g2
     cases es with
     | nil=>
      refine pe_meth0 ha hcl hmt F (C.room.mono (Nat.le_succ k)) (bd.plain hi0) .nil C.pass (meth_eval hb hp hn hl) pins s σ H Q I ?_
      refine tG_ok sm e fun M1 H1 u s1 u1 r1=>?_
      obtain⟨p,rfl,ea⟩:=rel_ref r1
      obtain⟨dx,gs,h1,hc,h2⟩:=s1.con.at_ n _ p hS ea
      refine⟨p,dx,gs,rfl,h1,?_,call_sp (xs:=[.ref n]) s1.con (.cons (.ref ea) .nil) hln (GlG.up g u1)⟩
      rcases fld_at (K:=X.K) s1.con.nod h2 (ixOf_get hi) with⟨_,z⟩|⟨d,v,z,_⟩
      ·exact z
      ·rw [z] at hM;cases hM.1
     | cons e1 es=>
      have hp':=hp
      simp only [List.all_cons,Bool.and_eq_true] at hp'
      exact pe_meth ha hcl hmt F (C.room.mono (Nat.le_succ k)) (bd.plain hi0) .nil C.pass args (star_plain hp'.1) (star_none hp'.2) (meth_eval hb hp hn hl) pins s σ H Q I rd
    ·exact g.elim
   ·rename_i o hno hS
    split at g
    ·rename_i bm hbm
     obtain⟨hfit,g⟩:=GlG.guard g
     cases bm with
     | append=>
      obtain⟨rfl,hl1⟩:=mt_append_of hbm
      obtain⟨e1,rfl⟩:=args1 (f:=f) hl1
      have hp1:RF.plainE e1=true:=by simpa using hp
      cases o with
      | lst xs0=>
       refine pe_bm PySem.F.plainAttrs_list PySem.F.slot_list_append PySem.F.type_list_append mt_append ha args (base_no hb) (few_ok hp hn) hl (star_plain hp1) (star_none rfl) pins s σ H Q I
        (tG_ok sm e fun M1 H1 u s1 u1 r1=>?_)
       obtain⟨p,vs,rfl,ea,h1,h2⟩:=lst_obj s1.con hS r1
       refine⟨.inl ⟨rfl,vs,SqL.of h1⟩,seqG s1 (GlG.up g u1) fun M2 H2 ys us S2 s2 u2 r2 g2=>?_⟩
       unfold RF.methD at g2
       dsimp only at g2
       split at g2
       ·rename_i xs v hm hS2
        obtain⟨hz,g2⟩:=GlG.guard g2
        obtain⟨w,rfl,rw'⟩:=rels1 r2
        have ea2:=pre_get u2.pre ea
        obtain⟨vs2,k1,k2⟩:=s2.con.lst hS2 ea2
        refine⟨p,vs2,w,rfl,rfl,k1,by rw [<-k2.length];exact of_decide_eq_true hz,?_⟩
        have nt:NoFix (H2 p):=nofix k1 rfl
        exact GlG.at_ g2 (s2.con.put hS2 ea2 rfl rfl nt ⟨_,upd_same,(k2.append (.cons rw' .nil)).up (up_put nt)⟩) (up_put nt) .non
       ·exact g2.elim
      | _=>cases hfit
     | split=>cases o<;>cases hfit
    ·exact g.elim
   ·exact g.elim
  ·rename_i z
   obtain⟨hb1,g⟩:=GlG.guard g
   obtain⟨rfl,hl1⟩:=mt_split_of (beq_iff_eq.mp hb1)
   obtain⟨e1,rfl⟩:=args1 (f:=f) hl1
   have hp1:RF.plainE e1=true:=by simpa using hp
   refine pe_bm PySem.F.plainAttrs_str PySem.F.slot_str_split PySem.F.type_str_split mt_split ha args (base_no hb) (few_ok hp hn) hl (star_plain hp1) (star_none rfl) pins s σ H Q I (tG_ok sm e fun M1 H1 u s1 u1 r1=>?_)
   cases r1
   refine⟨rfl,seqG s1 (GlG.up g u1) fun M2 H2 ys us S2 s2 u2 r2 g2=>?_⟩
   split at g2
   ·rename_i y
    obtain⟨hz,g2⟩:=GlG.guard g2
    simp only [Bool.and_eq_true,decide_eq_true_eq,Bool.not_eq_true'] at hz
    obtain⟨w,rfl,rw'⟩:=rels1 r2
    cases rw'
    exact⟨z,y,rfl,rfl,hz.1,hz.2,gl_newL g2 s2.con (strs_rel _ _ _)⟩
   ·exact g2.elim
  ·exact g.elim
end
end L2
namespace L2
open PySem PySem.Spec PyProof.Rows
open RF (D O Store Tab)
structure Wk (K:PySem.W.Frag)(W:Adr)(J:It)(items:List D)(chk:Store->Bool)(ok:List Addr->Store->Hp->Prop):Prop where
 go:∀i M S H,Cn K W M S H->ok M S H->i<items.length->J.go i H/\∀x H',J.yld i H x H'->H'=H/\∃d,items[i]?=some d/\RelD M H d x
 stop:∀i M S H,Cn K W M S H->ok M S H->items.length<=i->J.stop i H
 keep:∀M S H M' S' H',ok M S H->Up M H M' H'->Cn K W M' S' H'->chk S'=true->ok M' S' H'
def Nw (H H':Hp):Prop:=H'=H\/∃p o,H p=none/\H'=upd H p o
structure WkN (K:PySem.W.Frag)(W:Adr)(J:It)(items:List D)(chk:Store->Bool)(ok:List Addr->Store->Hp->Prop):Prop where
 go:∀i M S H,Cn K W M S H->ok M S H->i<items.length->J.go i H/\∀x H',J.yld i H x H'->Nw H H'/\∃d,items[i]?=some d/\RelD M H' d x
 stop:∀i M S H,Cn K W M S H->ok M S H->items.length<=i->J.stop i H
 keep:∀M S H M' S' H',ok M S H->Up M H M' H'->Cn K W M' S' H'->chk S'=true->ok M' S' H'
theorem Wk.n {K:PySem.W.Frag}{W:Adr}{J:It}{items:List D}{chk:Store->Bool}{ok:List Addr->Store->Hp->Prop}(w:Wk K W J items chk ok):WkN K W J items chk ok:=
 ⟨fun i M S H c h hi=>⟨(w.go i M S H c h hi).1,fun x H' y=>by obtain⟨rfl,z⟩:=(w.go i M S H c h hi).2 x H' y;exact⟨.inl rfl,z⟩⟩,w.stop,w.keep⟩
section
variable {K:PySem.W.Frag}{W:Adr}{M:List Addr}{S:Store}{H:Hp}{ρ:RF.Env}{σ:St}{E:XK}
theorem Nw.up {H':Hp}(n:Nw H H')(M:List Addr):Up M H M H':=by
 rcases n with rfl | ⟨p,o,hp,rfl⟩
 ·exact Up.refl _ _
 ·exact up_fresh hp
theorem Cn.nw {H':Hp}(c:Cn K W M S H)(n:Nw H H'):Cn K W M S H':=by
 rcases n with rfl | ⟨p,o,hp,rfl⟩
 ·exact c
 ·exact c.fresh hp
theorem enum_get:∀(xs:List D) (a i:Nat),(RF.enumL a xs)[i]?=(xs[i]?).map fun x=>.tup [.int ((a+i:Nat):Int),x]
 | [],_,_=>rfl
 | x::xs,a,0=>rfl
 | x::xs,a,i+1=>by
  show (RF.enumL (a+1) xs)[i]?=_
  rw [enum_get xs (a+1) i,show a+1+i=a+(i+1) by omega]
  rfl
theorem enum_len:∀(xs:List D) (a:Nat),(RF.enumL a xs).length=xs.length
 | [],_=>rfl
 | _::xs,a=>congrArg (· + 1) (enum_len xs (a+1))
theorem wk_enum {n:Nat}{a:Addr}{items:List D}:WkN K W (Ite K a) (RF.enumL 0 items) (RF.stands (.ref n) items) (fun M S H=>M[n]?=some a/\RF.itemsOf S (.ref n)=some items) where
 go:=fun i M S H c ⟨h1,h2⟩ hi=>by
  rw [enum_len] at hi
  obtain⟨vs,hs,hv⟩:=c.items h2 h1
  obtain⟨v,g1,g2⟩:=hv.get (List.getElem?_eq_getElem hi)
  refine⟨⟨vs,v,hs,g1⟩,fun x H' ⟨p,w,hp,hw,ex,eH⟩=>⟨.inr ⟨p,_,hp,eH⟩,.tup [.int i,items[i]],?_,?_⟩⟩
  ·rw [enum_get,List.getElem?_eq_getElem hi,Nat.zero_add];rfl
  ·have:=hw vs hs
   rw [g1] at this
   cases this
   subst ex eH
   exact .tup upd_same (.cons (.int _) (.cons (g2.up (up_fresh hp)) .nil))
 stop:=fun i M S H c ⟨h1,h2⟩ hi=>by
  rw [enum_len] at hi
  obtain⟨vs,hs,hv⟩:=c.items h2 h1
  exact⟨vs,hs,by rw [<-hv.length];exact hi⟩
 keep:=fun M S H M' S' H' ⟨h1,h2⟩ u c hc=>⟨pre_get u.pre h1,of_decide_eq_true hc⟩
theorem zip_get:∀(zs:List Str) (ys:List D) (i:Nat) {z:Str} {y:D},zs[i]?=some z->ys[i]?=some y->(RF.zipL zs ys)[i]?=some (.tup [.str z,y])
 | [],_,_,_,_,h,_=>by simp at h
 | _::_,[],_,_,_,_,h=>by simp at h
 | z'::zs,y'::ys,0,z,y,h,h'=>by
  have e:z'=z:=by simpa using h
  have e':y'=y:=by simpa using h'
  subst e e'
  rfl
 | z'::zs,y'::ys,i+1,z,y,h,h'=>by
  have q:=zip_get zs ys i (z:=z) (y:=y) (by simpa using h) (by simpa using h')
  simpa [RF.zipL] using q
theorem zip_len:∀(zs:List Str) (ys:List D),zs.length<=ys.length->(RF.zipL zs ys).length=zs.length
 | [],_,_=>rfl
 | _::zs,[],h=>by simp at h
 | _::zs,_::ys,h=>congrArg (· + 1) (zip_len zs ys (by simpa using h))
theorem wk_zip {b:Bool}{l:Addr}{zs:List Str}{ys:List D}(hle:zs.length<=ys.length){chk:Store->Bool}{ok:List Addr->Store->Hp->Prop}(hs:∀M S H,Cn K W M S H->ok M S H->∃vs,SqB b K H l vs/\RelDs M H ys vs)
 (hk:∀M S H M' S' H',ok M S H->Up M H M' H'->Cn K W M' S' H'->chk S'=true->ok M' S' H'):WkN K W (Itz b K zs l) (RF.zipL zs ys) chk ok where
 go:=fun i M S H c h hi=>by
  rw [zip_len zs ys hle] at hi
  obtain⟨vs,hq,hv⟩:=hs M S H c h
  have hy:i<ys.length:=Nat.lt_of_lt_of_le hi hle
  obtain⟨v,g1,g2⟩:=hv.get (List.getElem?_eq_getElem hy)
  refine⟨⟨_,vs,v,List.getElem?_eq_getElem hi,hq,g1⟩,fun x H' ⟨p,z,w,hp,hz,hw,ex,eH⟩=>⟨.inr ⟨p,_,hp,eH⟩,.tup [.str zs[i],ys[i]],zip_get zs ys i (List.getElem?_eq_getElem hi) (List.getElem?_eq_getElem hy),?_⟩⟩
  have:=hw vs hq
  rw [g1] at this
  cases this
  rw [List.getElem?_eq_getElem hi] at hz
  cases hz
  subst ex eH
  exact .tup upd_same (.cons (.str _) (.cons (g2.up (up_fresh hp)) .nil))
 stop:=fun i M S H c h hi=>by
  rw [zip_len zs ys hle] at hi
  exact hi
 keep:=hk
theorem wk_list {n:Nat}{a:Addr}{items:List D}:Wk K W (Itl K a) items (RF.stands (.ref n) items) (fun M S H=>M[n]?=some a/\RF.itemsOf S (.ref n)=some items) where
 go:=fun i M S H c ⟨h1,h2⟩ hi=>by
  obtain⟨vs,hs,hv⟩:=c.items h2 h1
  obtain⟨v,g1,g2⟩:=hv.get (List.getElem?_eq_getElem hi)
  exact⟨⟨vs,v,hs,g1⟩,fun x H' y=>⟨y.1,_,List.getElem?_eq_getElem hi,by
   have:=y.2 vs hs
   rw [g1] at this
   cases this
   exact g2⟩⟩
 stop:=fun i M S H c ⟨h1,h2⟩ hi=>by
  obtain⟨vs,hs,hv⟩:=c.items h2 h1
  exact⟨vs,hs,by rw [<-hv.length];exact hi⟩
 keep:=fun M S H M' S' H' ⟨h1,h2⟩ u c hc=>⟨pre_get u.pre h1,of_decide_eq_true hc⟩
theorem rangeL_get {lo:Int}{n i:Nat}(hi:i<n):(RF.rangeL lo n)[i]?=some (.int (lo+i)):=by
 unfold RF.rangeL
 rw [List.getElem?_map,List.getElem?_range hi]
 rfl
theorem rangeL_len {lo:Int}{n:Nat}:(RF.rangeL lo n).length=n:=by unfold RF.rangeL;simp
theorem wk_range {lo:Int}{n:Nat}:Wk K W (Itr lo n) (RF.rangeL lo n) (fun _=>true) (fun _ _ _=>True) where
 go:=fun i M S H c _ hi=>by
  rw [rangeL_len] at hi
  exact⟨hi,fun x H' y=>⟨y.1,_,rangeL_get hi,by rw [y.2];exact .int _⟩⟩
 stop:=fun i M S H c _ hi=>by rw [rangeL_len] at hi;exact hi
 keep:=fun _ _ _ _ _ _ _ _ _ _=>trivial
theorem wk_str {z:Str}:Wk K W (Its z) (z.cps.toList.map fun c=>.str ⟨#[c]⟩) (fun _=>true) (fun _ _ _=>True) where
 go:=fun i M S H c _ hi=>by
  have hi:i<z.cps.size:=by simpa using hi
  refine⟨hi,fun x H' y=>⟨y.1,?_⟩⟩
  obtain⟨_,cc,e1,rfl⟩:=y
  refine⟨.str ⟨#[cc]⟩,?_,.str _⟩
  rw [List.getElem?_map,Array.getElem?_toList,e1]
  rfl
 stop:=fun i M S H c _ hi=>by
  show z.cps.size<=i
  simpa using hi
 keep:=fun _ _ _ _ _ _ _ _ _ _=>trivial
theorem Sm.set {K:PySem.W.Frag}{M:List Addr}{S:Store}{H:Hp}{ρ:RF.Env}{σ:St}(s:Sm K W M S H ρ σ){i:Nat}{d:D}{v:V}(r:RelD M H d v):Sm K W M S H (ρ.set i (some d)) (σ.set i (some v)):=
 ⟨s.con,s.env.set r (Nat.le_of_eq s.len),by simp [s.len]⟩
def gOf:List Nat->TGs
 | []=>gNil
 | i::is=>gCons (gName i) (gOf is)
theorem gOf_rd {K:PySem.W.Frag}{M:List Addr}{S:Store}{H:Hp}{Q:St->Hp->Prop}:∀{is:List Nat} {ds:List D} {vs:List V} {ρ ρ':RF.Env} {σ:St},RF.setL is ds ρ=some ρ'->RelDs M H ds vs->Sm K W M S H ρ σ->(∀σ',Sm K W M S H ρ' σ'->Q σ' H)->gOf is vs σ H Q
 | [],[],_,_,_,_,h,r,s,q=>by
  cases h
  cases r
  exact⟨rfl,q _ s⟩
 | i::is,d::ds,_,_,_,_,h,r,s,q=>by
  cases r with
  | cons r1 r2=>exact⟨_,_,rfl,gOf_rd h r2 (s.set r1) q⟩
 | [],_::_,_,_,_,_,h,_,_,_=>by cases h
 | _::_,[],_,_,_,_,h,_,_,_=>by cases h
theorem setL_len:∀{is:List Nat} {ds:List D} {ρ ρ':RF.Env},RF.setL is ds ρ=some ρ'->ds.length=is.length
 | [],[],_,_,_=>rfl
 | i::is,d::ds,ρ,ρ',h=>by
  have:=setL_len (is:=is) (ds:=ds) (ρ:=ρ.set i (some d)) (ρ':=ρ') h
  simp [this]
 | [],_::_,_,_,h=>by cases h
 | _::_,[],_,_,h=>by cases h
theorem mapD_rel {κ:Type}[DecidableEq κ]{f:κ->D}(hf:∀a b,f a=f b->a=b){M:List Addr}{H:Hp}{kvs:List (D×D)}{ks:List (κ×V)}(h:Paired (KPair f M H) kvs ks){q:κ}{d:D}{v:V}(r:RelD M H d v):
 Paired (KPair f M H) (kvs.map fun kv=>if kv.1=f q then (kv.1,d) else kv) (ks.map fun kv=>if kv.1=q then (kv.1,v) else kv)/\(kvs.any fun kv=>decide (kv.1=f q))=ks.any fun kv=>decide (kv.1=q):=by
 induction h with
 | nil=>exact⟨.nil,rfl⟩
 | @cons p s kvs ks hr t ih=>
  rw [List.map_cons,List.map_cons,List.any_cons,List.any_cons,ih.2]
  by_cases e:s.1=q
  ·have e':p.1=f q:=by rw [hr.1,e]
   rw [if_pos e',if_pos e]
   exact⟨.cons ⟨hr.1,r⟩ ih.1,by simp [e,e']⟩
  ·have e':¬p.1=f q:=fun z=>e (hf _ _ (hr.1.symm.trans z))
   rw [if_neg e',if_neg e]
   exact⟨.cons hr ih.1,by simp [e,e']⟩
theorem paired_app {α β:Type}{F:α->β->Prop}:∀{l₁ l₂:List α} {m₁ m₂:List β},Paired F l₁ m₁->Paired F l₂ m₂->Paired F (l₁++l₂) (m₁++m₂)
 | _,_,_,_,.nil,s=>s
 | _,_,_,_,.cons r t,s=>.cons r (paired_app t s)
theorem putD_rel {κ:Type}[DecidableEq κ]{f:κ->D}(hf:∀a b,f a=f b->a=b){M:List Addr}{H:Hp}{kvs:List (D×D)}{ks:List (κ×V)}(h:Paired (KPair f M H) kvs ks){q:κ}{d:D}{v:V}(r:RelD M H d v):Paired (KPair f M H) (RF.putD kvs (f q) d) (putK ks q v):=by
 obtain⟨h1,h2⟩:=mapD_rel hf h (q:=q) r
 unfold RF.putD putK
 rw [h2]
 split
 ·exact h1
 ·exact paired_app h (.cons ⟨rfl,r⟩ .nil)
end
section
variable {X:Cx}{W:Adr}{Γ:RF.Gm}
theorem slots_cons {e:Expr}{r:List Expr}{is:List Nat}(h:RF.slots Γ (e::r)=some is):∃x p i js,e = .Name x p/\RF.slot Γ x=some i/\RF.slots Γ r=some js/\i∉js/\is=i::js:=by
 unfold RF.slots at h
 split at h
 ·rename_i e';cases e'
 ·rename_i x p r' e'
  cases e'
  split at h
  ·rename_i i js h1 h2
   split at h
   ·cases h
   ·rename_i hc
    cases h
    exact⟨x,p,i,js,rfl,h1,h2,fun z=>hc (by simpa using z),rfl⟩
  ·cases h
 ·cases h
theorem slots_each {env:Env}:∀{ts:List Expr} {is:List Nat},RF.slots Γ ts=some is->(assignEach ts env).length=ts.length/\(assignEach ts env).findIdx? (·.1)=none/\is.length=ts.length
 | [],is,h=>by cases h;exact⟨rfl,rfl,rfl⟩
 | e::r,is,h=>by
  obtain⟨x,p,i,js,rfl,h1,h2,_,rfl⟩:=slots_cons h
  obtain⟨a1,a2,a3⟩:=slots_each (env:=env) h2
  refine⟨?_,?_,by simp [a3]⟩
  ·show (assignEach r env).length+1=_
   rw [a1];rfl
  ·show List.findIdx? (·.1) ((false,assign (.Name x p) env)::assignEach r env)=none
   rw [List.findIdx?_cons]
   simp [a2]
def tgOk (X:Cx)(W:Adr)(is:List Nat)(one:Bool)(g:TG):Prop:=∀(M:List Addr) (S:Store) (H:Hp) (ρ ρ1:RF.Env) (σ:St) (d:D) (x:V) (Q:St->Hp->Prop),Sm X.K W M S H ρ σ->RelD M H d x->RF.tgt is one d ρ=some ρ1->(∀σ',Sm X.K W M S H ρ1 σ'->Q σ' H)->g x σ H Q
theorem tg_name {i:Nat}:tgOk X W [i] true (gName i):=fun M S H ρ ρ1 σ d x Q s r h q=>by
 cases h
 exact q _ (s.set r)
theorem tg_tup {is:List Nat}{n:Nat}(hn:is.length=n):tgOk X W is false (gTup X.K n (gOf is)):=fun M S H ρ ρ1 σ d x Q s r h q=>by
 unfold RF.tgt at h
 simp only [Bool.false_eq_true,if_false] at h
 split at h
 ·obtain⟨p,vs,rfl,hp,hv⟩:=rel_tup r
  exact⟨p,vs,rfl,SqT.of hp,by rw [<-hv.length,setL_len h,hn],gOf_rd h hv s q⟩
 ·cases h
end
def UpC {α β:Type}(ra:List Addr->Hp->α->β->Prop):Prop:=∀M H M' H' a b,ra M H a b->Up M H M' H'->ra M' H' a b
section
variable {K:PySem.W.Frag}{W:Adr}{M M1:List Addr}{S:Store}{H H1:Hp}{ρ:RF.Env}{σ:St}{E:XK}{α β:Type}{ra:List Addr->Hp->α->β->Prop}
def GlB (K:PySem.W.Frag)(W:Adr)(ra:List Addr->Hp->α->β->Prop)(M:List Addr)(H:Hp)(ρ:RF.Env)(r:RF.R α)(Q:β->St->Hp->Prop):Prop:=match r with
 | .ok a S'=>∀M' H' σ' b,Sm K W M' S' H' ρ σ'->Up M H M' H'->ra M' H' a b->Q b σ' H'
 | _=>False
theorem GlB.up {r:RF.R α}{Q:β->St->Hp->Prop}(h:GlB K W ra M H ρ r Q)(u:Up M H M1 H1):GlB K W ra M1 H1 ρ r Q:=by
 cases r with
 | ok a S'=>exact fun M' H' σ' b s u'=>h M' H' σ' b s (u.trans u')
 | _=>exact h
def tBd (K:PySem.W.Frag)(W:Adr)(ra:List Addr->Hp->α->β->Prop)(b:α->RF.C α):TB β:=fun a' σ H Q=>∃M ρ S a,Sm K W M S H ρ σ/\ra M H a a'/\GlB K W ra M H ρ (b a ρ S) Q
theorem GlB.noEx {r:RF.R α}{Q:β->Hp->Prop}(h:GlG K W ra E M H (RF.noEx r) Q):GlB K W ra M H ρ r fun b _ H'=>Q b H':=by
 cases r with
 | ok a S'=>exact fun M' H' σ' b s u r=>h M' H' b s.con u r
 | ex x p S'=>exact h.elim
 | bad=>exact h.elim
theorem GlB.guard {b:Bool}{r:RF.R α}{Q:β->St->Hp->Prop}(h:GlB K W ra M H ρ (RF.guardR b r) Q):b=true/\GlB K W ra M H ρ r Q:=by
 unfold RF.guardR at h
 cases b with
 | true=>exact⟨rfl,h⟩
 | false=>exact h.elim
theorem setL_keep:∀{is:List Nat} {ds:List D} {ρ ρ1:RF.Env},RF.setL is ds ρ=some ρ1->ρ1.length=ρ.length/\∀j,j∉is->ρ1[j]?=ρ[j]?
 | [],[],ρ,ρ1,h=>by cases h;exact⟨rfl,fun _ _=>rfl⟩
 | i::is,d::ds,ρ,ρ1,h=>by
  obtain⟨h1,h2⟩:=setL_keep (is:=is) (ds:=ds) (ρ:=ρ.set i (some d)) (ρ1:=ρ1) h
  refine⟨by rw [h1,List.length_set],fun j hj=>?_⟩
  rw [h2 j fun z=>hj (List.mem_cons_of_mem _ z),List.getElem?_set_ne (fun z=>hj (by rw [<-z];exact List.mem_cons_self))]
 | [],_::_,_,_,h=>by cases h
 | _::_,[],_,_,h=>by cases h
theorem tgt_keep {is:List Nat}{one:Bool}{d:D}{ρ ρ1:RF.Env}(h:RF.tgt is one d ρ=some ρ1):ρ1.length=ρ.length/\∀j,j∉is->ρ1[j]?=ρ[j]?:=by
 unfold RF.tgt at h
 split at h
 ·split at h
  ·cases h
   rename_i i
   exact⟨List.length_set,fun j hj=>List.getElem?_set_ne (fun z=>hj (by rw [<-z];exact List.mem_cons_self))⟩
  ·cases h
 ·split at h
  ·exact setL_keep h
  ·cases h
theorem Sm.back {is:List Nat}{one:Bool}{d:D}{ρ1:RF.Env}(s:Sm K W M S H ρ1 σ)(h:RF.tgt is one d ρ=some ρ1)(hb:RF.blank is ρ=true):Sm K W M S H ρ σ:=by
 obtain⟨h1,h2⟩:=tgt_keep h
 refine⟨s.con,fun j x e=>s.env j x ?_,h1.symm.trans s.len⟩
 rw [h2 j fun hj=>?_]
 ·exact e
 ·have:=List.all_eq_true.mp hb j hj
  rw [e] at this
  cases this
theorem comp_chk {chk:Store->Bool}{is:List Nat}{one:Bool}{t:RF.C Bool}{b:α->RF.C α}{l:List D}{a:α}{Q:β->St->Hp->Prop}(g:GlB K W ra M H ρ (RF.compF chk is one t b ρ l a S) Q):chk S=true:=by
 cases h:chk S with
 | true=>rfl
 | false=>
  exfalso
  cases l with
  | nil=>unfold RF.compF at g;rw [h] at g;exact g
  | cons x xs=>unfold RF.compF at g;rw [h] at g;exact g
theorem cp_gen {X:Cx}{J:It}{items:List D}{chk:Store->Bool}{ok:List Addr->Store->Hp->Prop}(wk:WkN X.K W J items chk ok){is:List Nat}{one:Bool}{gt:TG}(hg:tgOk X W is one gt){t:RF.C Bool}{b:α->RF.C α}(hup:UpC ra)(hbl:RF.blank is ρ=true)
 {a:α} {a':β} {R:β->St->Hp->Prop} (sm:Sm X.K W M S H ρ σ) (hok:ok M S H) (r0:ra M H a a') (g:GlB X.K W ra M H ρ (RF.compF chk is one t b ρ items a S) R):CpW J gt (tT X.K W E0 t) (tBd X.K W ra b) R a' σ H:=by
 refine⟨fun i m a' σ H=>m=items.length-i/\i<=items.length/\∃M S a,Sm X.K W M S H ρ σ/\ok M S H/\ra M H a a'/\GlB X.K W ra M H ρ (RF.compF chk is one t b ρ (items.drop i) a S) R,⟨items.length,by simp,Nat.zero_le _,M,S,a,sm,hok,r0,by rw [List.drop_zero];exact g⟩,?_⟩
 rintro i m a' σ H ⟨rfl,hi,M,S,a,sm,hok,r0,g⟩
 have hc:=comp_chk g
 rcases Nat.lt_or_ge i items.length with hlt | hge
 ·obtain⟨go,yl⟩:=wk.go i M S H sm.con hok hlt
  refine .inr ⟨go,_,fun a' σ' H' z=>⟨items.length-(i+1),by omega,z⟩,fun x H' y=>?_⟩
  obtain⟨nw,d,hd,rd⟩:=yl x H' y
  have u0:=nw.up M
  have sm':=sm.to (sm.con.nw nw) u0
  have ed:items.drop i=d::items.drop (i+1):=by
   rw [List.drop_eq_getElem_cons hlt]
   congr 1
   rw [List.getElem?_eq_getElem hlt] at hd
   exact Option.some.inj hd
  rw [ed] at g
  unfold RF.compF at g
  rw [if_pos hc] at g
  split at g
  ·rename_i ρ1 ht
   refine⟨u0.tups,hg M S H' ρ ρ1 σ d x _ sm' rd ht fun σ1 s1=>⟨u0.tups,?_⟩⟩
   cases ev:t ρ1 S with
   | bad=>rw [ev] at g;exact g.elim
   | ex y p S1=>rw [ev] at g;exact g.elim
   | ok c S1=>
    rw [ev,RF.R.bind_ok] at g
    refine tG_ok s1 ev fun M1 H1 u s2 u1' r1=>?_
    have u1:=u0.trans u1'
    subst r1
    refine⟨u1.tups,?_⟩
    cases c with
    | false=>
     rw [if_neg (by decide)] at g ⊢
     have g1:=g.up u1
     exact⟨rfl,hlt,M1,S1,a,s2.back ht hbl,wk.keep M S H M1 S1 H1 hok u1 s2.con (comp_chk g1),hup _ _ _ _ _ _ r0 u1,g1⟩
    | true=>
     rw [if_pos rfl] at g ⊢
     refine⟨M1,ρ1,S1,a,s2,hup _ _ _ _ _ _ r0 u1,?_⟩
     cases ev2:b a ρ1 S1 with
     | bad=>rw [ev2] at g;exact g.elim
     | ex y p S2=>rw [ev2] at g;exact g.elim
     | ok a1 S2=>
      rw [ev2,RF.R.bind_ok] at g
      intro M2 H2 σ2 b2 s3 u2 r2
      have g2:=g.up (u1.trans u2)
      exact⟨rfl,hlt,M2,S2,a1,s3.back ht hbl,wk.keep M S H M2 S2 H2 hok (u1.trans u2) s3.con (comp_chk g2),r2,g2⟩
  ·exact g.elim
 ·have ei:i=items.length:=by omega
  subst ei
  refine .inl ⟨wk.stop _ M S H sm.con hok (Nat.le_refl _),?_⟩
  rw [List.drop_length] at g
  unfold RF.compF at g
  rw [if_pos hc] at g
  exact g M H σ a' sm (Up.refl _ _) r0
theorem PB.imp {X:Cx}{D:Addr}{ob:β->HO}{m:Sem Unit}{t t':TB β}(h:PB X D ob m t)(k:∀a σ H Q,t' a σ H Q->t a σ H Q):PB X D ob m t':=fun pins s σ H a Q I A q=>h pins s σ H a Q I A (k _ _ _ _ q)
theorem tb_list {c:RF.C D}:∀a σ H Q,tBd K W RelDs (RF.bL c) a σ H Q->bList (tE K W E0 c) a σ H Q:=by
 rintro a' σ H Q ⟨M,ρ,S,a,sm,ra,g⟩
 obtain⟨hz,g⟩:=GlB.guard g
 cases ev:c ρ S with
 | bad=>rw [ev] at g;exact g.elim
 | ex y p S1=>rw [ev] at g;exact g.elim
 | ok y S1=>
  rw [ev,RF.R.bind_ok] at g
  refine tG_ok sm ev fun M1 H1 u s1 u1 r1=>⟨by rw [<-ra.length];exact of_decide_eq_true hz,u1.tups,?_⟩
  exact g M1 H1 σ _ s1 u1 ((ra.up u1).append (.cons r1 .nil))
theorem tb_dict {ck cv:RF.C D}:∀a σ H Q,tBd K W (fun M H=>Paired (KPair ofKeys M H)) (RF.bD ck cv) a σ H Q->bDict (tE K W E0 ck) (tE K W E0 cv) a σ H Q:=by
 rintro a' σ H Q ⟨M,ρ,S,a,sm,ra,g⟩
 have g:GlB K W (fun M H=>Paired (KPair ofKeys M H)) M H ρ ((ck ρ S).bind fun x S1=>(cv ρ S1).bind fun y S2=>RF.guardR (RF.keyTup x&&decide (a.length<sizeLine)) (.ok (RF.putD a x y) S2)) Q:=g
 cases ev:ck ρ S with
 | bad=>rw [ev] at g;exact g.elim
 | ex y p S1=>rw [ev] at g;exact g.elim
 | ok x S1=>
  rw [ev,RF.R.bind_ok] at g
  refine tG_ok sm ev fun M1 H1 u s1 u1 r1=>?_
  cases ev2:cv ρ S1 with
  | bad=>rw [ev2] at g;exact g.elim
  | ex y p S1=>rw [ev2] at g;exact g.elim
  | ok y S2=>
   rw [ev2,RF.R.bind_ok] at g
   obtain⟨hz,g⟩:=GlB.guard g
   rw [Bool.and_eq_true,decide_eq_true_eq] at hz
   refine tG_ok s1 ev2 fun M2 H2 v s2 u2 r2=>?_
   obtain⟨q,rfl⟩:=keyTup_of hz.1
   obtain⟨bq,vs,rfl,hb1,hs⟩:=rel_tup (r1.up u2)
   rw [rels_kV hs] at hb1
   exact⟨bq,q,rfl,hb1,by rw [<-Paired.length ra];exact hz.2,(u1.trans u2).tups,g M2 H2 σ _ s2 (u1.trans u2) (putD_rel (fun _ _=>ofKeys_inj) (Paired.up ra (u1.trans u2)) r2)⟩
end
end L2
namespace L2
open PySem PySem.Spec PyProof.Rows
open RF (D O Store Tab)
structure KitE (kt:RF.Kit)(T:Tab)(cl:RF.Calls)(k:Nat):Prop where
 e:∀{X:Cx} {W:Adr} {Γ:RF.Gm} {E:XK},W.T=T->CxK X W Γ E cl k->∀e,PE X e (tE X.K W E (kt.e Γ e))
 t:∀{X:Cx} {W:Adr} {Γ:RF.Gm} {E:XK},W.T=T->CxK X W Γ E cl k->∀e,PT X e (tT X.K W E (kt.t Γ e))
 w:∀{X:Cx} {W:Adr} {Γ:RF.Gm} {E:XK},W.T=T->CxK X W Γ E cl k->∀op vs p,PW X (.BoolOp op vs p) (tT X.K W E (kt.t Γ (.BoolOp op vs p)))
 c1:∀{X:Cx} {W:Adr} {Γ:RF.Gm} {E:XK},W.T=T->CxK X W Γ E cl k->∀a op b p,PT X (.Compare a [op] [b] p) (tT X.K W E (RF.testB (kt.e Γ (.Compare a [op] [b] p))))
 c2:∀{X:Cx} {W:Adr} {Γ:RF.Gm} {E:XK},W.T=T->CxK X W Γ E cl k->∀a o1 o2 b c p,PT X (.Compare a [o1,o2] [b,c] p) (tT X.K W E (RF.testB (kt.e Γ (.Compare a [o1,o2] [b,c] p))))
theorem kin_relabel (sc:Scope)(env:Env):Kin sc (relabel sc env):=by
 intro x
 show (sc.names.map fun (n,k)=>if (k == .free&&env.scope.kind == .function&&env.kindOf n==some .cell) then (n,.cell) else (n,k)).lookup x=sc.names.lookup x\/_/\(sc.names.map fun (n,k)=>if (k == .free&&env.scope.kind == .function&&env.kindOf n==some .cell) then (n,.cell) else (n,k)).lookup x=some .cell
 generalize sc.names=l
 induction l with
 | nil=>exact .inl rfl
 | cons p r ih=>
  obtain⟨n,kk⟩:=p
  simp only [List.map_cons]
  by_cases hd:(kk==NameKind.free&&env.scope.kind == .function&&env.kindOf n==some .cell)=true
  ·rw [if_pos hd]
   simp only [List.lookup_cons]
   cases hx:x==n with
   | true=>
    simp only [Bool.and_eq_true] at hd
    exact .inr ⟨by rw [eq_of_beq hd.1.1],rfl⟩
   | false=>exact ih
  ·rw [if_neg hd]
   simp only [List.lookup_cons]
   cases hx:x==n with
   | true=>exact .inl rfl
   | false=>exact ih
theorem comp_lcOk {sc o o':Scope}{xs M:List Str}(h:RF.compOk sc o xs M=true)(k:Kin o o'):lcOkN sc o' xs M=true:=by
 unfold RF.compOk at h
 unfold lcOkN
 simp only [Bool.and_eq_true] at h ⊢
 refine⟨⟨h.1.1,?_⟩,h.2⟩
 have h5:=h.1.2
 rw [List.all_eq_true] at h5 ⊢
 intro p hp
 have:=h5 p hp
 rw [Bool.or_eq_true] at this ⊢
 rcases this with z | z
 ·exact .inl z
 ·refine .inr ?_
  rcases k p.1 with e | ⟨e1,e2⟩
  ·rw [e];exact z
  ·rw [e2];rfl
theorem nodup_of {l:List Str}(h:RF.nodupB l=true):l.Nodup:=by
 induction l with
 | nil=>exact List.nodup_nil
 | cons x xs ih=>
  unfold RF.nodupB at h
  rw [Bool.and_eq_true] at h
  refine List.nodup_cons.mpr ⟨fun hm=>?_,ih h.2⟩
  have:(xs.any fun y=>decide (y=x))=true:=List.any_eq_true.mpr ⟨x,hm,decide_eq_true rfl⟩
  rw [this] at h
  cases h.1
theorem shade_at {sc:Scope}{xs N:List Str}(h:RF.shadeOk sc xs N=true):∀(j:Nat) (y:Str),(RF.shade xs N)[j]?=some y->(∃p∈sc.names,p.1=y)->N[j]?=some y:=by
 intro j y hj ⟨p,hp,e⟩
 unfold RF.shadeOk at h
 rw [Bool.and_eq_true] at h
 unfold RF.shade at hj
 rw [List.getElem?_map] at hj
 obtain⟨z,h1,h2⟩:=Option.map_eq_some_iff.mp hj
 split at h2
 ·rename_i hc
  exfalso
  have hz:z∈xs:=by simpa using hc
  have:(sc.names.any fun p=>xs.any fun x=>decide (p.1=x++("?":Str)))=true:=List.any_eq_true.mpr ⟨p,hp,List.any_eq_true.mpr ⟨z,hz,decide_eq_true (e.trans h2.symm)⟩⟩
  rw [this] at h
  cases h.2
 ·rw [h1,h2]
section
variable {X:Cx}{W:Adr}{Γ:RF.Gm}{E:XK}{cl:RF.Calls}{k:Nat}{kt:RF.Kit}{a b c e:Expr}{ca cb cc:RF.C D}{pos:Pos}
theorem CxK.blk (C:CxK X W Γ E cl k){sc:Scope}{xs:List Str}(hs:RF.shadeOk sc xs Γ.N=true)(Ca:Addr)(s:Shared)(H:Hp)(fp:List Addr):CxK (blkN X sc xs (RF.shade xs Γ.N) Ca s H fp) W ⟨xs++RF.shade xs Γ.N,sc,false⟩ E0 cl k where
 N:=rfl
 nd:=by
  unfold RF.shadeOk at hs
  rw [Bool.and_eq_true] at hs
  exact nodup_of hs.1
 kin:=kin_relabel sc X.env
 calm:=C.calm
 room:=C.room
 pass:=passX
 top:=C.top
 lamK:=fun h=>by cases h
theorem pi_listZ {tg l:Expr}{tl:TE}(hl:PE X l tl):PI X tg l (fun σ H R=>tl σ H fun x H1=>∃a,x = .ref a/\(∃xs,SqL X.K H1 a xs)/\((∀xs,SqL X.K H1 a xs->xs.length<=sizeLine)->R (Itl X.K a) H1)):=by
 intro pins s σ H R I h
 refine thn (hl pins s σ H _ I h) fun v s1 ⟨x,H1,I1,r1,q1⟩=>?_
 obtain⟨a,e,⟨xs,hq⟩,q⟩:=q1
 subst e
 cases r1
 obtain⟨its,rv,p,hz⟩:=I1.list hq
 refine wpAny_pyIter_list p.isList ?_
 refine⟨s1.heap.objs.size,[s1.heap.objs.size],_,_,H1,rfl,I1.kept (t':=s1.toks) fun b o e=>Heap.get?_push_of_some _ e,turn_list a _,⟨_,Heap.get?_push_size _ rfl,rfl,rfl⟩,fun b hb=>?_,q fun ys hy=>by rw [I1.list_inj hy hq];exact hz⟩
 have e:b=s1.heap.objs.size:=by simpa using hb
 subst e
 exact I1.fpOk (Nat.le_refl _) (I1.hok.fresh (Nat.le_refl _))
theorem relabel_local {env:Env}:∀{names:List (Str×NameKind)} {x:Str},names.lookup x=some .local->(names.map fun (n,k)=>if (k == .free&&env.scope.kind == .function&&env.kindOf n==some .cell) then (n,.cell) else (n,k)).lookup x=some .local
 | [],x,h=>h
 | (n,kk)::r,x,h=>by
  simp only [List.map_cons]
  rw [List.lookup_cons] at h
  cases hx:x==n with
  | true=>
   rw [hx] at h
   cases h
   show List.lookup x ((n,NameKind.local)::_)=_
   rw [List.lookup_cons,hx]
  | false=>
   rw [hx] at h
   have ih:=relabel_local (env:=env) h
   split<;>(rw [List.lookup_cons,hx];exact ih)
theorem blk_slot (C:CxK X W Γ E cl k){sc:Scope}{xs:List Str}(hs:RF.shadeOk sc xs Γ.N=true)(hc:RF.compOk sc Γ.sc xs (RF.shade xs Γ.N)=true)(Ca:Addr)(s:Shared)(H:Hp)(fp:List Addr){x:Str}{i:Nat}{px:Pos}(h:RF.slot ⟨xs++RF.shade xs Γ.N,sc,false⟩ x=some i):PG (blkN X sc xs (RF.shade xs Γ.N) Ca s H fp) (.Name x px) (gName i):=by
 have B:=C.blk hs Ca s H fp
 have ok:=LcOkN.of (comp_lcOk hc C.kin)
 unfold RF.slot at h
 split at h
 ·rename_i hk
  have hl:sc.names.lookup x=some .local:=by
   rw [Bool.or_eq_true] at hk
   rcases hk with z | z
   ·exact eq_of_beq z
   ·have z:sc.names.lookup x=some .cell:=eq_of_beq z
    exfalso
    have:∀{l:List (Str×NameKind)},l.lookup x=some .cell->(∀p∈l,p.2≠NameKind.cell)->False:=fun {l}=>by
     induction l with
     | nil=>intro h;cases h
     | cons p r ih=>
      intro h q
      obtain⟨n,kk⟩:=p
      rw [List.lookup_cons] at h
      cases hx:x==n with
      | true=>rw [hx] at h;cases h;exact q _ List.mem_cons_self rfl
      | false=>rw [hx] at h;exact ih h fun p hp=>q p (List.mem_cons_of_mem _ hp)
    exact this z ok.nocell
  have hl2:(relabel sc X.env).names.lookup x=some .local:=relabel_local hl
  exact pg_name B.nd (by rw [B.N];exact ixOf_get h) (.inl hl2) (.inr hl2)
 ·cases h
theorem blk_slots (C:CxK X W Γ E cl k){sc:Scope}{xs:List Str}(hs:RF.shadeOk sc xs Γ.N=true)(hc:RF.compOk sc Γ.sc xs (RF.shade xs Γ.N)=true)(Ca:Addr)(s:Shared)(H:Hp)(fp:List Addr):∀{ts:List Expr} {is:List Nat},RF.slots ⟨xs++RF.shade xs Γ.N,sc,false⟩ ts=some is->PGs (blkN X sc xs (RF.shade xs Γ.N) Ca s H fp) ts (gOf is)
 | [],is,h=>by cases h;exact pgs_nil
 | e::r,is,h=>by
  obtain⟨x,p,i,js,rfl,h1,h2,_,rfl⟩:=slots_cons h
  exact pgs_cons (blk_slot C hs hc Ca s H fp h1) (blk_slots C hs hc Ca s H fp h2) rfl
theorem blk_tg (C:CxK X W Γ E cl k){sc:Scope}{xs:List Str}(hs:RF.shadeOk sc xs Γ.N=true)(hc:RF.compOk sc Γ.sc xs (RF.shade xs Γ.N)=true){tg:Expr}{is:List Nat}{one:Bool}(h:RF.tgSlots ⟨xs++RF.shade xs Γ.N,sc,false⟩ tg=some (is,one)):
 ∃gt:TG,tgOk X W is one gt/\∀Ca s H fp,PG (blkN X sc xs (RF.shade xs Γ.N) Ca s H fp) tg gt:=by
 unfold RF.tgSlots at h
 split at h
 ·obtain⟨i,h1,h2⟩:=Option.map_eq_some_iff.mp h
  cases h2
  exact⟨_,tg_name,fun Ca s H fp=>blk_slot C hs hc Ca s H fp h1⟩
 ·rename_i ts kk pt
  obtain⟨js,h1,h2⟩:=Option.map_eq_some_iff.mp h
  cases h2
  refine⟨gTup X.K ts.length (gOf is),?_,fun Ca s H fp=>?_⟩
  ·obtain⟨_,_,a3⟩:=slots_each (env:=X.env) h1
   exact tg_tup a3
  ·obtain⟨a1,a2,a3⟩:=slots_each (env:=(blkN X sc xs (RF.shade xs Γ.N) Ca s H fp).env) h1
   exact a1 ▸ pg_tup C.calm (blk_slots C hs hc Ca s H fp h1) rfl a2
 ·cases h
theorem blk_ifs (C:CxK X W Γ E cl k)(KO:KitE kt W.T cl k){sc:Scope}{xs:List Str}(hs:RF.shadeOk sc xs Γ.N=true){ifs:List Expr}{t:RF.C Bool}(h:RF.ifsG kt ⟨xs++RF.shade xs Γ.N,sc,false⟩ ifs=some t)(Ca:Addr)(s:Shared)(H:Hp)(fp:List Addr):PF (blkN X sc xs (RF.shade xs Γ.N) Ca s H fp) ifs (tT X.K W E0 t):=by
 unfold RF.ifsG at h
 split at h
 ·cases h
  intro pins s σ H Q I ⟨M,ρ,S,sm,g⟩
  exact pf_nil pins s σ H Q I (GlG.now g sm.con rfl)
 ·cases h
  exact pf_one (KO.t rfl (C.blk hs Ca s H fp) _)
 ·cases h
def TgOne (tg:Expr)(one:Bool):Prop:=match one with
 | true=>∃y p,tg = .Name y p
 | false=>∃ts k p,tg = .Tuple ts k p
theorem tgOne_of {Γ:RF.Gm}{tg:Expr}{is:List Nat}{one:Bool}(h:RF.tgSlots Γ tg=some (is,one)):TgOne tg one:=by
 unfold RF.tgSlots at h
 split at h
 ·obtain⟨i,_,h2⟩:=Option.map_eq_some_iff.mp h
  cases h2
  exact⟨_,_,rfl⟩
 ·obtain⟨i,_,h2⟩:=Option.map_eq_some_iff.mp h
  cases h2
  exact⟨_,_,_,rfl⟩
 ·cases h
def CpGoal {β:Type}(X:Cx)(tg it:Expr)(n:Nat)(σ:St)(H:Hp)(gt:TG)(tt:TT)(tb:TB β)(a0:β)(Q:β->Hp->Prop):Prop:=
 ∃wi,PI X tg it wi/\wi σ H fun J H1=>CpW J gt tt tb (fun a _ H2=>Q a H2) a0 (List.replicate n none++σ) H1
theorem Sm.inner {K:PySem.W.Frag}{M:List Addr}{S:Store}{H:Hp}{ρ:RF.Env}{σ:St}(s:Sm K W M S H ρ σ)(n:Nat):Sm K W M S H (RF.inner n ρ) (List.replicate n none++σ):=by
 refine⟨s.con,fun i d e=>?_,by unfold RF.inner;simp [s.len]⟩
 unfold RF.inner at e
 rcases Nat.lt_or_ge i n with hi | hi
 ·rw [List.getElem?_append_left (by simpa using hi),List.getElem?_replicate,if_pos hi] at e
  cases e
 ·rw [List.getElem?_append_right (by simpa using hi),List.length_replicate] at e
  obtain⟨v,h1,h2⟩:=s.env _ d e
  exact⟨v,by rw [List.getElem?_append_right (by simpa using hi),List.length_replicate];exact h1,h2⟩
section
variable {α β:Type}{ra:List Addr->Hp->α->β->Prop}{is:List Nat}{one:Bool}{gt:TG}{t:RF.C Bool}{bd:α->RF.C α}{a0:α}{b0:β}{Q:β->Hp->Prop}{n:Nat}{tg it:Expr}{pins:List (Addr×Obj)}{st:Shared}{σ:St}{H:Hp}{M:List Addr}{S:Store}{ρ:RF.Env}
def rNever:List V->Hp->VK->Prop:=fun _ _ _=>False
theorem call_never {f:Value}:CallR X f rNever:=fun _ _ _ _ _ _ _ _ _ h=>h.elim
theorem pi_gone {tg l:Expr}{ta:TA}(hl:PE X l (tCB rNever ta)):PI X tg l (fun σ H R=>ta σ H fun _ _=>False):=fun pins s σ H R I h=>
 thn (hl pins s σ H (fun _ _=>False) I h) fun _ _ ⟨_,_,_,_,z⟩=>z.elim
theorem dyn_cp (hT:TgOne tg one)(hg:tgOk X W is one gt)(hup:UpC ra)(hbl:RF.blank is (RF.inner n ρ)=true)(r0:∀M H,ra M H a0 b0){cv:RF.C D}(hl:PE X it (tE X.K W E cv))(I:Inv X pins σ H st)(sm:Sm X.K W M S H ρ σ)
 (g:GlG X.K W ra E M H ((cv ρ S).bind fun x S1=>RF.compV is one t bd (RF.inner n ρ) a0 x S1) Q):CpGoal X tg it n σ H gt (tT X.K W E0 t) (tBd X.K W ra bd) b0 Q:=by
 cases ev:cv ρ S with
 | bad=>rw [ev] at g;exact g.elim
 | ex y p S1=>
  rw [ev] at g
  exact⟨_,pi_listZ hl,tG_ex sm ev g⟩
 | ok y S1=>
  rw [ev,RF.R.bind_ok] at g
  have lst:∀{m:Nat} {xs:List D},y = .ref m->RF.itemsOf S1 (.ref m)=some xs->GlG X.K W ra E M H (RF.noEx (RF.compF (RF.stands (.ref m) xs) is one t bd (RF.inner n ρ) xs a0 S1)) Q->CpGoal X tg it n σ H gt (tT X.K W E0 t) (tBd X.K W ra bd) b0 Q:=fun {m xs} ey hi g0=>by
   subst ey
   refine⟨_,pi_listZ hl,tG_ok sm ev fun M1 H1 u s1 u1 r1=>?_⟩
   obtain⟨p,rfl,ea⟩:=rel_ref r1
   obtain⟨vs,h1,h2⟩:=s1.con.items hi ea
   exact⟨p,rfl,⟨vs,h1⟩,fun hz=>cp_gen wk_list.n hg hup hbl (s1.inner n) ⟨ea,hi⟩ (r0 _ _) (GlB.noEx (g0.up u1))⟩
  cases y with
  | ref m=>
   unfold RF.compV at g
   dsimp only at g
   split at g
   ·rename_i xs hS
    exact lst rfl (by unfold RF.itemsOf;dsimp only;rw [hS]) g
   ·exact g.elim
  | str z=>
   unfold RF.compV at g
   dsimp only at g
   obtain⟨ho,g⟩:=GlG.guard g
   subst ho
   obtain⟨y,py,rfl⟩:=hT
   refine⟨_,pi_str hl,tG_ok sm ev fun M1 H1 u s1 u1 r1=>?_⟩
   cases r1
   exact⟨z,rfl,cp_gen wk_str.n hg hup hbl (s1.inner n) trivial (r0 _ _) (GlB.noEx (g.up u1))⟩
  | _=>exact g.elim
theorem src_cp (C:CxK X W Γ E cl k)(KO:KitE kt W.T cl k)(hT:TgOne tg one)(hg:tgOk X W is one gt)(hup:UpC ra)(r0:∀M H,ra M H a0 b0){src:RF.Src}(hs:RF.srcOf W.T kt Γ it=some src)(I:Inv X pins σ H st)(sm:Sm X.K W M S H ρ σ)
 (g:GlG X.K W ra E M H (RF.compI n src is one t bd a0 ρ S) Q):CpGoal X tg it n σ H gt (tT X.K W E0 t) (tBd X.K W ra bd) b0 Q:=by
 obtain⟨hbl,g⟩:=GlG.guard g
 have dyn:∀{src:RF.Src},(if RF.noSet it=true then some (RF.Src.dyn (kt.e Γ it)) else none)=some src->GlG X.K W ra E M H (RF.compS n src is one t bd a0 ρ S) Q->CpGoal X tg it n σ H gt (tT X.K W E0 t) (tBd X.K W ra bd) b0 Q:=fun {src} h g=>by
  split at h
  ·cases h
   exact dyn_cp hT hg hup hbl r0 (KO.e rfl C it) I sm g
  ·cases h
 unfold RF.srcOf at hs
 split at hs
 ·rename_i r pr a pc
  split at hs
  ·rename_i hr
   obtain⟨rfl,hgl,hp⟩:=hr
   cases hs
   have ha:=KO.e rfl C a
   have args:PA X [a] (tCons (tE X.K W E (kt.e Γ a)) tNil):=pa_cons ha pa_nil (star_plain hp)
   have hPI:PI X tg (.Call (.Name "range" pr) [a] [] pc) (iRng1 (tCons (tE X.K W E (kt.e Γ a)) tNil)):=pi_range1 (C.gl hgl).1 (C.top.blt _ (by simp [bNames])) args (by rw [star_plain hp];rfl)
   refine⟨_,hPI,?_⟩
   unfold RF.compS at g
   dsimp only at g
   refine seqG sm g fun M1 H1 d u S1 s1 u1 r1 g1=>?_
   cases d with
   | int j=>
    obtain⟨hz,g1⟩:=GlG.guard g1
    unfold RF.rangeOk at hz
    simp only [Bool.and_eq_true,decide_eq_true_eq] at hz
    cases r1
    exact⟨j,rfl,hz.1.1,hz.1.2,cp_gen wk_range.n hg hup hbl (s1.inner n) trivial (r0 _ _) (GlB.noEx g1)⟩
   | _=>exact g1.elim
  ·split at hs
   ·rename_i hr
    obtain⟨rfl,hgl,hp⟩:=hr
    cases hs
    have args:PA X [a] (tCons (tE X.K W E (kt.e Γ a)) tNil):=pa_cons (KO.e rfl C a) pa_nil (star_plain hp)
    unfold RF.compS at g
    dsimp only at g
    cases ev:kt.e Γ a ρ S with
    | bad=>rw [ev] at g;exact g.elim
    | ex y p S1=>
     rw [ev] at g
     cases one with
     | true=>obtain⟨y,py,rfl⟩:=hT;exact⟨_,pi_gone (pe_callTy call_never (C.gl hgl).1 (C.top.blt _ (by simp [bNames])) PyProof.Rows.boot_enumerate args (by decide +kernel) (C.gl hgl).2 (star_plain hp) (star_none rfl)),tG_ex sm ev g⟩
     | false=>obtain⟨ts,kk,py,rfl⟩:=hT;exact⟨_,pi_enum (C.gl hgl).1 (C.top.blt _ (by simp [bNames])) args (by rw [star_plain hp];rfl),tG_ex sm ev g⟩
    | ok x S1=>
     rw [ev,RF.R.bind_ok] at g
     cases x with
     | ref m=>
      dsimp only at g
      split at g
      ·rename_i xs hS
       obtain⟨ho,g⟩:=GlG.guard g
       cases one with
       | true=>cases ho
       | false=>
        obtain⟨ts,kk,py,rfl⟩:=hT
        refine⟨_,pi_enum (C.gl hgl).1 (C.top.blt _ (by simp [bNames])) args (by rw [star_plain hp];rfl),tG_ok sm ev fun M1 H1 u s1 u1 r1=>?_⟩
        obtain⟨q,rfl,ea⟩:=rel_ref r1
        have hi:RF.itemsOf S1 (.ref m)=some xs:=by unfold RF.itemsOf;dsimp only;rw [hS]
        obtain⟨vs,h1,h2⟩:=s1.con.items hi ea
        exact⟨q,rfl,⟨vs,h1⟩,cp_gen wk_enum hg hup hbl (s1.inner n) ⟨ea,hi⟩ (r0 _ _) (GlB.noEx (g.up u1))⟩
      ·exact g.elim
     | _=>exact g.elim
   ·exact dyn hs g
 ·rename_i r pr a b pc
  split at hs
  ·rename_i hr
   obtain⟨rfl,hgl,hp1,hp2⟩:=hr
   cases hs
   have args:PA X [a,b] (tCons (tE X.K W E (kt.e Γ a)) (tCons (tE X.K W E (kt.e Γ b)) tNil)):=pa_cons (KO.e rfl C a) (pa_cons (KO.e rfl C b) pa_nil (star_plain hp2)) (star_plain hp1)
   have plb:(backTo pc (starEach [b] X.env)).any (·.1)=false:=star_none (by simp [hp2])
   unfold RF.compS at g
   dsimp only at g
   have fin:∀{M1:List Addr} {H1:Hp} {x y:D} {u v:V} {S2:Store},Sm X.K W M1 S2 H1 ρ σ->RelD M1 H1 x u->RelD M1 H1 y v->GlG X.K W ra E M1 H1 (match x with
    | .kt p=>match W.T.kts.lookup p with
     | some zs=>match y with
      | .tup ys=>RF.guardR (!one&&decide (zs.length<=ys.length)) (RF.noEx (RF.compF (fun _=>true) is one t bd (RF.inner n ρ) (RF.zipL zs ys) a0 S2))
      | .ref m=>match S2[m]? with
       | some (.lst ys)=>RF.guardR (!one&&decide (zs.length<=ys.length)) (RF.noEx (RF.compF (RF.stands y ys) is one t bd (RF.inner n ρ) (RF.zipL zs ys) a0 S2))
       | _=>.bad
      | _=>.bad
     | none=>.bad
    | _=>.bad) Q->one=false/\∃a' l zs bb ys,[u,v]=[V.ref a',.ref l]/\(∀H,SqT X.K H a' (zs.map V.str))/\SqB bb X.K H1 l ys/\CpW (Itz bb X.K zs l) gt (tT X.K W E0 t) (tBd X.K W ra bd) (fun a _ H2=>Q a H2) b0 (List.replicate n none++σ) H1:=fun {M1 H1 x y u v S2} s1 rx ry g=>by
    split at g
    ·rename_i p
     cases rx
     split at g
     ·rename_i zs hz
      obtain⟨_,hK⟩:=C.top.kt p zs hz
      split at g
      ·rename_i ys
       obtain⟨ho,g⟩:=GlG.guard g
       simp only [Bool.and_eq_true,decide_eq_true_eq,Bool.not_eq_true'] at ho
       obtain⟨q,vs,rfl,hq,hv⟩:=rel_tup ry
       refine⟨ho.1,p,q,zs,false,vs,rfl,hK,SqT.of hq,cp_gen (ok:=fun M S H=>RelD M H (.tup ys) (.ref q)) (wk_zip (b:=false) (l:=q) ho.2 (fun M S H _ h=>?_) fun M S H M' S' H' h u _ _=>h.up u) hg hup hbl (s1.inner n) ry (r0 _ _) (GlB.noEx g)⟩
       obtain⟨q',vs',e,h1,h2⟩:=rel_tup h
       cases e
       exact⟨vs',SqT.of h1,h2⟩
      ·rename_i m
       split at g
       ·rename_i ys hS
        obtain⟨ho,g⟩:=GlG.guard g
        simp only [Bool.and_eq_true,decide_eq_true_eq,Bool.not_eq_true'] at ho
        obtain⟨q,rfl,ea⟩:=rel_ref ry
        have hi:RF.itemsOf S2 (.ref m)=some ys:=by unfold RF.itemsOf;dsimp only;rw [hS]
        obtain⟨vs,h1,h2⟩:=s1.con.items hi ea
        exact⟨ho.1,p,q,zs,true,vs,rfl,hK,h1,cp_gen (ok:=fun M S H=>M[m]?=some q/\RF.itemsOf S (.ref m)=some ys) (wk_zip (b:=true) (l:=q) ho.2 (fun M S H c h=>c.items h.2 h.1) fun M S H M' S' H' h u _ hc=>⟨pre_get u.pre h.1,of_decide_eq_true hc⟩) hg hup hbl (s1.inner n) ⟨ea,hi⟩ (r0 _ _) (GlB.noEx g)⟩
       ·exact g.elim
      ·exact g.elim
     ·exact g.elim
    ·exact g.elim
   cases one with
   | true=>
    obtain⟨y,py,rfl⟩:=hT
    refine⟨_,pi_gone (pe_callTy call_never (C.gl hgl).1 (C.top.blt _ (by simp [bNames])) PyProof.Rows.boot_zip args (by decide +kernel) (C.gl hgl).2 (star_plain hp1) plb),?_⟩
    exact seqG sm g fun M1 H1 x u S1 s1 u1 r1 g1=>seqG s1 g1 fun M2 H2 y v S2 s2 u2 r2 g2=>by cases (fin s2 (r1.up u2) r2 g2).1
   | false=>
    obtain⟨ts,kk,py,rfl⟩:=hT
    refine⟨_,pi_zip (C.gl hgl).1 (C.top.blt _ (by simp [bNames])) args (star_plain hp1) plb,?_⟩
    exact seqG sm g fun M1 H1 x u S1 s1 u1 r1 g1=>seqG s1 g1 fun M2 H2 y v S2 s2 u2 r2 g2=>(fin s2 (r1.up u2) r2 g2).2
  ·exact dyn hs g
 ·exact dyn hs g
end
theorem src_fold {T:Tab}{it:Expr}{src:RF.Src}(h:RF.srcOf T kt Γ it=some src)(env:Env):∀v,foldedSetIterable it env v=pure v:=by
 have no:RF.noSet it=true->∀v,foldedSetIterable it env v=pure v:=fun hn v=>by cases it<;>first | rfl | (simp [RF.noSet] at hn)
 unfold RF.srcOf at h
 split at h
 ·intro v;rfl
 ·intro v;rfl
 ·split at h
  ·rename_i hn;exact no hn
  ·cases h
def tL {α β:Type}(K:PySem.W.Frag)(W:Adr)(ra:List Addr->Hp->α->β->Prop)(ob:β->HO)(E:XK)(c:RF.C α):TE:=fun σ H Q=>tG K W ra E c σ H fun ys H2=>∀p,H2 p=none->Q (.ref p) (upd H2 p (ob ys))
theorem upd_comm {H:Hp}{a b:Addr}{x y:HO}(h:a≠b):upd (upd H a x) b y=upd (upd H b y) a x:=by
 funext c
 unfold upd
 by_cases h1:c=a<;>by_cases h2:c=b
 ·exact absurd (h1.symm.trans h2) h
 ·subst h1;simp [h2]
 ·subst h2;simp [h1]
 ·simp [h1,h2]
structure CpE (X:Cx)(W:Adr)(kt:RF.Kit)(Γ:RF.Gm){α β:Type}(e:Expr)(ra:List Addr->Hp->α->β->Prop)(ob:β->HO)(a0:α)(b0:β)(c:RF.C α):Prop where
 up:UpC ra
 nil:∀M H,ra M H a0 b0
 ex:∃sc tg it ifs mk inn xs bd src is one t gt,Cpr X e sc tg it ifs mk inn/\Mks X.prog X.w β ob b0 mk/\RF.compOk sc Γ.sc xs (RF.shade xs Γ.N)=true/\RF.shadeOk sc xs Γ.N=true/\RF.srcOf W.T kt Γ it=some src/\TgOne tg one/\tgOk X W is one gt/\c=RF.compI xs.length src is one t bd a0 /\
  (∀Ca s H fp,PG (blkN X sc xs (RF.shade xs Γ.N) Ca s H fp) tg gt)/\(∀Ca s H fp,PF (blkN X sc xs (RF.shade xs Γ.N) Ca s H fp) ifs (tT X.K W E0 t))/\(∀Ca s H fp D,PB (blkN X sc xs (RF.shade xs Γ.N) Ca s H fp) D ob (inn D (blkN X sc xs (RF.shade xs Γ.N) Ca s H fp).env) (tBd X.K W ra bd)) /\
  (∃p0,∀u,evalThenUse e X.env u=(do let _ <-comprehension e sc X.env p0 mk false (eval it X.env) (some u)))
 sw:∀y py l,∃bb:Bool,swapsWith e (some (.Name y py)) l X.env=pure bb/\(bb=true->X.env.kindOf y=some .local)
theorem hM_of (C:CxK X W Γ E cl k){sc:Scope}{xs:List Str}(hsh:RF.shadeOk sc xs Γ.N=true):(∀(j:Nat) (y:Str),(RF.shade xs Γ.N)[j]?=some y->(∃p∈sc.names,p.1=y)->X.N[j]?=some y)/\(RF.shade xs Γ.N).length=X.N.length:=
 ⟨fun j y h1 h2=>by rw [C.N];exact shade_at hsh j y h1 h2,by rw [C.N];unfold RF.shade;simp⟩
theorem comp_pe (C:CxK X W Γ E cl k)(KO:KitE kt W.T cl k){α β:Type}{ra:List Addr->Hp->α->β->Prop}{ob:β->HO}{a0:α}{b0:β}{e:Expr}{c:RF.C α}(h:CpE X W kt Γ e ra ob a0 b0 c):PE X e (tL X.K W ra ob E c):=by
 obtain⟨sc,tg,it,ifs,mk,inn,xs,bd,src,is,one,t,gt,cp,hmk,hok,hsh,hs,hT,hg,rfl,hG,ht,hb,_⟩:=h.ex
 have up:=h.up
 have nil:=h.nil
 intro pins st σ H Q I ⟨M,ρ,S,sm,g⟩
 have goal:=src_cp (tg:=tg) C KO hT hg up nil hs I sm (Q:=fun ys H2=>∀p,H2 p=none->Q (.ref p) (upd H2 p (ob ys))) g
 obtain⟨hM,hlen⟩:=hM_of C hsh
 obtain⟨wi,hi,hw⟩:=goal
 exact pe_comp C.calm cp hmk (comp_lcOk hok C.kin) hM hlen hi hG ht hb (src_fold hs X.env) pins st σ H Q I hw
theorem genG_parts {α:Type}{T:Tab}{Γ':RF.Gm}{n:Nat}{tg it:Expr}{ifs:List Expr}{bd f:α->RF.C α}(h:RF.genG T kt Γ Γ' n tg it ifs bd=some f):∃src is one t,RF.srcOf T kt Γ it=some src/\RF.tgSlots Γ' tg=some (is,one)/\RF.ifsG kt Γ' ifs=some t/\f=RF.compI n src is one t bd:=by
 unfold RF.genG at h
 split at h
 ·rename_i s is one t h1 h2 h3
  cases h
  exact⟨s,is,one,t,h1,h2,h3,rfl⟩
 ·cases h
theorem blkG_parts {sc:Scope}{xs:List Str}{Γ':RF.Gm}(h:RF.blkG Γ sc xs=some Γ'):RF.compOk sc Γ.sc xs (RF.shade xs Γ.N)=true/\RF.shadeOk sc xs Γ.N=true/\Γ'=⟨xs++RF.shade xs Γ.N,sc,false⟩:=by
 unfold RF.blkG at h
 split at h
 ·rename_i z;cases h;exact⟨z.1,z.2,rfl⟩
 ·cases h
theorem upc_list:UpC RelDs:=fun _ _ _ _ _ _ r u=>r.up u
theorem upc_dict:UpC (fun M H=>Paired (KPair ofKeys M H)):=fun _ _ _ _ _ _ r u=>Paired.up r u
theorem comp_parts (C:CxK X W Γ E cl k)(KO:KitE kt W.T cl k){e:Expr}{c:RF.C (List D)}(h:RF.compG W.T kt Γ e=some c):CpE X W kt Γ e RelDs HO.lst [] [] c:=by
 unfold RF.compG at h
 split at h
 ·rename_i elt tg it ifs sc p
  obtain⟨Γ',h1,h⟩:=Option.bind_eq_some_iff.mp h
  obtain⟨hok,hsh,rfl⟩:=blkG_parts h1
  obtain⟨f,h2,rfl⟩:=Option.map_eq_some_iff.mp h
  obtain⟨src,is,one,t,h3,h4,h5,rfl⟩:=genG_parts h2
  obtain⟨gt,hg,hG⟩:=blk_tg C hsh hok h4
  exact⟨upc_list,fun _ _=>.nil,⟨sc,tg,it,ifs,_,_,_,_,src,is,one,t,gt,cpr_l,mk_list,hok,hsh,h3,tgOne_of h4,hg,rfl,hG,fun Ca s H fp=>blk_ifs C KO hsh h5 Ca s H fp,fun Ca s H fp D=>PB.imp (pb_list (KO.e rfl (C.blk hsh Ca s H fp) elt)) tb_list,⟨_,fun _=>rfl⟩⟩,fun y py l=>⟨_,rfl,fun z=>by
   simp only [Bool.and_eq_true] at z
   exact eq_of_beq z.1.1.2⟩⟩
 ·cases h
theorem compD_parts (C:CxK X W Γ E cl k)(KO:KitE kt W.T cl k){e:Expr}{c:RF.C (List (D×D))}(h:RF.compD W.T kt Γ e=some c):CpE X W kt Γ e (fun M H=>Paired (KPair ofKeys M H)) HO.dT [] [] c:=by
 unfold RF.compD at h
 split at h
 ·rename_i kx vx tg it ifs sc p
  obtain⟨Γ',h1,h⟩:=Option.bind_eq_some_iff.mp h
  obtain⟨hok,hsh,rfl⟩:=blkG_parts h1
  obtain⟨f,h2,rfl⟩:=Option.map_eq_some_iff.mp h
  obtain⟨src,is,one,t,h3,h4,h5,rfl⟩:=genG_parts h2
  obtain⟨gt,hg,hG⟩:=blk_tg C hsh hok h4
  exact⟨upc_dict,fun _ _=>.nil,⟨sc,tg,it,ifs,_,_,_,_,src,is,one,t,gt,cpr_d,mk_dict,hok,hsh,h3,tgOne_of h4,hg,rfl,hG,fun Ca s H fp=>blk_ifs C KO hsh h5 Ca s H fp,fun Ca s H fp D=>PB.imp (pb_dict C.units1 (KO.e rfl (C.blk hsh Ca s H fp) kx) (KO.e rfl (C.blk hsh Ca s H fp) vx)) tb_dict,⟨_,fun _=>rfl⟩⟩,fun y py l=>⟨_,rfl,fun z=>by
   simp only [Bool.and_eq_true] at z
   exact eq_of_beq z.1.1.2⟩⟩
 ·cases h
theorem sn_comp (C:CxK X W Γ E cl k)(KO:KitE kt W.T cl k){e:Expr}{c:RF.C (List D)}(h:RF.compG W.T kt Γ e=some c):PE X e (tE X.K W E fun ρ S=>(c ρ S).bind fun ys S1=>RF.newO (.lst ys) S1):=by
 refine (comp_pe C KO (comp_parts C KO h)).imp fun σ H Q ⟨M,ρ,S,sm,g⟩=>?_
 exact seqG (c:=c) sm g fun M1 H1 ys vs S1 s1 u1 r1 g1=>gl_newL g1 s1.con r1
theorem sn_compD (C:CxK X W Γ E cl k)(KO:KitE kt W.T cl k){e:Expr}{c:RF.C (List (D×D))}(h:RF.compD W.T kt Γ e=some c):PE X e (tE X.K W E fun ρ S=>(c ρ S).bind fun ys S1=>RF.newO (.dic ys) S1):=by
 refine (comp_pe C KO (compD_parts C KO h)).imp fun σ H Q ⟨M,ρ,S,sm,g⟩=>?_
 refine seqG (c:=c) sm g fun M1 H1 ys vs S1 s1 u1 r1 g1 p hp=>?_
 have u2:=up_new (M:=M1) (o:=.dT vs) hp
 exact GlG.at_ g1 (s1.con.new (o:=.dic ys) hp rfl (.inr ⟨vs,upd_same,Paired.up r1 u2⟩)) u2 (new_at s1.con)
theorem sn_all (C:CxK X W Γ E cl k)(KO:KitE kt W.T cl k){e:Expr}{c:RF.C (List D)}{pf:Pos}(h:RF.compG W.T kt Γ e=some c)(hp:RF.plainE e=true)(hg:RF.isGl Γ "all" = true):PE X (.Call (.Name "all" pf) [e] [] pos) (tE X.K W E (RF.allE c)):=by
 obtain⟨g1,g2⟩:=C.gl hg
 refine (pe_callB (call_allL C.calm) g1 (C.top.blt _ (by simp [bNames])) boot_all (pa_cons (comp_pe C KO (comp_parts C KO h)) pa_nil (star_plain hp)) (by decide +kernel) g2 (star_plain hp) (star_none rfl)).imp fun σ H Q ⟨M,ρ,S,sm,g⟩=>?_
 refine seqG (c:=c) sm g fun M1 H1 ys vs S1 s1 u1 r1 g1 p hp=>?_
 split at g1
 ·rename_i bs hb
  refine⟨p,bs,rfl,?_,GlG.at_ g1 (s1.con.fresh hp) (up_fresh hp) (.bl _)⟩
  rw [<-bools_rel r1 hb]
  exact SqL.of upd_same
 ·exact g1.elim
end
end L2
namespace L2
open PySem PySem.Spec PyProof.Rows
open RF (D O Store Tab)
section
variable {X:Cx}{W:Adr}{Γ:RF.Gm}{E:XK}{cl:RF.Calls}{k:Nat}{kt:RF.Kit}
theorem all_mem {es:List Expr}{f:Expr->RF.C D}(h:∀e,PE X e (tE X.K W E (f e))):∀e∈es,PE X e (tE X.K W E (f e)):=fun e _=>h e
theorem Cn.grown {K:PySem.W.Frag}{M:List Addr}{S:Store}{H H1:Hp}{P:Addr}{q:Str}(c:Cn K W M S H)(hW:(P,q)∈W.tb)(hu:∀p∈W.tb,p.1=P->p.2=q)(gr:Grown P H H1)(t1:Tbl H1 P q):Cn K W M S H1/\Up M H M H1:=by
 have ht:=c.tbl (P,q) hW
 obtain⟨ps,hp,_⟩:=ht
 have u:Up M H M H1:=.of List.prefix_rfl (fun b xs h=>gr b _ (fun z=>by subst z;rw [hp] at h;cases h) h) fun b o u h=>gr b _ (fun z=>by subst z;rw [hp] at h;cases h) h
 refine⟨⟨c.len,c.nod,c.sep,fun i o a h1 h2=>?_,fun p hq=>?_⟩,u⟩
 ·have r:=c.at_ i o a h1 h2
  cases o with
  | rol xs=>
   obtain⟨vs,g1,g2⟩:=r
   rcases g1 with⟨o1,g1⟩ | g1
   ·exact⟨vs,.inl ⟨o1,gr _ _ (fun z=>by rw [z,hp] at g1;cases g1) g1⟩,g2.up u⟩
   ·exact⟨vs,.inr g1,g2.up u⟩
  | lst xs=>exact r.up u fun v h=>gr _ _ (fun z=>by obtain⟨_,h,_⟩:=r;rw [z,hp] at h;cases h) h
  | dic xs=>exact r.up u fun v h=>gr _ _ (fun z=>by rcases r with⟨_,h,_⟩|⟨_,h,_⟩<;>(rw [z,hp] at h;cases h)) h
  | exc x q=>exact r.up u fun v h=>gr _ _ (fun z=>by obtain⟨_,_,h,_⟩:=r;rw [z,hp] at h;cases h) h
  | obj cc xs=>exact r.up u fun v h=>gr _ _ (fun z=>by obtain⟨_,_,h,_⟩:=r;rw [z,hp] at h;cases h) h
 ·by_cases z:p.1=P
  ·rw [z,hu p hq z];exact t1
  ·obtain⟨qs,e1,e2,e3⟩:=c.tbl p hq
   refine⟨qs,gr _ _ z e1,e2,fun pos cv y=>?_⟩
   obtain⟨c2,y1,y2⟩:=e3 pos cv y
   exact⟨c2,y1,gr _ _ (fun y=>by rw [y,hp] at y2;cases y2) y2⟩
theorem Cn.frzX {K:PySem.W.Frag}{M:List Addr}{S:Store}{H:Hp}{Dx:Addr}{fs:List (Str×V)}{od:Obj}(c:Cn K W M S H)(hp:H Dx=some (.xd fs)):Cn K W M S (upd H Dx (.frz od (.xd fs)))/\Up M H M (upd H Dx (.frz od (.xd fs))):=by
 have gr:∀b o,b≠Dx->H b=some o->upd H Dx (.frz od (.xd fs)) b=some o:=fun b o z h=>by rw [upd_ne z];exact h
 have u:Up M H M (upd H Dx (.frz od (.xd fs))):=up_put (nofix hp rfl)
 refine⟨⟨c.len,c.nod,c.sep,fun i o a h1 h2=>?_,fun p hq=>(c.tbl p hq).grown gr hp nofun nofun⟩,u⟩
 have r:=c.at_ i o a h1 h2
 cases o with
 | rol xs=>
  obtain⟨vs,g1,g2⟩:=r
  rcases g1 with⟨o1,g1⟩ | g1
  ·exact⟨vs,.inl ⟨o1,gr _ _ (fun z=>by rw [z,hp] at g1;cases g1) g1⟩,g2.up u⟩
  ·exact⟨vs,.inr g1,g2.up u⟩
 | lst xs=>exact r.up u fun v h=>gr _ _ (fun z=>by obtain⟨_,h,_⟩:=r;rw [z,hp] at h;cases h) h
 | dic xs=>exact r.up u fun v h=>gr _ _ (fun z=>by rcases r with⟨_,h,_⟩|⟨_,h,_⟩<;>(rw [z,hp] at h;cases h)) h
 | exc x q=>exact r.up u fun v h=>gr _ _ (fun z=>by obtain⟨_,_,h,_⟩:=r;rw [z,hp] at h;cases h) h
 | obj cc xs=>exact r.up u fun v h=>gr _ _ (fun z=>by obtain⟨_,_,h,_⟩:=r;rw [z,hp] at h;cases h) h
theorem met_ok (KO:KitE kt W.T cl k)(C:CxK X W Γ E cl k)(hg:RF.isGl Γ "_law_met" = true)(args:List Expr)(pf pos:Pos):PE X (.Call (.Name "_law_met" pf) args [] pos) (tE X.K W E (RF.metG W.T kt Γ args)):=by
 unfold RF.metG
 split
 ·rename_i b sc pl
  split
  ·rename_i hh
   obtain⟨hl,hb⟩:=hh
   obtain⟨c,P,ft,Wa,h1,h1u,h2,h3,h4,h5,T,h7,h8,h9⟩:=C.lamK hl
   obtain⟨g1,_⟩:=C.gl hg
   have ok:lamOk sc X.env.scope=true:=by
    unfold RF.lamB at hb
    unfold lamOk
    rw [Bool.and_eq_true] at hb ⊢
    refine⟨hb.1,?_⟩
    have hb2:=hb.2
    rw [List.all_eq_true] at hb2 ⊢
    intro p hp
    have z:=hb2 p hp
    rcases C.kin p.1 with e | ⟨_,e⟩
    ·rw [e];exact z
    ·rw [e];simp
   refine (pe_met (k:=k+1) (tb:=fun E'=>tE X.K W E' (kt.e ⟨Γ.N,sc,false⟩ b)) T g1 h7 h8 h2 h3 h4 h5 ok (fun f c' A outer s' H' E' hr'=>?_)).imp fun σ H Q ⟨M,ρ,S,s,g⟩=>?_
   ·exact KO.e rfl (X:=lamCx X (X.env.qual ++ "<lambda>") sc f c' A outer s' H' E') (Γ:=⟨Γ.N,sc,false⟩) (E:=E') ⟨C.N,C.nd,Kin.refl _,rfl,hr',passF flies_lam,C.top,fun h=>by cases h⟩ b
   ·refine⟨s.con.tbl _ h1,fun H1 gr t1=>?_⟩
    obtain⟨cn1,u1⟩:=s.con.grown h1 h1u gr t1
    refine⟨M,ρ,S,s.to cn1 u1,?_⟩
    have g:GlG X.K W RelD E M H (RF.metR W.T.excs.length W.T.pay (kt.e ⟨Γ.N,sc,false⟩ b ρ S)) Q:=g
    cases ev:kt.e ⟨Γ.N,sc,false⟩ b ρ S with
    | ok v S1=>rw [ev] at g;exact fun M' H' _ c' u' _=>g M' H' .non c' (u1.trans u') .non
    | bad=>rw [ev] at g;exact g.elim
    | ex x p S1=>
     rw [ev] at g
     have g':=GlG.guard g
     clear g
     obtain⟨hz,g⟩:=g'
     rw [Bool.and_eq_true,decide_eq_true_eq] at hz
     obtain⟨hx,hpay⟩:=hz
     unfold RF.payOk at hpay
     have k1:=h9 x hx
     split at hpay
     ·rename_i ep
      refine⟨ep,fun M' H' c' u'=>⟨W.x x,rfl,k1,fun a o eo hd ha=>.inl ?_⟩⟩
      exact GlG.at_ g (c'.new ha rfl ⟨hx,o,upd_same,eo,hd⟩) (u1.trans (u'.trans (up_new ha))) (new_at c')
     ·rename_i f d ep
      refine⟨f,ep,fun M' H' v Dx c' u' rv hxd=>⟨W.x x,rfl,k1,fun a o eo hd ha=>.inr ⟨Dx,[(f,v)],?_,fun od=>?_⟩⟩⟩
      ·rw [upd_ne fun z=>by rw [z,ha] at hxd;cases hxd];exact hxd
      ·have na:a≠Dx:=fun z=>by rw [<-z,ha] at hxd;cases hxd
       obtain⟨c2,u2⟩:=c'.frzX (od:=od) hxd
       have ha2:upd H' Dx (.frz od (.xd [(f,v)])) a=none:=by rw [upd_ne na];exact ha
       have u3:=up_new (M:=M') (o:=excH o) ha2
       rw [upd_comm na]
       exact GlG.at_ g (c2.new ha2 rfl ⟨hx,o,upd_same,eo,f,Dx,od,v,ep,hd,by rw [upd_ne (Ne.symm na)];exact upd_same,(rv.up u2).up u3⟩) (u1.trans (u'.trans (u2.trans u3))) (new_at c2)
     ·cases hpay
  ·exact pe_bad
 ·exact pe_bad
theorem sn_fmt (ha:PE X a (tE X.K W E ca)):PE X (.FormattedValue a (-1) none pos) (tE X.K W E (RF.fmtE ca)):=
 (pe_fmtI ha).imp fun σ H Q ⟨M,ρ,S,s,g⟩=>seqG s g fun M1 H1 d u S1 s1 u1 r1 g1=>by
   split at g1
   ·obtain⟨hz,g1⟩:=GlG.guard g1
    cases r1
    exact⟨_,rfl,of_decide_eq_true hz,GlG.now g1 s1.con (.str _)⟩
   ·exact g1.elim
theorem PJ.imp {es:List Expr}{t t':TJ}(h:PJ X es t)(i:∀σ H acc Q,t' σ H acc Q->t σ H acc Q):PJ X es t':=fun pins s σ H acc Q I q=>h pins s σ H acc Q I (i σ H acc Q q)
def tJ (K:PySem.W.Frag)(W:Adr)(E:XK)(cs:List (RF.C D)):TJ:=fun σ H acc Q=>∃M ρ S,Sm K W M S H ρ σ/\GlG K W RelD E M H (RF.joinE cs acc ρ S) fun v H1=>∃y,v = .str y/\Q y H1
theorem sn_join {f:Expr->RF.C D}:∀{es:List Expr},(∀e∈es,PE X e (tE X.K W E (f e)))->PJ X es (tJ X.K W E (es.map f))
 | [],_=>PJ.imp pj_nil fun σ H acc Q ⟨M,ρ,S,s,g⟩=>by
  have g:GlG X.K W RelD E M H (RF.guardR (decide (acc.length<=sizeLine)) (.ok (.str acc) S)) fun v H1=>∃y,v = .str y/\Q y H1:=g
  obtain⟨hz,g⟩:=GlG.guard g
  obtain⟨y,e,q⟩:=GlG.now g s.con (.str acc)
  cases e
  exact⟨of_decide_eq_true hz,q⟩
 | e::es,h=>PJ.imp (pj_cons (h e List.mem_cons_self) (sn_join fun e he=>h e (List.mem_cons_of_mem _ he))) fun σ H acc Q ⟨M,ρ,S,s,g⟩=>by
  have g:GlG X.K W RelD E M H ((f e ρ S).bind fun x S1=>match x with
   | .str y=>RF.guardR (decide ((acc++y).length<=sizeLine)) (RF.joinE (es.map f) (acc++y) ρ S1)
   | _=>.bad) fun v H1=>∃y,v = .str y/\Q y H1:=g
  refine seqG s g fun M1 H1 a b S1 s1 u1 r1 g1=>?_
  cases a with
  | str y=>
   obtain⟨hz,g1⟩:=GlG.guard g1
   cases r1
   exact⟨y,rfl,of_decide_eq_true hz,M1,ρ,S1,s1,g1⟩
  | non=>exact g1.elim
  | bl _=>exact g1.elim
  | int _=>exact g1.elim
  | tup _=>exact g1.elim
  | ref _=>exact g1.elim
  | kt _=>exact g1.elim
theorem joinE_str:∀{cs:List (RF.C D)} {acc:Str} {ρ:RF.Env} {S S1:Store} {d:D},RF.joinE cs acc ρ S = .ok d S1->∃y,d = .str y
 | [],acc,ρ,S,S1,d,h=>by
  have h:RF.guardR (decide (acc.length<=sizeLine)) (.ok (.str acc) S)=RF.R.ok d S1:=h
  unfold RF.guardR at h
  split at h
  ·cases h;exact⟨_,rfl⟩
  ·cases h
 | c::cs,acc,ρ,S,S1,d,h=>by
  have h:((c ρ S).bind fun x S1=>match x with
   | .str y=>RF.guardR (decide ((acc++y).length<=sizeLine)) (RF.joinE cs (acc++y) ρ S1)
   | _=>.bad)=RF.R.ok d S1:=h
  cases ev:c ρ S with
  | bad=>rw [ev] at h;cases h
  | ex _ _ _=>rw [ev] at h;cases h
  | ok x S2=>
   rw [ev,RF.R.bind_ok] at h
   cases x with
   | str y=>
    have h:RF.guardR (decide ((acc++y).length<=sizeLine)) (RF.joinE cs (acc++y) ρ S2)=RF.R.ok d S1:=h
    unfold RF.guardR at h
    split at h
    ·exact joinE_str h
    ·cases h
   | non=>cases h
   | bl _=>cases h
   | int _=>cases h
   | tup _=>cases h
   | ref _=>cases h
   | kt _=>cases h
theorem sn_fstr {f:Expr->RF.C D}{e1 e2:Expr}{es:List Expr}(h:∀e∈e1::e2::es,PE X e (tE X.K W E (f e))):PE X (.JoinedStr (e1::e2::es) pos) (tE X.K W E (RF.joinE ((e1::e2::es).map f) Str.empty)):=
 (pe_fstr (sn_join h)).imp fun σ H Q ⟨M,ρ,S,s,g⟩=>⟨M,ρ,S,s,by
   cases ev:RF.joinE ((e1::e2::es).map f) Str.empty ρ S with
   | bad=>rw [ev] at g;exact g.elim
   | ex x p S1=>rw [ev] at g;exact g
   | ok d S1=>
    rw [ev] at g
    obtain⟨y,rfl⟩:=joinE_str ev
    intro M' H' b c' u' r'
    have q:=g M' H' b c' u' r'
    cases r'
    exact⟨y,rfl,q⟩⟩
theorem lenG_ok (KO:KitE kt W.T cl k)(C:CxK X W Γ E cl k){a:Expr}{pf pos:Pos}(hg:RF.isGl Γ "len" = true)(hp:RF.plainE a=true):PE X (.Call (.Name "len" pf) [a] [] pos) (tE X.K W E (RF.lenG W.T cl kt Γ a)):=by
 unfold RF.lenG
 split
 ·rename_i b hb
  unfold RF.setArg at hb
  split at hb
  ·rename_i s _ b' _
   split at hb
   ·rename_i z
    cases hb
    obtain⟨rfl,z1,z2⟩:=z
    unfold RF.isB at z1
    simp only [Bool.and_eq_true] at z1
    exact sn_lenSet C hg z1.1.1.1.1 (KO.e rfl C b) z2
   ·cases hb
  ·cases hb
 ·exact sn_len C hg (KO.e rfl C a) hp
theorem nodupB_of {l:List Str}(h:RF.nodupB l=true):l.Nodup:=nodup_of h
theorem callK_ok (KO:KitE kt W.T cl k)(C:CxK X W Γ E cl k)(x:Str)(args:List Expr)(kws:List Keyword)(pf pos:Pos):PE X (.Call (.Name x pf) args kws pos) (tE X.K W E (RF.callK W.T cl kt Γ x args kws)):=by
 have he:=fun e=>KO.e rfl C e
 unfold RF.callK
 split
 ·exact pe_bad
 ·rename_i hh
  simp only [not_or,Bool.not_eq_false,Bool.not_eq_true] at hh
  obtain⟨hg,hp,hn,hs,_⟩:=hh
  split
  ·rename_i c i _ hc hi
   split
   ·rename_i hM
    obtain⟨h1,h2,h3,h4⟩:=hM
    cases args with
    | nil=>cases hn
    | cons e es=>
     refine sn_makeK C hc hi h1 h2 hg he hp hs ?_ (nodupB_of h4)
     rw [List.all_eq_true] at h3 ⊢
     intro q hq
     obtain⟨kw,k1,k2⟩:=List.mem_filterMap.mp hq
     have:=h3 kw k1
     rw [List.any_eq_true] at this ⊢
     obtain⟨p,p1,p2⟩:=this
     refine⟨p,p1,decide_eq_true ?_⟩
     have p2:=of_decide_eq_true p2
     rw [k2] at p2
     exact Option.some.inj p2
   ·exact pe_bad
  ·exact pe_bad
theorem isB_gl {t:Str}(h:RF.isB W.T Γ t=true):RF.isGl Γ t=true:=by
 unfold RF.isB at h
 simp only [Bool.and_eq_true] at h
 exact h.1.1.1.1
theorem callG_ok (KO:KitE kt W.T cl k)(C:CxK X W Γ E cl k)(x:Str)(args:List Expr)(pf pos:Pos):PE X (.Call (.Name x pf) args [] pos) (tE X.K W E (RF.callG W.T cl kt Γ x args)):=by
 have he:=fun e=>KO.e rfl C e
 unfold RF.callG
 split
 ·exact pe_bad
 ·rename_i hh
  simp only [not_or,Bool.not_eq_false] at hh
  obtain⟨hg,hp⟩:=hh
  split
  ·rename_i hx
   subst hx
   exact met_ok KO C hg args pf pos
  split
  ·rename_i i hi
   exact sn_call C hi hg (all_mem he) hp
  ·split
   ·rename_i c hc
    split
    ·rename_i i hi
     split
     ·rename_i hM
      exact sn_make C hc hi hM.1 hM.2 hg he hp
     ·exact pe_bad
    ·exact pe_bad
   ·split
    ·exact pe_bad
    ·split
     ·rename_i hx
      subst hx
      split
      ·rename_i a t pt
       have hpa:RF.plainE a=true:=by
        simp only [List.all_cons,Bool.and_eq_true] at hp
        exact hp.1
       split
       ·rename_i d hd
        split
        ·rename_i ht
         exact sn_isi C hg (isB_gl ht) hd (he a) hpa
        ·exact pe_bad
       ·unfold RF.isXG
        split
        ·rename_i ht
         subst ht
         split
         ·rename_i ht
          exact sn_isv C hg (isB_gl ht) (he a) hpa
         ·exact pe_bad
        ·split
         ·rename_i c hc
          split
          ·rename_i ht
           exact sn_isx C hg ht hc (he a) hpa
          ·exact pe_bad
         ·exact pe_bad
      ·exact pe_bad
     ·split
      ·rename_i a
       have hpa:RF.plainE a=true:=by simpa using hp
       have gen:PE X (.Call (.Name x pf) [a] [] pos) (tE X.K W E (match RF.bOf x 1 with | some b=>RF.callE (RF.callB b) [kt.e Γ a] | none=>RF.badC)):=by
        split
        ·rename_i b hb
         exact sn_builtin (es:=[a]) (f:=kt.e Γ) C hb hg (all_mem he) hp
        ·exact pe_bad
       split
       ·rename_i hx
        subst hx
        exact lenG_ok KO C hg hpa
       ·split
        ·rename_i hx
         subst hx
         exact sn_str C hg (he a) hpa
        split
        ·rename_i hx
         subst hx
         exact sn_int C hg (he a) hpa
        split
        ·rename_i c hc
         split
         ·rename_i hx
          subst hx
          exact sn_all C KO hc hpa hg
         ·exact gen
        ·exact gen
      ·split
       ·rename_i b hb
        exact sn_builtin C hb hg (all_mem he) hp
       ·exact pe_bad
theorem constE_ok (c:PySem.Const)(kd:Nat)(p:Pos):PE X (.Constant c kd p) (tE X.K W E (RF.constE c)):=by
 cases c with
 | none=>exact sn_con (t:=tC .non) pe_non fun _ _=>.non
 | bool b=>exact sn_con (t:=tC (.bl b)) pe_bl fun _ _=>.bl b
 | int i=>exact sn_con (t:=tC (.int i)) pe_int fun _ _=>.int i
 | str x=>exact sn_con (t:=tC (.str x)) pe_str fun _ _=>.str x
 | _=>exact pe_bad
theorem boolE_ok (he:∀e,PE X e (tE X.K W E (kt.e Γ e)))(op:BoolOp)(es:List Expr)(p:Pos):PE X (.BoolOp op es p) (tE X.K W E (RF.boolE kt Γ op p es)):=by
 match es with
 | []=>exact pe_bad
 | [a]=>exact pe_one (he a)
 | a::b::r=>cases op with
  | And=>exact sn_and (he _) (he _)
  | Or=>exact sn_or (he _) (he _)
theorem cmpG_ok (he:∀e,PE X e (tE X.K W E (kt.e Γ e)))(C:CxK X W Γ E cl k)(a:Expr)(ops:List CmpOp)(bs:List Expr)(p:Pos):PE X (.Compare a ops bs p) (tE X.K W E (RF.cmpG W.T kt Γ a ops bs)):=by
 unfold RF.cmpG
 split
 ·rename_i op b
  split
  ·rename_i hs
   unfold RF.cmp1G
   split
   ·rename_i kvs hk
    obtain⟨q,h1,h2,h3,_⟩:=kd_get C hk
    split
    ·rename_i ho;subst ho;exact sn_kin op_kin h2 (he a) h1 (h3 _)
    ·split
     ·rename_i ho;subst ho;exact sn_kin op_knotin h2 (he a) h1 (h3 _)
     ·exact pe_bad
   ·obtain⟨r,h1,h2⟩:=cmp_ok (X:=X) (W:=W) (E:=E) C.units op
    exact sn_cmp h1 h2 (he a) (he b) (mark_no hs)
  ·exact pe_bad
 ·rename_i o1 o2 b c
  split
  ·rename_i hs
   obtain⟨r1,h1,h2⟩:=cmp_ok (X:=X) (W:=W) (E:=E) C.units o1
   obtain⟨r2,h3,h4⟩:=cmp_ok (X:=X) (W:=W) (E:=E) C.units o2
   exact sn_chain h1 h3 h2 h4 (he a) (he b) (he c) hs.2
  ·exact pe_bad
 ·exact pe_bad
theorem subG_ok (he:∀e,PE X e (tE X.K W E (kt.e Γ e)))(C:CxK X W Γ E cl k)(a b:Expr)(p:Pos):PE X (.Subscript a b p) (tE X.K W E (RF.subG W.T kt Γ a b)):=by
 have gen:∀b,RF.noSlice b=true->PE X (.Subscript a b p) (tE X.K W E (match RF.kdOfE W.T Γ a with | some kvs=>RF.kixE kvs (kt.e Γ b) | none=>RF.ixE (kt.e Γ a) (kt.e Γ b))):=fun b hs=>by
  split
  ·rename_i kvs hk
   obtain⟨q,h1,h2,_⟩:=kd_get C hk
   exact sn_kix h2 h1 (he b) hs
  ·exact sn_ix C (he _) (he _) hs
 cases b with
 | Slice lo hi st q=>cases st with
  | none=>exact sn_slice (he _) (fun e _=>he e) (fun e _=>he e)
  | some s=>exact pe_bad
 | _=>exact gen _ rfl
theorem fstrG_ok (he:∀e,PE X e (tE X.K W E (kt.e Γ e)))(es:List Expr)(p:Pos):PE X (.JoinedStr es p) (tE X.K W E (RF.fstrG kt Γ es)):=by
 unfold RF.fstrG
 split
 ·exact sn_fstr (fun e _=>he e)
 ·exact pe_bad
theorem clG_ok (KO:KitE kt W.T cl k)(C:CxK X W Γ E cl k)(f:Expr)(args:List Expr)(kws:List Keyword)(p:Pos):PE X (.Call f args kws p) (tE X.K W E (RF.clG W.T cl kt Γ f args kws p)):=by
 have he:=fun e=>KO.e rfl C e
 unfold RF.clG
 split
 ·split
  ·exact callG_ok KO C _ _ _ _
  ·exact callK_ok KO C _ _ _ _ _
 ·split
  ·rename_i h
   obtain⟨h0,h1,h2,h3,h4,h5⟩:=h
   cases kws with
   | nil=>exact sn_meth C (he _) (all_mem he) h2 h1 h3 h4 h5
   | cons _ _=>cases h0
  ·exact pe_bad
 ·exact pe_bad
theorem stepE_ok (KO:KitE kt W.T cl k)(C:CxK X W Γ E cl k)(e:Expr):PE X e (tE X.K W E (RF.stepE W.T cl kt Γ e)):=by
 have he:=fun e=>KO.e rfl C e
 cases e with
 | Constant c kd p=>exact constE_ok c kd p
 | Name x p=>exact sn_name C _
 | BinOp a op b p=>
  obtain⟨r,h1,h2⟩:=bin_ok (X:=X) (W:=W) (E:=E) op
  exact sn_bin h1 h2 (he a) (he b)
 | UnaryOp op a p=>cases op with
  | Not=>exact sn_not (he _)
  | _=>exact pe_bad
 | BoolOp op es p=>exact boolE_ok he op es p
 | Compare a ops bs p=>exact cmpG_ok he C a ops bs p
 | Tuple es kd p=>
  show PE X _ (tE X.K W E (if es.all RF.plainE=true then RF.tupE (es.map (kt.e Γ)) else RF.badC))
  split
  ·rename_i hp;exact sn_tup (all_mem he) hp
  ·exact pe_bad
 | List es p=>
  show PE X _ (tE X.K W E (if es.all RF.plainE=true then RF.lstE (es.map (kt.e Γ)) else RF.badC))
  split
  ·rename_i hp;exact sn_lst (all_mem he) hp
  ·exact pe_bad
 | Dict ks vs p=>
  show PE X _ (tE X.K W E (if ks.isEmpty=true/\vs.isEmpty=true then RF.dictE else RF.badC))
  split
  ·rename_i h
   cases ks with
   | cons _ _=>cases h.1
   | nil=>cases vs with
    | cons _ _=>cases h.2
    | nil=>exact sn_dict
  ·exact pe_bad
 | Attribute a f p=>
  show PE X _ (tE X.K W E (match RF.ixOf W.T.nams f with | some i=>if RF.noBase a=true then RF.fldE (fun c=>W.T.pay.lookup c==some f) (kt.e Γ a) i else RF.badC | none=>RF.badC))
  split
  ·rename_i i hi
   split
   ·rename_i hb;exact sn_fld C (he a) hi hb
   ·exact pe_bad
  ·exact pe_bad
 | Subscript a b p=>exact subG_ok he C a b p
 | ListComp el gs sc p=>
  show PE X _ (tE X.K W E (match RF.compG W.T kt Γ (.ListComp el gs sc p) with | some c=>fun ρ S=>(c ρ S).bind fun ys S1=>RF.newO (.lst ys) S1 | none=>RF.badC))
  split
  ·rename_i c hc;exact sn_comp C KO hc
  ·exact pe_bad
 | DictComp kx vx gs sc p=>
  show PE X _ (tE X.K W E (match RF.compD W.T kt Γ (.DictComp kx vx gs sc p) with | some c=>fun ρ S=>(c ρ S).bind fun ys S1=>RF.newO (.dic ys) S1 | none=>RF.badC))
  split
  ·rename_i c hc;exact sn_compD C KO hc
  ·exact pe_bad
 | FormattedValue a cv sp p=>
  show PE X _ (tE X.K W E (if cv = -1/\sp.isNone=true then RF.fmtE (kt.e Γ a) else RF.badC))
  split
  ·rename_i h
   obtain⟨rfl,h2⟩:=h
   cases sp with
   | none=>exact sn_fmt (he _)
   | some _=>cases h2
  ·exact pe_bad
 | JoinedStr es p=>exact fstrG_ok he es p
 | Call f args kws p=>exact clG_ok KO C f args kws p
 | _=>exact pe_bad
theorem testB_cmp1 (KO:KitE kt W.T cl k)(C:CxK X W Γ E cl k){a b:Expr}{op:CmpOp}{p:Pos}:PT X (.Compare a [op] [b] p) (tT X.K W E (RF.testB (RF.stepE W.T cl kt Γ (.Compare a [op] [b] p)))):=by
 have he:=fun e=>KO.e rfl C e
 show PT X _ (tT X.K W E (RF.testB (if RF.noSet b=true then RF.cmp1G W.T kt Γ a op b else RF.badC)))
 split
 ·rename_i hs
  unfold RF.cmp1G
  split
  ·rename_i kvs hk
   obtain⟨q,h1,h2,h3,_⟩:=kd_get C hk
   split
   ·rename_i ho;subst ho;exact sn_kinT op_kin h2 (he a) h1 (h3 _)
   ·split
    ·rename_i ho;subst ho;exact sn_kinT op_knotin h2 (he a) h1 (h3 _)
    ·intro pins s σ H Q I ⟨M,ρ,S,sm,g⟩
     exact g.elim
  ·obtain⟨r,h1,h2⟩:=cmp_ok (X:=X) (W:=W) (E:=E) C.units op
   exact sn_testCmp h1 h2 (he a) (he b) (mark_no hs)
 ·intro pins s σ H Q I ⟨M,ρ,S,sm,g⟩
  exact g.elim
theorem testB_cmp2 (KO:KitE kt W.T cl k)(C:CxK X W Γ E cl k){a b c:Expr}{o1 o2:CmpOp}{p:Pos}:PT X (.Compare a [o1,o2] [b,c] p) (tT X.K W E (RF.testB (RF.stepE W.T cl kt Γ (.Compare a [o1,o2] [b,c] p)))):=by
 have he:=fun e=>KO.e rfl C e
 show PT X _ (tT X.K W E (RF.testB (if RF.noSet b=true/\RF.noSet c=true then RF.chainE o1 o2 (kt.e Γ a) (kt.e Γ b) (kt.e Γ c) else RF.badC)))
 split
 ·rename_i hs
  obtain⟨r1,h1,h2⟩:=cmp_ok (X:=X) (W:=W) (E:=E) C.units o1
  obtain⟨r2,h3,h4⟩:=cmp_ok (X:=X) (W:=W) (E:=E) C.units o2
  exact sn_testChain h1 h3 h2 h4 (he a) (he b) (he c) hs.2
 ·intro pins s σ H Q I ⟨M,ρ,S,sm,g⟩
  exact g.elim
theorem stepT_w (KO:KitE kt W.T cl k)(C:CxK X W Γ E cl k)(op:BoolOp)(vs:List Expr)(p:Pos):PW X (.BoolOp op vs p) (tT X.K W E (RF.stepT W.T kt Γ (.BoolOp op vs p))):=by
 have ht:=fun e=>KO.t rfl C e
 have bad:∀{e:Expr},PW X e (tT X.K W E RF.badC):=fun {e} wh pins s σ H Q I h=>(tG_bad h).elim
 match vs with
 | []=>cases op<;>exact bad
 | [a]=>cases op with
  | And=>exact pw_and1 (ht a)
  | Or=>exact pw_or1 (ht a)
 | a::b::r=>cases op with
  | And=>exact sn_andT (ht a) (KO.w rfl C .And (b::r) p)
  | Or=>exact sn_orT (ht a) (KO.w rfl C .Or (b::r) p)
theorem stepT_ok (KO:KitE kt W.T cl k)(C:CxK X W Γ E cl k)(e:Expr):PT X e (tT X.K W E (RF.stepT W.T kt Γ e)):=by
 have he:=fun e=>KO.e rfl C e
 have ht:=fun e=>KO.t rfl C e
 cases e with
 | UnaryOp op a p=>cases op with
  | Not=>exact sn_notT (ht a)
  | _=>exact pt_bad
 | BoolOp op vs p=>exact (stepT_w KO C op vs p).pt
 | IfExp _ _ _ _=>exact pt_bad
 | Compare a ops bs p=>
  match ops,bs with
  | [op],[b]=>exact KO.c1 rfl C a op b p
  | [o1,o2],[b,c]=>exact KO.c2 rfl C a o1 o2 b c p
  | [],_=>exact pt_bad
  | [_],[]=>exact pt_bad
  | [_],_::_::_=>exact pt_bad
  | [_,_],[]=>exact pt_bad
  | [_,_],[_]=>exact pt_bad
  | [_,_],_::_::_::_=>exact pt_bad
  | _::_::_::_,_=>exact pt_bad
 | _=>exact sn_test (he _) fun _=>rfl
theorem kitE_ok (T:Tab)(cl:RF.Calls)(k:Nat):∀n,KitE (RF.kit T cl n) T cl k
 | 0=>⟨fun _ _ _=>pe_bad,fun _ _ _=>pt_bad,fun _ _ _ _ _=>fun wh pins s σ H Q I h=>(tG_bad h).elim,fun _ _ _ _ _ _=>fun pins s σ H Q I ⟨M,ρ,S,sm,g⟩=>g.elim,fun _ _ _ _ _ _ _ _=>fun pins s σ H Q I ⟨M,ρ,S,sm,g⟩=>g.elim⟩
 | n+1=>by
  have KO:=kitE_ok T cl k n
  refine⟨fun {X W Γ E} hT C e=>?_,fun {X W Γ E} hT C e=>?_,fun {X W Γ E} hT C op vs p=>?_,fun {X W Γ E} hT C a op b p=>?_,fun {X W Γ E} hT C a o1 o2 b c p=>?_⟩
  ·subst hT;exact stepE_ok KO C e
  ·subst hT;exact stepT_ok KO C e
  ·subst hT;exact stepT_w KO C op vs p
  ·subst hT;exact testB_cmp1 KO C
  ·subst hT;exact testB_cmp2 KO C
end
end L2
namespace L2
open PySem PySem.Spec PyProof.Rows
def TrcX (X:Cx)(H:Hp)(h:Heap)(a:Addr)(vs:Array Value):Prop:=Trc h a vs\/∃T oT ts,vs[1]?=some (.ref T)/\T≠a/\h.get? T=some oT/\oT.data = .fields ts/\ts[3]?=some (rawInt X.env.locals)/\X.s₀.heap.objs.size<=T/\H T=none
def FlyAt (X:Cx)(E:XK):Value->Shared->Prop:=fun e s=>∃σ H a C dx o vs,e = .ref a/\Inv X [] σ H s/\X.s₀.heap.get? a=none/\H a=none/\s.heap.get? a=some o/\o.cls = .ref C/\o.dict=dx/\o.data = .fields vs/\vs[2]?=some .none/\TrcX X H s.heap a vs/\E (.ref C) dx H
abbrev Cx.fly (X:Cx)(E:XK):Cx:={ X with xe:=FlyAt X E }
section
variable {X:Cx}{E:XK}
theorem flies_fly:Flies (X.fly E) E:=by
 intro pins σ H s a C dx o vs I h0 hH he hc hdx hd h2 ht hE
 exact⟨σ,H,a,C,dx,o,vs,rfl,(I.unwish).pins_of (fun p hp=>absurd hp (by simp)),h0,hH,he,hc,hdx,hd,h2,.inl ht,hE⟩
theorem fly_nx {nx:Addr->Sem Unit}{v3:Value}{e:Value}{s:Shared}{Q:Unit->Shared->Prop}{E':Value->Shared->Prop}(hex:X.ex=[])(hpn:X.pn=[])(hst:X.stack=X.env::X.outer)(hfr:X.env.frame=some X.env.locals)(hnx:∀a,NxT (model X.prog X.w) X.A a v3 (nx a))(F:FlyAt X E e s)
 (k:∀s2 σ H a C dx o vs T oT ts,e = .ref a->Inv X [] σ H s2->X.s₀.heap.get? a=none->H a=none->s2.heap.get? a=some o->o.cls = .ref C->o.dict=dx->o.data = .fields vs->vs[2]?=some .none->vs[1]?=some (.ref T)->T≠a->s2.heap.get? T=some oT->oT.data = .fields ts->ts[3]?=some v3->X.s₀.heap.objs.size<=T->H T=none->E (.ref C) dx H->Q () s2):
 ∃a,e = .ref a/\wpAny (model X.prog X.w) X.A (noteFrame (.ref a) X.env) (fun _ s1=>wpAny (model X.prog X.w) X.A (nx a) Q E' s1) E' s:=by
 obtain⟨σ,H,a,C,dx,o,vs,rfl,I,h0,hH,he,hc,hdx,hd,h2,ht,hE⟩:=F
 refine⟨a,rfl,?_⟩
 rcases ht with ht | ⟨T,oT,ts,t1,t2,t3,t4,t5,t6,t7⟩
 ·refine lft_noteV (base:=X.base) (env:=X.env) (outer:=X.outer) (hnx a) (by rw [<-hst];exact I.ok.frames) (by rw [<-hst];exact I.stack) hfr he hd ht fun h' T l=>?_
  have l':LftV v3 (frs X.stack) a o vs T s.heap h':=by rw [hst];exact l
  have J:=I.lft l' he hd hH h0 fun p hp=>absurd hp (by rw [hpn];simp)
  have h1:1<vs.size:=by
   rcases ht with z | ⟨_,_,_,z,_⟩<;>exact (Array.getElem?_eq_some_iff.mp z).1
  obtain⟨oT,ts,t1,t2,t3⟩:=l.trc
  refine k _ σ H a C dx _ _ T oT ts rfl J h0 hH l.exc hc hdx rfl (by rw [Array.getElem?_setIfInBounds_ne (by decide)];exact h2) (by simp [h1]) (fun z=>?_) t1 t2 t3 (Nat.le_trans I.sz l.big) (I.hok.free l.new) hE
  have:=l.new
  rw [z,he] at this
  cases this
 ·unfold noteFrame
  simp only [hfr]
  refine wpAny_bind (wpAny_field he hd t1 ?_)
  rw [if_pos (by simp)]
  refine wpAny_bind (wpAny_field t3 t4 t5 ?_)
  rw [if_pos (by simp)]
  have h3:3<ts.size:=(Array.getElem?_eq_some_iff.mp t5).1
  refine wpAny_pure (hnx a s o vs T oT ts _ _ he hd t1 t3 t4 h3 ?_)
  have gT:(s.heap.update T (Obj.mapFields (·.setIfInBounds 3 v3))).get? T=some { oT with data:=.fields (ts.setIfInBounds 3 v3) }:=by
   rw [Heap.get?_update_self _ t3 (Obj.isFreed_of_fields (Obj.data_mapFields t4 _)),mapF t4]
  have go:∀b ob,b≠T->s.heap.get? b=some ob->(s.heap.update T (Obj.mapFields (·.setIfInBounds 3 v3))).get? b=some ob:=fun b ob hb z=>by
   rw [Heap.get?_update_other _ _ (Ne.symm hb)];exact z
  have nl:T≠X.env.locals:=fun z=>by
   obtain⟨m,⟨ol,es,ep,e2,d2,_⟩,_⟩:=I.loc
   rw [<-z,t3] at e2
   cases e2
   rw [t4] at d2
   cases d2
  have nc:∀x c,X.env.cells.lookup x=some c->c≠T:=fun x c ec z=>by
   obtain⟨v,oc,e2,d2⟩:=I.cell x c ec
   rw [z,t3] at e2
   cases e2
   rw [t4] at d2
   cases d2
  have J:Inv X [] σ H { s with heap:=s.heap.update T (Obj.mapFields (·.setIfInBounds 3 v3)),toks:=s.toks }:=I.turned (it:=T) go t7 nl (.inr t6) nc fun p hp=>absurd hp (by rw [hpn];simp)
  exact k _ σ H a C dx o vs T _ _ rfl J h0 hH (go a o (Ne.symm t2) he) hc hdx hd h2 t1 t2 gT rfl (by simp [h3]) t6 t7 hE
theorem fly_own (hex:X.ex=[])(hpn:X.pn=[])(hst:X.stack=X.env::X.outer)(hfr:X.env.frame=some X.env.locals):PassesOwn (model X.prog X.w) X.A X.env (FlyAt X E):=by
 intro e s F
 obtain⟨a,rfl,h⟩:=fly_nx (nx:=fun a=>do
  if (<-field (.ref a) 1) == .none then unsupported "frame.own-activation:exception-without-traceback"
  setFlight (.ref a) X.env.frame) (v3:=rawInt X.env.locals) (Q:=fun _ s2=>FlyAt X E e s2) (E':=fun _ _=>False) hex hpn hst hfr (fun a=>by rw [hfr];exact nx_back (some X.env.locals)) F
  fun s2 σ H a C dx o vs T oT ts ea I h0 hH he hc hdx hd h2 t1 t2 t3 t4 t5 t6 t7 hE=>⟨σ,H,a,C,dx,o,vs,ea,I,h0,hH,he,hc,hdx,hd,h2,.inr ⟨T,oT,ts,t1,t2,t3,t4,t5,t6,t7⟩,hE⟩
 exact wpAny_mono h (fun _ s1 h1=>wpAny_mono h1 (fun _ _ q=>q) fun _ _ z=>z.elim) fun _ _ z=>z.elim
theorem fly_out (hex:X.ex=[])(hpn:X.pn=[])(hst:X.stack=X.env::X.outer)(hfr:X.env.frame=some X.env.locals)
 (hxe:∀e s',wpAny (model X.prog X.w) X.A (leaving X.env e) (fun _ s''=>CXF X.prog X.w X.outer X.H₀ X.s₀ E e s'') (fun e' s''=>CXF X.prog X.w X.outer X.H₀ X.s₀ E e' s'') s'->X.xe e s') {e:Value} {s:Shared} (F:FlyAt X E e s):X.xe e s:=by
 apply hxe
 obtain⟨a,rfl,h⟩:=fly_nx (nx:=fun a=>setFlight (.ref a) none) (v3:=.none) (Q:=fun _ s2=>CXF X.prog X.w X.outer X.H₀ X.s₀ E e s2) (E':=fun _ _=>False) hex hpn hst hfr (fun a=>nx_flight none) F
  fun s2 σ H a C dx o vs T oT ts ea I h0 hH he hc hdx hd h2 t1 t2 t3 t4 t5 t6 t7 hE=>by
   have jb:=I.base
   rw [hex] at jb
   exact⟨a,C,dx,H,o,vs,ea,I.os,I.bare,jb,I.hok,h0,hH,he,hc,hdx,hd,h2,.inr ⟨T,oT,ts,t1,t2,t3,t4,t5⟩,hE⟩
 unfold leaving
 exact wpAny_bind (wpAny_mono h (fun _ s1 h1=>wpAny_mono h1 (fun _ _ q=>q) fun _ _ z=>z.elim) fun _ _ z=>z.elim)
theorem PS.fly {st:Stmt}{t:TS}(h:PS (X.fly E) st t)(o:∀e s,FlyAt X E e s->X.xe e s):PS X st t:=fun pins s σ H D I hw=>
 wpAny_mono (h pins s σ H D (I.wish _) hw) (fun _ _ q=>q.unwish) o
end
end L2
namespace L2
open PySem PySem.Spec PyProof.Rows
open RF (D O Store Tab)
section
variable {K:PySem.W.Frag}{W:Adr}{M M1 M2:List Addr}{S S1 S2:Store}{H H1 H2:Hp}{ρ:RF.Env}{σ:St}{E:XK}
def GlF (K:PySem.W.Frag)(W:Adr)(E:XK)(M:List Addr)(H:Hp)(r:RF.F)(D:Ends):Prop:=match r with
 | .nx ρ' S'=>∀M' H' σ',Sm K W M' S' H' ρ' σ'->Up M H M' H'->D.nx σ' H'
 | .bk ρ' S'=>∀M' H' σ',Sm K W M' S' H' ρ' σ'->Up M H M' H'->D.bk σ' H'
 | .ct ρ' S'=>∀M' H' σ',Sm K W M' S' H' ρ' σ'->Up M H M' H'->D.ct σ' H'
 | .rt d S'=>∀M' H' v,Cn K W M' S' H'->Up M H M' H'->RelD M' H' d v->D.rt v H'
 | .ex x p S'=>ExE K W E M H x p S'
 | .bad=>False
theorem GlF.up {r:RF.F}{D:Ends}(h:GlF K W E M H r D)(u:Up M H M1 H1):GlF K W E M1 H1 r D:=by
 cases r with
 | nx ρ' S'=>exact fun M' H' σ' s u'=>h M' H' σ' s (u.trans u')
 | bk ρ' S'=>exact fun M' H' σ' s u'=>h M' H' σ' s (u.trans u')
 | ct ρ' S'=>exact fun M' H' σ' s u'=>h M' H' σ' s (u.trans u')
 | rt d S'=>exact fun M' H' v c u'=>h M' H' v c (u.trans u')
 | ex x p S'=>exact ExE.up h u
 | bad=>exact h
def tF (K:PySem.W.Frag)(W:Adr)(E:XK)(c:RF.CS):TS:=fun D σ H=>∃M ρ S,Sm K W M S H ρ σ/\GlF K W E M H (c ρ S) D
theorem onR' {α β:Type}{rel:List Addr->Hp->α->β->Prop}{r:RF.R α}{f:α->Store->RF.F}{D:Ends}{Q1:β->Hp->Prop}(h:GlF K W E M H (RF.onR r f) D)
 (k:∀M1 H1 a b S1,Cn K W M1 S1 H1->Up M H M1 H1->rel M1 H1 a b->GlF K W E M1 H1 (f a S1) D->Q1 b H1):GlG K W rel E M H r Q1:=by
 cases r with
 | ok a S1=>exact fun M1 H1 b c1 u1 r1=>k M1 H1 a b S1 c1 u1 r1 (GlF.up h u1)
 | ex x p S1=>exact h
 | bad=>exact h
theorem onG {α β:Type}{rel:List Addr->Hp->α->β->Prop}{c:RF.C α}{f:α->Store->RF.F}{D:Ends}{Q1:β->Hp->Prop}(s:Sm K W M S H ρ σ)(h:GlF K W E M H (RF.onR (c ρ S) f) D)
 (k:∀M1 H1 a b S1,Sm K W M1 S1 H1 ρ σ->Up M H M1 H1->rel M1 H1 a b->GlF K W E M1 H1 (f a S1) D->Q1 b H1):tG K W rel E c σ H Q1:=
 ⟨M,ρ,S,s,onR' h fun M1 H1 a b S1 c1 u1 r1 g1=>k M1 H1 a b S1 (s.to c1 u1) u1 r1 g1⟩
theorem GlF.nx {D:Ends}(h:GlF K W E M H (.nx ρ S) D)(s:Sm K W M S H ρ σ):D.nx σ H:=h M H σ s (Up.refl _ _)
end
theorem PS.nox {X:Cx}{st:Stmt}{t:TS}(h:PS X.nox st t):PS X st t:=fun pins s σ H D I hw=>
 wpAny_mono (h pins s σ H D (I.wish _) hw) (fun _ _ q=>q.unwish) fun _ _ z=>False.elim z
theorem ps_bad {X:Cx}{K:PySem.W.Frag}{W:Adr}{E:XK}{st:Stmt}:PS X st (tF K W E RF.badS):=fun _ _ _ _ _ _ ⟨_,_,_,_,g⟩=>g.elim
structure CxS (X:Cx)(W:Adr)(Γ:RF.Gm)(E:XK)(cl:RF.Calls)(k:Nat):Prop extends CxK X W Γ E cl k where
 fly:Flies X E
 room2:Room (k+2) X.A
 ex:X.ex=[]
 pn:X.pn=[]
 st:X.stack=X.env::X.outer
 fr:X.env.frame=some X.env.locals
 out:∀e s,FlyAt X E e s->X.xe e s
 fn:∀x,X.fn x=true
 sc:X.env.scope=Γ.sc
 kind:X.env.scope.kind = .function
theorem CxS.flyX {X:Cx}{W:Adr}{Γ:RF.Gm}{E:XK}{cl:RF.Calls}{k:Nat}(C:CxS X W Γ E cl k):CxS (X.fly E) W Γ E cl k:=
 ⟨⟨C.N,C.nd,C.kin,C.calm,C.room,passF flies_fly C.ex,C.top,C.lamK⟩,flies_fly,C.room2,C.ex,C.pn,C.st,C.fr,fun e s ⟨σ,H,a,c,dx,o,vs,h1,I,h⟩=>⟨σ,H,a,c,dx,o,vs,h1,I.unwish,h⟩,C.fn,C.sc,C.kind⟩
theorem CxS.nox {X:Cx}{W:Adr}{Γ:RF.Gm}{E:XK}{cl:RF.Calls}{k:Nat}(C:CxS X W Γ E cl k):CxS X.nox W Γ E0 cl k:=
 ⟨⟨C.N,C.nd,C.kin,C.calm,C.room,passX,C.top,C.lamK⟩,fun _ _ _ _ _ _ _ _ _ _ _ _ _ _ _ _ _ _ z=>z.elim,C.room2,C.ex,C.pn,C.st,C.fr,fun _ _ ⟨_,_,_,_,_,_,_,_,_,_,_,_,_,_,_,_,_,z⟩=>z.elim,C.fn,C.sc,C.kind⟩
section
variable {X:Cx}{W:Adr}{Γ:RF.Gm}{E:XK}{cl:RF.Calls}{k:Nat}{kt:RF.Kit}{a b c e:Expr}{ca cb cc:RF.C D}{pos:Pos}
theorem swaps_no {e:Expr}{t:Option Expr}{l:Nat}{env:Env}(h:RF.isComp e=false):swapsWith e t l env=pure false:=by
 cases e<;>first | rfl | (simp [RF.isComp] at h)
theorem swaps_noName {e:Expr}{t:Expr}{l:Nat}{env:Env}(h:∀x p,t ≠ .Name x p):swapsWith e (some t) l env=pure false:=by
 cases e<;>first | rfl | (cases t<;>first | rfl | exact absurd rfl (h _ _))
theorem ss_pass:PS X (.Pass pos) (tF X.K W E RF.passS):=ps_pass.imp fun D σ H ⟨M,ρ,S,s,g⟩=>g.nx s
theorem ss_expr (he:PE X e (tE X.K W E ca))(hc:RF.isComp e=false):PS X (.Expr e pos) (tF X.K W E (RF.exprS ca)):=
 (ps_expr he (swaps_no hc)).imp fun D σ H ⟨M,ρ,S,s,g⟩=>onG s g fun M1 H1 a b S1 s1 u1 r1 g1=>GlF.nx g1 s1
theorem ss_ret (he:PE X e (tE X.K W E ca)):PS X (.Return (some e) pos) (tF X.K W E (RF.retS ca)):=
 (ps_ret he).imp fun D σ H ⟨M,ρ,S,s,g⟩=>onG s g fun M1 H1 a b S1 s1 u1 r1 g1=>g1 M1 H1 b s1.con (Up.refl _ _) r1
theorem sss {f:Stmt->RF.CS}:∀{ss:List Stmt},(∀s∈ss,PS X s (tF X.K W E (f s)))->PSs X ss (tF X.K W E (RF.seqS (ss.map f)))
 | [],_=>pss_nil.imp fun D σ H ⟨M,ρ,S,s,g⟩=>g.nx s
 | st::ss,h=>by
  refine (pss_cons (h st List.mem_cons_self) (sss fun s hs=>h s (List.mem_cons_of_mem _ hs))).imp fun D σ H ⟨M,ρ,S,s,g⟩=>?_
  have g:GlF X.K W E M H ((f st ρ S).then (RF.seqS (ss.map f))) D:=g
  refine⟨M,ρ,S,s,?_⟩
  cases e:f st ρ S with
  | nx ρ' S'=>
   rw [e,RF.F.then_nx] at g
   exact fun M' H' σ' s' u'=>⟨M',ρ',S',s',GlF.up g u'⟩
  | rt d S'=>rw [e] at g;exact g
  | bk ρ' S'=>rw [e] at g;exact g
  | ct ρ' S'=>rw [e] at g;exact g
  | ex x p S'=>rw [e] at g;exact g
  | bad=>rw [e] at g;exact g
theorem ss_if {ct:RF.C Bool}{A B:List Stmt}{ta tb:RF.CS}(hc:PT X c (tT X.K W E ct))(ha:PSs X A (tF X.K W E ta))(hb:PSs X B (tF X.K W E tb)):PS X (.If c A B pos) (tF X.K W E (RF.ifS ct ta tb)):=by
 refine (ps_if hc ha hb).imp fun D σ H ⟨M,ρ,S,s,g⟩=>onG s g fun M1 H1 x y S1 s1 u1 r1 g1=>?_
 subst r1
 cases x with
 | true=>exact iteT ⟨M1,ρ,S1,s1,g1⟩
 | false=>exact iteF ⟨M1,ρ,S1,s1,g1⟩
theorem slot_ok (C:CxS X W Γ E cl k){x:Str}{i:Nat}(h:RF.slot Γ x=some i):X.N[i]?=some x/\Loc X.env.scope x:=by
 unfold RF.slot at h
 split at h
 ·rename_i hk
  refine⟨by rw [C.N];exact ixOf_get h,?_⟩
  rw [C.sc]
  rw [Bool.or_eq_true] at hk
  rcases hk with z | z
  ·exact .inl (eq_of_beq z)
  ·exact .inr (eq_of_beq z)
 ·cases h
theorem ss_set (C:CxS X W Γ E cl k){x:Str}{i:Nat}{px:Pos}(hi:RF.slot Γ x=some i)(he:PE X e (tE X.K W E ca))(hs:swapsWith e (some (.Name x px)) pos.line X.env=pure false):PS X (.Assign [.Name x px] e pos) (tF X.K W E (RF.setS i ca)):=by
 obtain⟨h1,h2⟩:=slot_ok C hi
 exact (ps_set C.nd h1 h2 he hs (.inl (C.fn x))).imp fun D σ H ⟨M,ρ,S,s,g⟩=>onG s g fun M1 H1 a b S1 s1 u1 r1 g1=>GlF.nx g1 (s1.set r1)
end
end L2
namespace L2
open PySem PySem.Spec PyProof.Rows
open RF (D O Store Tab)
section
variable {X:Cx}{W:Adr}{Γ:RF.Gm}{E:XK}{cl:RF.Calls}{k:Nat}{kt:RF.Kit}{a b c e:Expr}{ca cb cc:RF.C D}{pos:Pos}
theorem ss_cp (C:CxS X W Γ E cl k)(KO:KitE kt W.T cl k){y:Str}{i:Nat}{py:Pos}(hi:RF.slot Γ y=some i){α β:Type}{ra:List Addr->Hp->α->β->Prop}{ob:β->HO}{a0:α}{b0:β}{c:RF.C α}{o:α->O}(h:CpE X W kt Γ e ra ob a0 b0 c)
 (hno:∀a,isRol (some (o a))=false) (hn:∀{M H p a b},H p=none->ra M H a b->RelOb X.K W (M++[p]) (upd H p (ob b)) p (o a)) (hpe:PE X e (tE X.K W E fun ρ S=>(c ρ S).bind fun ys S1=>RF.newO (o ys) S1)):
 PS X (.Assign [.Name y py] e pos) (tF X.K W E (RF.setS i fun ρ S=>(c ρ S).bind fun ys S1=>RF.newO (o ys) S1)):=by
 obtain⟨h1,h2⟩:=slot_ok C hi
 obtain⟨bb,hsw,hloc⟩:=h.sw y py pos.line
 cases bb with
 | false=>exact ss_set C hi hpe hsw
 | true=>
  have hy:X.env.scope.names.lookup y=some .local:=hloc rfl
  obtain⟨sc,tg,it,ifs,mk,inn,xs,bd,src,is,one,t,gt,cp,hmk,hok,hsh,hs,hT,hg,rfl,hG,ht,hb,p0,hu⟩:=h.ex
  intro pins st σ H D I ⟨M,ρ,S,sm,g⟩
  have g2:GlG X.K W ra E M H (RF.compI xs.length src is one t bd a0 ρ S) (fun ys H2=>∀p,H2 p=none->D.nx (σ.set i (some (.ref p))) (upd H2 p (ob ys))):=by
   have g:GlF X.K W E M H (RF.onR ((RF.compI xs.length src is one t bd a0 ρ S).bind fun ys S1=>RF.newO (o ys) S1) fun d S1=>.nx (ρ.set i (some d)) S1) D:=g
   cases ev:RF.compI xs.length src is one t bd a0 ρ S with
   | bad=>rw [ev] at g;exact g
   | ex _ _ _=>rw [ev] at g;exact g
   | ok ys S1=>
    rw [ev] at g
    intro M1 H1 vs c1 u1 r1 q hq
    have g:GlF X.K W E M H (.nx (ρ.set i (some (.ref S1.length))) (S1++[o ys])) D:=g
    have s1:=sm.to c1 u1
    have s2:Sm X.K W (M1++[q]) (S1++[o ys]) (upd H1 q (ob vs)) ρ σ:=s1.to (c1.new hq (hno _) (hn hq r1)) (up_new hq)
    exact g _ _ _ (s2.set (new_at c1)) (u1.trans (up_new hq))
  have goal:=src_cp (tg:=tg) C.toCxK KO hT hg h.up h.nil hs I sm g2
  obtain⟨hM,hlen⟩:=hM_of C.toCxK hsh
  have hx:exec (.Assign [.Name y py] e pos) X.env=(standAt pos >>= fun _=>(do let _ <-comprehension e sc X.env p0 mk false (eval it X.env) (some (assign (.Name y py) X.env))) >>= fun _=>pure .next):=by
   rw [exec_Assign_Name_used _ _ _ _ hsw,hu]
  obtain⟨wi,hwi,hw⟩:=goal
  exact ps_comp C.calm C.nd h1 hy hx cp hmk (comp_lcOk hok C.kin) hM hlen hwi hG ht hb (src_fold hs X.env) pins st σ H D I hw
theorem ss_comp (C:CxS X W Γ E cl k)(KO:KitE kt W.T cl k){y:Str}{i:Nat}{py:Pos}{cL:RF.C (List D)}(hi:RF.slot Γ y=some i)(h:RF.compG W.T kt Γ e=some cL):
 PS X (.Assign [.Name y py] e pos) (tF X.K W E (RF.setS i fun ρ S=>(cL ρ S).bind fun ys S1=>RF.newO (.lst ys) S1)):=
 ss_cp C KO hi (comp_parts C.toCxK KO h) (fun _=>rfl) (fun hp r=>⟨_,upd_same,r.up (up_new hp)⟩) (sn_comp C.toCxK KO h)
theorem ss_compD (C:CxS X W Γ E cl k)(KO:KitE kt W.T cl k){y:Str}{i:Nat}{py:Pos}{cL:RF.C (List (D×D))}(hi:RF.slot Γ y=some i)(h:RF.compD W.T kt Γ e=some cL):
 PS X (.Assign [.Name y py] e pos) (tF X.K W E (RF.setS i fun ρ S=>(cL ρ S).bind fun ys S1=>RF.newO (.dic ys) S1)):=
 ss_cp C KO hi (compD_parts C.toCxK KO h) (fun _=>rfl) (fun hp r=>.inr ⟨_,upd_same,Paired.up r (up_new hp)⟩) (sn_compD C.toCxK KO h)
theorem sole_no {ts:List Expr}{kk:Nat}{pt:Pos}{e:Expr}{l:Nat}{env:Env}:swapsWithSole [.Tuple ts kk pt] e l env=pure false:=by
 show swapsWith e (some (.Tuple ts kk pt)) l env=pure false
 exact swaps_noName fun _ _ z=>by cases z
theorem slots_pgs (C:CxS X W Γ E cl k):∀{ts:List Expr} {is:List Nat},RF.slots Γ ts=some is->PGs X ts (gOf is)
 | [],is,h=>by cases h;exact pgs_nil
 | e::r,is,h=>by
  obtain⟨x,p,i,js,rfl,h1,h2,_,rfl⟩:=slots_cons h
  obtain⟨g1,g2⟩:=slot_ok C h1
  exact pgs_cons (pg_name C.nd g1 g2 (.inl (C.fn x))) (slots_pgs C h2) rfl
theorem noPair {ts:List Expr}{kk:Nat}{pt:Pos}{e:Expr}{env:Env}(h:∀es k2 p2,e ≠ .Tuple es k2 p2):swappedStores [.Tuple ts kk pt] e env=pure none:=by
 cases e<;>first | rfl | exact absurd rfl (h _ _ _)
theorem ss_tup (C:CxS X W Γ E cl k){ts:List Expr}{is:List Nat}{kk:Nat}{pt:Pos}(hi:RF.slots Γ ts=some is)(he:PE X e (tE X.K W E ca))(hw:swappedStores [.Tuple ts kk pt] e X.env=pure none):PS X (.Assign [.Tuple ts kk pt] e pos) (tF X.K W E (RF.tupS is ca)):=by
 obtain⟨a1,a2,a3⟩:=slots_each (env:=X.env) hi
 refine (ps_asg he (pg_tup C.calm (slots_pgs C hi) rfl a2) sole_no hw rfl).imp fun D σ H ⟨M,ρ,S,s,g⟩=>onG s g fun M1 H1 d v S1 s1 u1 r1 g1=>?_
 split at g1
 ·rename_i ds
  obtain⟨p,vs,rfl,hp,hv⟩:=rel_tup r1
  split at g1
  ·rename_i ρ' hl
   refine⟨p,vs,rfl,SqT.of hp,?_,gOf_rd hl hv s1 fun σ' s'=>GlF.nx g1 s'⟩
   rw [<-hv.length,setL_len hl,a3,a1]
  ·exact g1.elim
 ·exact g1.elim
theorem ss_star (C:CxS X W Γ E cl k){x y:Str}{px py p2 pt:Pos}{kk i j:Nat}(hi:RF.slot Γ x=some i)(hj:RF.slot Γ y=some j)(he:PE X e (tE X.K W E ca))(hw:swappedStores [.Tuple [.Name x px,.Starred (.Name y py) p2] kk pt] e X.env=pure none):
 PS X (.Assign [.Tuple [.Name x px,.Starred (.Name y py) p2] kk pt] e pos) (tF X.K W E (RF.starS i j ca)):=by
 obtain⟨g1,g2⟩:=slot_ok C hi
 obtain⟨g3,g4⟩:=slot_ok C hj
 have hG:PGs X [.Name x px,.Name y py] (gOf [i,j]):=pgs_cons (pg_name C.nd g1 g2 (.inl (C.fn x))) (pgs_cons (pg_name C.nd g3 g4 (.inl (C.fn y))) pgs_nil rfl) rfl
 refine (ps_asg he (pg_star C.calm hG rfl rfl) sole_no hw rfl).imp fun D σ H ⟨M,ρ,S,s,g⟩=>onG s g fun M1 H1 d v S1 s1 u1 r1 g1=>?_
 split at g1
 ·rename_i n
  split at g1
  ·rename_i d ds hS
   split at g1
   ·rename_i hz
    obtain⟨p,rfl,ea⟩:=rel_ref r1
    obtain⟨vs,h1,h2⟩:=s1.con.lst hS ea
    cases h2 with
    | cons hx hxs=>
     refine⟨p,_,_,rfl,SqL.of h1,by rw [<-hxs.length];exact hz,fun q hq=>?_⟩
     have c2:=s1.con.newL hq hxs
     exact gOf_rd (ds:=[d,.ref S1.length]) rfl (.cons (hx.up (up_new hq)) (.cons (new_at s1.con) .nil)) (s1.to c2 (up_new hq)) fun σ' s'=>g1 _ _ _ s' (up_new hq)
   ·exact g1.elim
  ·exact g1.elim
 ·exact g1.elim
end
end L2
namespace L2
open PySem PySem.Spec PyProof.Rows
open RF (D O Store Tab)
section
variable {X:Cx}{W:Adr}{Γ:RF.Gm}{E:XK}{cl:RF.Calls}{k:Nat}{kt:RF.Kit}{a b c e:Expr}{ca cb cc:RF.C D}{pos:Pos}
theorem put_rel {K:PySem.W.Frag}{M:List Addr}{H:Hp}{W:Adr}{cc:Nat}(nd:W.T.nams.Nodup){fs:List (Nat×D)}{gs:List (Str×V)}(h:Paired (fun (p:Nat×D) (q:Str×V)=>(W.T.nams[p.1]?=some q.1/\W.T.plain cc p.1=true)/\RelD M H p.2 q.2) fs gs){f:Nat}{x:Str}(hx:W.T.nams[f]?=some x)(hp:W.T.plain cc f=true){d:D}{v:V}(r:RelD M H d v):
 Paired (fun (p:Nat×D) (q:Str×V)=>(W.T.nams[p.1]?=some q.1/\W.T.plain cc p.1=true)/\RelD M H p.2 q.2) (RF.fputD f d fs) (putF x v gs):=by
 induction h with
 | nil=>exact .cons ⟨⟨hx,hp⟩,r⟩ .nil
 | @cons p q fs gs r1 t ih=>
  obtain⟨pf,pd⟩:=p
  obtain⟨qf,qv⟩:=q
  unfold RF.fputD putF
  by_cases e:pf=f
  ·subst e
   have e2:qf=x:=Option.some.inj (r1.1.1.symm.trans hx)
   subst e2
   rw [if_pos rfl,if_pos rfl]
   exact .cons ⟨r1.1,r⟩ t
  ·have e2:¬qf=x:=fun z=>e (by
    subst z
    exact (List.getElem?_inj (List.getElem?_eq_some_iff.mp r1.1.1).1 nd).mp (r1.1.1.trans hx.symm))
   rw [if_neg e,if_neg e2]
   exact .cons r1 ih
theorem ss_fld (C:CxS X W Γ E cl k){f:Str}{i:Nat}{pf:Pos}(hi:RF.ixOf W.T.nams f=some i)(ho:PE X a (tE X.K W E ca))(he:PE X e (tE X.K W E cb)):PS X (.Assign [.Attribute a f pf] e pos) (tF X.K W E (RF.fldS W.T.plain ca i cb)):=by
 refine (ps_fld ho he (swaps_noName fun _ _ z=>by cases z)).imp fun D σ H ⟨M,ρ,S,s,g⟩=>?_
 refine onG s g fun M1 H1 d v S1 s1 u1 r1 g1=>onG s1 g1 fun M2 H2 x u S2 s2 u2 r2 g2=>?_
 unfold RF.setFieldD at g2
 split at g2
 ·rename_i n
  split at g2
  ·rename_i cc fs hS
   unfold RF.guardR at g2
   split at g2
   ·rename_i hz
    rw [Bool.and_eq_true,decide_eq_true_eq] at hz
    obtain⟨p,rfl,ea⟩:=rel_ref r2
    obtain⟨dx,gs,h1,hc,h2⟩:=s2.con.at_ n _ p hS ea
    have nt:NoFix (H2 p):=nofix h1 rfl
    refine⟨p,W.c cc,dx,gs,rfl,h1,C.top.clsK cc hc,C.top.plain cc i f hc hz.2 (ixOf_get hi),by rw [<-Paired.length h2];omega,?_⟩
    have h3:=put_rel (K:=X.K) s2.con.nod h2 (ixOf_get hi) hz.2 (r1.up u2)
    have c3:Cn X.K W M2 (S2.set n (.obj cc (RF.fputD i d fs))) (upd H2 p (.ins (W.c cc) dx (putF f v gs))):=s2.con.put hS ea rfl rfl nt ⟨dx,_,upd_same,hc,Paired.mapP h3 fun _ _ z=>⟨z.1,z.2.up (up_put nt)⟩⟩
    exact GlF.nx (GlF.up g2 (up_put nt)) (s2.to c3 (up_put nt))
   ·exact g2.elim
  ·exact g2.elim
 ·exact g2.elim
def rSetD:TSet:=fun o i v H Q=>∃a H' H4,o = .ref a/\(H'=H\/Ret H a H')/\DPut H' a i v H4/\Q H4
theorem set_dict (hu:X.A.units+1<cLine):PSet X rSetD:=by
 intro pins s σ H o i v ov iv u Q I ro ri rv h
 obtain⟨a,H',H4,rfl,hr,g,q⟩:=h
 cases ro
 have I':Inv X pins σ H' s:=by
  rcases hr with rfl | hr
  ·exact I
  ·exact I.ret hr
 exact d_setItem hu I' g ri rv fun s4 I4=>⟨H4,I4,q⟩
theorem PSet.or {t t':TSet}(h:PSet X t)(h':PSet X t'):PSet X (fun o i v H Q=>t o i v H Q\/t' o i v H Q):=fun pins s σ H o i v ov iv u Q I ro ri rv q=>q.elim (h pins s σ H o i v ov iv u Q I ro ri rv) (h' pins s σ H o i v ov iv u Q I ro ri rv)
theorem asg_sub {o i:Expr}{p:Pos}{env:Env}(h:RF.noSlice i=true)(v:Value):assign (.Subscript o i p) env v=(do
 let ov <-holding [v] (eval o env)
 let iv <-holding [v,ov] (eval i env)
 standAt p
 holding [v,ov,iv] (setItem ov iv v)
 release [v,ov,iv] []):=by
 cases i<;>first | rfl | (simp [RF.noSlice] at h)
theorem ss_sub (C:CxS X W Γ E cl k){ps:Pos}(ho:PE X a (tE X.K W E ca))(hi:PE X b (tE X.K W E cb))(he:PE X e (tE X.K W E cc))(hs:RF.noSlice b=true):PS X (.Assign [.Subscript a b ps] e pos) (tF X.K W E (RF.subS ca cb cc)):=by
 refine (ps_asg he (pg_sub ho hi (set_list.or (set_dict C.units1)) (asg_sub hs)) (by show swapsWith e (some (.Subscript a b ps)) pos.line X.env=pure false;exact swaps_noName fun _ _ z=>by cases z) (by cases e<;>rfl) rfl).imp fun D σ H ⟨M,ρ,S,s,g⟩=>?_
 refine onG s g fun M1 H1 d v S1 s1 u1 r1 g1=>onG s1 g1 fun M2 H2 x u S2 s2 u2 r2 g2=>onG s2 g2 fun M3 H3 i w S3 s3 u3 r3 g3=>?_
 have rx:=r2.up u3
 have rd:=(r1.up u2).up u3
 unfold RF.setItemD at g3
 split at g3
 ·rename_i n
  obtain⟨p,rfl,ea⟩:=rel_ref rx
  split at g3
  ·rename_i xs kk hS
   split at g3
   ·rename_i j hj
    cases r3
    obtain⟨vs,h1,h2⟩:=s3.con.lst hS ea
    have nt:NoFix (H3 p):=nofix h1 rfl
    refine .inl ⟨p,vs,kk,j,rfl,rfl,h1,by rw [<-h2.length];exact hj,?_⟩
    exact GlF.nx (GlF.up g3 (up_put nt)) (s3.to (s3.con.put hS ea rfl rfl nt ⟨_,upd_same,(h2.set rd j).up (up_put nt)⟩) (up_put nt))
   ·exact g3.elim
  ·rename_i kvs hS
   unfold RF.guardR at g3
   split at g3
   ·rename_i hz
    rw [Bool.and_eq_true,decide_eq_true_eq] at hz
    obtain⟨H',hr,c',u',gd⟩:=fits_dic s3.con hS ea hz.1 r3
    have rd':=rd.up u'
    rcases gd with⟨ks,q,q1,q2,rfl,rfl⟩|⟨ts,q,bq,q1,q2,rfl,rfl,q3⟩
    ·have nt:NoFix (H' p):=nofix q1 rfl
     refine .inr ⟨p,H',_,rfl,hr,DPut.k q1 (by rw [<-Paired.length q2];exact hz.2),?_⟩
     exact GlF.nx (GlF.up g3 (u'.trans (up_put nt))) (s3.to (c'.put hS ea rfl rfl nt (.inl ⟨_,upd_same,Paired.up (putD_rel (fun _ _=>ofKey_inj) q2 rd') (up_put nt)⟩)) (u'.trans (up_put nt)))
    ·have nt:NoFix (H' p):=nofix q1 rfl
     refine .inr ⟨p,H',_,rfl,hr,DPut.t q1 q3 (by rw [<-Paired.length q2];exact hz.2),?_⟩
     exact GlF.nx (GlF.up g3 (u'.trans (up_put nt))) (s3.to (c'.put hS ea rfl rfl nt (.inr ⟨_,upd_same,Paired.up (putD_rel (fun _ _=>ofKeys_inj) q2 rd') (up_put nt)⟩)) (u'.trans (up_put nt)))
   ·exact g3.elim
  ·exact g3.elim
 ·exact g3.elim
theorem ss_raise (C:CxS X W Γ E cl k){x:Str}{c:Nat}{f:Expr->RF.C D}{es:List Expr}{np cp:Pos}(hc:RF.ixOf W.T.excs x=some c)(hpay:W.T.pay.lookup c=none)(hg:RF.isGl Γ x=true)(h:∀e∈es,PE X e (tE X.K W E (f e)))(hp:es.all RF.plainE=true)(hne:es.isEmpty=false)(hz:es.length<=100):
 PS X (.Raise (some (.Call (.Name x np) es [] cp)) none pos) (tF X.K W E (RF.raiseS c (es.map f))):=by
 obtain⟨g1,g2⟩:=C.gl hg
 obtain⟨e2,e1,_⟩:=C.top.exc x c hc
 have args:=sn_args h hp
 cases es with
 | nil=>cases hne
 | cons e es=>
  simp only [List.all_cons,Bool.and_eq_true] at hp
  refine (ps_raise C.fly C.calm (e1 hpay) g1 e2 args C.ex g2 (star_plain hp.1) (star_none hp.2)).imp fun D σ H ⟨M,ρ,S,s,g⟩=>?_
  have g:GlF X.K W E M H (RF.onR (RF.seqE ((e::es).map f) ρ S) fun _ S1=>.ex c [] S1) D:=g
  refine⟨M,ρ,S,s,?_⟩
  cases ev:RF.seqE ((e::es).map f) ρ S with
  | bad=>rw [ev] at g;exact g
  | ex _ _ _=>rw [ev] at g;exact g
  | ok ds S1=>
   rw [ev,RF.onR_ok] at g
   intro M1 H1 vs c1 u1 r1
   have hl:=seqE_len ev
   rw [List.length_map] at hl
   exact⟨by rw [<-r1.length,hl];exact Nat.le_trans hz (by decide),g.2 M1 H1 c1 u1⟩
theorem ss_raiseX (C:CxS X W Γ E cl k){x f:Str}{c:Nat}{np cp:Pos}(hc:RF.ixOf W.T.excs x=some c)(hpay:W.T.pay.lookup c=some f)(hg:RF.isGl Γ x=true)(he:PE X e (tE X.K W E ca))(hp:RF.plainE e=true):
 PS X (.Raise (some (.Call (.Name x np) [e] [] cp)) none pos) (tF X.K W E (RF.raiseX c ca)):=by
 obtain⟨g1,g2⟩:=C.gl hg
 obtain⟨e2,_,e3⟩:=C.top.exc x c hc
 refine (ps_raiseX C.fly C.calm (e3 f hpay) C.room2 g1 e2 he C.ex g2 (star_plain hp)).imp fun D σ H ⟨M,ρ,S,s,g⟩=>onG s g fun M1 H1 d v S1 s1 u1 r1 g1 Dx hD=>?_
 obtain⟨f',hf',q⟩:=g1
 rw [hpay] at hf'
 cases hf'
 exact q M1 _ v Dx (s1.con.fresh hD) (up_fresh hD) (r1.up (up_fresh hD)) upd_same
theorem for_chk {K:PySem.W.Frag}{M:List Addr}{S:Store}{H:Hp}{ρ:RF.Env}{chk:Store->Bool}{is:List Nat}{one:Bool}{b:RF.CS}{l:List D}{D:Ends}(g:GlF K W E M H (RF.forC chk is one b l ρ S) D):chk S=true:=by
 cases h:chk S with
 | true=>rfl
 | false=>
  exfalso
  cases l with
  | nil=>unfold RF.forC at g;rw [h] at g;exact g
  | cons x xs=>unfold RF.forC at g;rw [h] at g;exact g
theorem for_gen {J:It}{items:List D}{chk:Store->Bool}{ok:List Addr->Store->Hp->Prop}(wk:Wk X.K W J items chk ok){is:List Nat}{one:Bool}{b:RF.CS}{gt:TG}(hg:tgOk X W is one gt){D:Ends}{M:List Addr}{S:Store}{H:Hp}{ρ:RF.Env}{σ:St}(sm:Sm X.K W M S H ρ σ)(hok:ok M S H)
 (g:GlF X.K W E M H (RF.forC chk is one b items ρ S) D):∃Wv:Nat->Nat->St->Hp->Prop,(∃m,Wv 0 m σ H)/\∀i m σ H,Wv i m σ H ->
   (J.stop i H/\D.nx σ H)\/(J.go i H/\∃N:St->Hp->Prop,(∀σ' H',N σ' H'->∃m',m'<m/\Wv (i+1) m' σ' H')/\∀x H',J.yld i H x H'->gt x σ H' fun σ2 H2=>tF X.K W E b { D with nx:=N,ct:=N,bk:=D.nx } σ2 H2):=by
 refine⟨fun i m σ H=>m=items.length-i/\i<=items.length/\∃M S ρ,Sm X.K W M S H ρ σ/\ok M S H/\GlF X.K W E M H (RF.forC chk is one b (items.drop i) ρ S) D,⟨items.length,by simp,Nat.zero_le _,M,S,ρ,sm,hok,by rw [List.drop_zero];exact g⟩,?_⟩
 rintro i m σ H ⟨rfl,hi,M,S,ρ,sm,hok,g⟩
 have hc:=for_chk g
 rcases Nat.lt_or_ge i items.length with hlt | hge
 ·obtain⟨go,yl⟩:=wk.go i M S H sm.con hok hlt
  refine .inr ⟨go,fun σ' H'=>items.length-(i+1)=items.length-(i+1)/\i+1<=items.length/\∃M S ρ,Sm X.K W M S H' ρ σ'/\ok M S H'/\GlF X.K W E M H' (RF.forC chk is one b (items.drop (i+1)) ρ S) D,fun σ' H' z=>⟨items.length-(i+1),by omega,z⟩,fun x H' y=>?_⟩
  obtain⟨rfl,d,hd,rd⟩:=yl x H' y
  have ed:items.drop i=d::items.drop (i+1):=by
   rw [List.drop_eq_getElem_cons hlt]
   congr 1
   rw [List.getElem?_eq_getElem hlt] at hd
   exact Option.some.inj hd
  rw [ed] at g
  unfold RF.forC at g
  rw [if_pos hc] at g
  split at g
  ·rename_i ρ1 ht
   refine hg M S H' ρ ρ1 σ d x _ sm rd ht fun σ1 s1=>⟨M,ρ1,S,s1,?_⟩
   have next:∀{ρ2 S2},GlF X.K W E M H' (RF.forC chk is one b (items.drop (i+1)) ρ2 S2) D->∀M' H2 σ2,Sm X.K W M' S2 H2 ρ2 σ2->Up M H' M' H2 ->
    items.length-(i+1)=items.length-(i+1)/\i+1<=items.length/\∃M S ρ,Sm X.K W M S H2 ρ σ2/\ok M S H2/\GlF X.K W E M H2 (RF.forC chk is one b (items.drop (i+1)) ρ S) D:=fun {ρ2 S2} g M' H2 σ2 s2 u2=>
    ⟨rfl,hlt,M',S2,ρ2,s2,wk.keep M S H' M' S2 H2 hok u2 s2.con (for_chk g),GlF.up g u2⟩
   cases ev:b ρ1 S with
   | nx ρ2 S2=>rw [ev] at g;exact next g
   | ct ρ2 S2=>rw [ev] at g;exact next g
   | bk ρ2 S2=>rw [ev] at g;exact g
   | rt d S2=>rw [ev] at g;exact g
   | ex y p S2=>rw [ev] at g;exact g
   | bad=>rw [ev] at g;exact g
  ·exact g.elim
 ·have ei:i=items.length:=by omega
  subst ei
  refine .inl ⟨wk.stop _ M S H sm.con hok (Nat.le_refl _),?_⟩
  rw [List.drop_length] at g
  unfold RF.forC at g
  rw [if_pos hc] at g
  exact GlF.nx g sm
end
end L2
namespace L2
open PySem PySem.Spec PyProof.Rows
open RF (D O Store Tab)
section
variable {X:Cx}{W:Adr}{Γ:RF.Gm}{E:XK}{cl:RF.Calls}{k:Nat}{kt:RF.Kit}{a b c e:Expr}{ca cb cc:RF.C D}{pos:Pos}
theorem GlF.noEx {K:PySem.W.Frag}{M:List Addr}{H:Hp}{r:RF.F}{D:Ends}(h:GlF K W E M H (RF.noExF r) D):GlF K W E0 M H r D:=by
 cases r with
 | ex x p S'=>exact h.elim
 | nx ρ S=>exact h
 | bk ρ S=>exact h
 | ct ρ S=>exact h
 | rt d S=>exact h
 | bad=>exact h
theorem ss_for (C:CxS X W Γ E cl k)(KO:KitE kt W.T cl k){tg it:Expr}{body:List Stmt}{src:RF.Src}{is:List Nat}{one:Bool}{bd:RF.CS}{gt:TG}(hs:RF.srcOf W.T kt Γ it=some src)(hG:PG (X.fly E) tg gt)(hgt:tgOk X W is one gt)(hb:PSs (X.fly E) body (tF X.K W E bd)):
 PS X (.For tg it body [] pos) (tF X.K W E (RF.forS src is one bd)):=by
 refine PS.fly (E:=E) ?_ C.out
 have CN:=C.flyX
 have own:=fly_own (E:=E) C.ex C.pn C.st C.fr
 intro pins st σ H D I ⟨M,ρ,S,sm,g⟩
 have g:GlF X.K W E M H (RF.forG src is one bd ρ S) D:=g
 have dyn:∀{it:Expr} {src:RF.Src},(if RF.noSet it=true then some (RF.Src.dyn (kt.e Γ it)) else none)=some src->GlF X.K W E M H (RF.forG src is one bd ρ S) D->False:=fun {it src} h g=>by
  split at h
  ·cases h;exact g
  ·cases h
 unfold RF.srcOf at hs
 split at hs
 ·rename_i r pr a pc
  split at hs
  ·rename_i hr
   obtain⟨rfl,hg,hp⟩:=hr
   cases hs
   have ha:=KO.e rfl CN.toCxK a
   have args:PA (X.fly E) [a] (tCons (tE X.K W E (kt.e Γ a)) tNil):=pa_cons ha pa_nil (star_plain hp)
   have hPI:PI (X.fly E) tg (.Call (.Name "range" pr) [a] [] pc) (iRng1 (tCons (tE X.K W E (kt.e Γ a)) tNil)):=pi_range1 (CN.toCxK.gl hg).1 (C.top.blt _ (by simp [bNames])) args (by rw [star_plain hp];rfl)
   refine ps_for (X:=X.fly E) own C.calm hPI hG hb (fun v=>rfl) pins st σ H D I ?_
   have g:GlF X.K W E M H (RF.onR (kt.e Γ a ρ S) fun x S1=>match x with | .int j=>if RF.rangeOk j=true then RF.forL is one bd (RF.rangeL 0 j.toNat) ρ S1 else .bad | _=>.bad) D:=g
   refine onG sm g fun M1 H1 d u S1 s1 u1 r1 g1=>?_
   cases d with
   | int j=>
    dsimp only at g1
    split at g1
    ·rename_i hz
     unfold RF.rangeOk at hz
     simp only [Bool.and_eq_true,decide_eq_true_eq] at hz
     cases r1
     exact⟨j,rfl,hz.1,hz.2,for_gen (X:=X) wk_range hgt s1 trivial g1⟩
    ·exact g1.elim
   | _=>exact g1.elim
  ·split at hs
   ·cases hs;exact g.elim
   ·exact (dyn hs g).elim
 ·split at hs
  ·cases hs;exact g.elim
  ·exact (dyn hs g).elim
 ·exact (dyn hs g).elim
mutual
theorem RelD.trim {M:List Addr}{H:Hp}{n:Nat}{d:D}{v:V}(r:RelD M H d v)(h:RF.okD n d=true):RelD (M.take n) H d v:=by
 cases r with
 | non=>exact .non
 | bl b=>exact .bl b
 | int i=>exact .int i
 | str x=>exact .str x
 | kt a=>exact .kt a
 | tup e rs=>exact .tup e (RelDs.trim rs h)
 | ref e=>
  have h:=of_decide_eq_true h
  exact .ref (by rw [List.getElem?_take_of_lt h];exact e)
theorem RelDs.trim {M:List Addr}{H:Hp}{n:Nat}{ds:List D}{vs:List V}(r:RelDs M H ds vs)(h:RF.okD.okDs n ds=true):RelDs (M.take n) H ds vs:=by
 cases r with
 | nil=>exact .nil
 | cons r rs=>
  unfold RF.okD.okDs at h
  rw [Bool.and_eq_true] at h
  exact .cons (RelD.trim r h.1) (RelDs.trim rs h.2)
end
theorem okDs_all {n:Nat}:∀{xs:List D},xs.all (RF.okD n)=true->RF.okD.okDs n xs=true
 | [],_=>rfl
 | x::xs,h=>by
  rw [List.all_cons,Bool.and_eq_true] at h
  unfold RF.okD.okDs
  rw [h.1,okDs_all h.2]
  rfl
theorem Paired.mapA {α β:Type}{F G:α->β->Prop}{g:α->Bool}{l:List α}{m:List β}(h:Paired F l m)(ha:l.all g=true)(k:∀p q,g p=true->F p q->G p q):Paired G l m:=by
 induction h with
 | nil=>exact .nil
 | cons r t ih=>
  rw [List.all_cons,Bool.and_eq_true] at ha
  exact .cons (k _ _ ha.1 r) (ih ha.2)
theorem RelOb.trim {K:PySem.W.Frag}{M:List Addr}{H:Hp}{n:Nat}{a:Addr}{o:O}(r:RelOb K W M H a o)(h:RF.okO n o=true):RelOb K W (M.take n) H a o:=by
 cases o with
 | lst xs=>obtain⟨vs,h1,h2⟩:=r;exact⟨vs,h1,h2.trim (okDs_all h)⟩
 | rol xs=>obtain⟨vs,h1,h2⟩:=r;exact⟨vs,h1,h2.trim (okDs_all h)⟩
 | dic kvs=>
  rcases r with⟨ks,h1,h2⟩|⟨ts,h1,h2⟩
  ·exact .inl ⟨ks,h1,Paired.mapA h2 h fun p q z y=>⟨y.1,y.2.trim (Bool.and_eq_true .. ▸ z).2⟩⟩
  ·exact .inr ⟨ts,h1,Paired.mapA h2 h fun p q z y=>⟨y.1,y.2.trim (Bool.and_eq_true .. ▸ z).2⟩⟩
 | exc x p=>cases h
 | obj c fs=>
  obtain⟨dx,gs,h1,h2,h3⟩:=r
  exact⟨dx,gs,h1,h2,Paired.mapA h3 h fun p q z y=>⟨y.1,y.2.trim z⟩⟩
section
variable {K:PySem.W.Frag}{M:List Addr}{S:Store}{H:Hp}{ρ:RF.Env}{σ:St}{n:Nat}
theorem Cn.trim (c:Cn K W M S H)(ho:(S.take n).all (RF.okO n)=true):Cn K W (M.take n) (S.take n) H:=by
 have lt:∀{α:Type} {l:List α} {i:Nat} {a:α},(l.take n)[i]?=some a->i<n/\l[i]?=some a:=fun {α l i a} h=>by
  rcases Nat.lt_or_ge i n with hi | hi
  ·exact⟨hi,by rw [List.getElem?_take_of_lt hi] at h;exact h⟩
  ·rw [List.getElem?_take_eq_none hi] at h;cases h
 refine⟨by simp [c.len],c.nod,fun i j a h1 h2 r1 r2=>?_,fun i o a h1 h2=>?_,c.tbl⟩
 ·obtain⟨l1,h1⟩:=lt h1
  obtain⟨l2,h2⟩:=lt h2
  rw [List.getElem?_take_of_lt l1] at r1
  rw [List.getElem?_take_of_lt l2] at r2
  exact c.sep i j a h1 h2 r1 r2
 ·exact (c.at_ i o a (lt h1).2 (lt h2).2).trim (List.all_eq_true.mp ho o (List.mem_of_getElem? h1))
theorem trimE_env {M':List Addr}(h:REnv M H ρ σ)(hM:M'=M.take n):REnv M' H (RF.trimE n ρ) σ:=fun i d e=>by
 unfold RF.trimE at e
 rw [List.getElem?_map] at e
 obtain⟨o,e1,e2⟩:=Option.map_eq_some_iff.mp e
 obtain⟨d',e3,e4⟩:=Option.bind_eq_some_iff.mp e2
 subst e3
 split at e4
 ·rename_i hd
  cases e4
  obtain⟨v,g1,g2⟩:=h i d e1
  rw [hM]
  exact⟨v,g1,g2.trim hd⟩
 ·cases e4
theorem Sm.trim (s:Sm K W M S H ρ σ)(ho:(S.take n).all (RF.okO n)=true):Sm K W (M.take n) (S.take n) H (RF.trimE n ρ) σ:=
 ⟨s.con.trim ho,trimE_env s.env rfl,by unfold RF.trimE;rw [List.length_map];exact s.len⟩
theorem Cn.pad (c:Cn K W M S H){a0:Addr}{xs:List D}(h0:M[0]?=some a0)(hS:S[0]?=some (.rol xs))(j:Nat):Cn K W (M++List.replicate j a0) (S++List.replicate j (.rol xs)) H:=by
 have u:Up M H (M++List.replicate j a0) H:=.of (List.prefix_append _ _) (fun _ _ h=>h) fun _ _ _ h=>h
 have rol:∀i,S.length<=i->i<S.length+j->(S++List.replicate j (O.rol xs))[i]?=some (.rol xs):=fun i h1 h2=>by
  rw [List.getElem?_append_right h1,List.getElem?_replicate,if_pos (by omega)]
 have lt:∀i a,(M++List.replicate j a0)[i]?=some a->i<S.length+j:=fun i a h=>by
  have:=(List.getElem?_eq_some_iff.mp h).1
  rw [List.length_append,List.length_replicate,c.len] at this
  exact this
 refine⟨by simp [c.len],c.nod,fun i k a h1 h2 r1 r2=>?_,fun i o a h1 h2=>?_,c.tbl⟩
 ·have small:∀i a,(M++List.replicate j a0)[i]?=some a->isRol (S++List.replicate j (O.rol xs))[i]?=false->i<S.length:=fun i a h r=>by
   rcases Nat.lt_or_ge i S.length with z | z
   ·exact z
   ·rw [rol i z (lt i a h)] at r;cases r
  have l1:=small i a h1 r1
  have l2:=small k a h2 r2
  rw [List.getElem?_append_left (by rw [c.len];exact l1)] at h1
  rw [List.getElem?_append_left (by rw [c.len];exact l2)] at h2
  rw [List.getElem?_append_left l1] at r1
  rw [List.getElem?_append_left l2] at r2
  exact c.sep i k a h1 h2 r1 r2
 ·rcases Nat.lt_or_ge i S.length with z | z
  ·rw [List.getElem?_append_left z] at h1
   rw [List.getElem?_append_left (by rw [c.len];exact z)] at h2
   exact (c.at_ i o a h1 h2).up u fun v h=>h
  ·rw [rol i z (lt i a h2)] at h1
   cases h1
   rw [List.getElem?_append_right (by rw [c.len];exact z),List.getElem?_replicate] at h2
   split at h2
   ·cases h2
    exact (c.at_ 0 _ _ hS h0).up u fun v h=>h
   ·cases h2
theorem take_pre {M M':List Addr}(h:M <+: M')(hl:M.length=n):M'.take n=M:=by
 obtain⟨t,rfl⟩:=h
 rw [<-hl,List.take_left']
 rfl
theorem forT_chk {a:D}{all:List D}{i:Nat}{b:RF.CS}{l:List D}{D:Ends}(g:GlF K W E M H (RF.forT n a all i b l ρ S) D):RF.stands a all S=true:=by
 cases h:RF.stands a all S with
 | true=>rfl
 | false=>
  exfalso
  cases l with
  | nil=>unfold RF.forT at g;rw [h] at g;exact g
  | cons x xs=>unfold RF.forT at g;rw [h] at g;exact g
theorem for_genT {m:Nat}{p:Addr}{items:List D}{i:Nat}{b:RF.CS}{D:Ends}(sm:Sm K W M S H ρ σ)(hl:S.length=n)(hp:M[m]?=some p)(g:GlF K W E0 M H (RF.forT n (.ref m) items i b items ρ S) D):∃Wv:Nat->Nat->St->Hp->Prop,(∃m,Wv 0 m σ H)/\∀ix m σ H,Wv ix m σ H ->
 ((Itl K p).stop ix H/\D.nx σ H)\/((Itl K p).go ix H/\∃N:St->Hp->Prop,(∀σ' H',N σ' H'->∃m',m'<m/\Wv (ix+1) m' σ' H')/\∀x H',(Itl K p).yld ix H x H'->gName i x σ H' fun σ2 H2=>tF K W E0 b { D with nx:=N,ct:=N,bk:=D.nx } σ2 H2):=by
 refine⟨fun ix mm σ H=>mm=items.length-ix/\ix<=items.length/\∃S ρ,Sm K W M S H ρ σ/\S.length=n/\GlF K W E0 M H (RF.forT n (.ref m) items i b (items.drop ix) ρ S) D,⟨items.length,by simp,Nat.zero_le _,S,ρ,sm,hl,by rw [List.drop_zero];exact g⟩,?_⟩
 rintro ix mm σ H ⟨rfl,hi,S,ρ,sm,hl,g⟩
 have hc:=forT_chk g
 have hit:RF.itemsOf S (.ref m)=some items:=of_decide_eq_true hc
 have wk:=wk_list (K:=K) (W:=W) (n:=m) (a:=p) (items:=items)
 rcases Nat.lt_or_ge ix items.length with hlt | hge
 ·obtain⟨go,yl⟩:=wk.go ix M S H sm.con ⟨hp,hit⟩ hlt
  refine .inr ⟨go,_,fun σ' H' z=>⟨items.length-(ix+1),by omega,z⟩,fun x H' y=>?_⟩
  obtain⟨rfl,d,hd,rd⟩:=yl x H' y
  have ed:items.drop ix=d::items.drop (ix+1):=by
   rw [List.drop_eq_getElem_cons hlt]
   congr 1
   rw [List.getElem?_eq_getElem hlt] at hd
   exact Option.some.inj hd
  rw [ed] at g
  unfold RF.forT at g
  rw [if_pos hc] at g
  show tF K W E0 b _ _ _
  refine⟨M,ρ.set i (some d),S,sm.set rd,?_⟩
  cases ev:b (ρ.set i (some d)) S with
  | nx ρ1 S1=>
   rw [ev] at g
   dsimp only at g
   split at g
   ·rename_i hz
    intro M' H2 σ2 s2 u2
    have s3:=s2.trim (n:=n) hz.1
    rw [take_pre u2.pre (sm.con.len.trans hl)] at s3
    exact⟨rfl,hlt,S1.take n,RF.trimE n ρ1,s3,by rw [List.length_take];omega,GlF.up g (.of List.prefix_rfl u2.tups u2.frzs)⟩
   ·exact g.elim
  | rt d S2=>rw [ev] at g;exact g
  | ct ρ2 S2=>rw [ev] at g;exact g.elim
  | bk ρ2 S2=>rw [ev] at g;exact g.elim
  | ex y p S2=>rw [ev] at g;exact g.elim
  | bad=>rw [ev] at g;exact g.elim
 ·have ei:ix=items.length:=by omega
  subst ei
  refine .inl ⟨wk.stop _ M S H sm.con ⟨hp,hit⟩ (Nat.le_refl _),?_⟩
  rw [List.drop_length] at g
  unfold RF.forT at g
  rw [if_pos hc] at g
  exact GlF.nx g sm
end
theorem ss_forT (C:CxS X W Γ E cl k)(KO:KitE kt W.T cl k){x:Str}{px:Pos}{it:Expr}{body:List Stmt}{i n:Nat}{bd:RF.CS}(hi:RF.slot Γ x=some i)(hr:RF.isRounds it=true)(hb:PSs X.nox body (tF X.K W E0 bd)):
 PS X (.For (.Name x px) it body [] pos) (tF X.K W E (RF.forTS n (kt.e Γ it) i bd)):=by
 refine PS.nox ?_
 have CN:=C.nox
 intro pins st σ H D I ⟨M,ρ,S,sm,g⟩
 have g:GlF X.K W E0 M H (RF.onR (kt.e Γ it ρ S) fun x S1=>match x with
  | .ref m=>match S1[m]?,RF.padS n S1 with
   | some (.lst xs),some S2=>if S2.all (RF.okO n)=true then RF.forT n x xs i bd xs (RF.trimE n ρ) S2 else .bad
   | _,_=>.bad
  | _=>.bad) D:=GlF.noEx g
 have fold:∀v,foldedSetIterable it X.nox.env v=pure v:=fun v=>by cases it<;>first | rfl | (simp [RF.isRounds] at hr)
 obtain⟨h1,h2⟩:=slot_ok CN hi
 refine ps_for (X:=X.nox) PassesOwn.never C.calm (pi_listZ (KO.e rfl CN.toCxK it)) (pg_name CN.nd h1 h2 (.inl (C.fn _))) hb fold pins st σ H D I ?_
 refine onG sm g fun M1 H1 d u S1 s1 u1 r1 g1=>?_
 cases d with
 | ref m=>
  obtain⟨p,rfl,ea⟩:=rel_ref r1
  dsimp only at g1
  split at g1
  ·rename_i xs S2 hS hpad
   obtain⟨vs,q1,q2⟩:=s1.con.lst hS ea
   refine⟨p,rfl,⟨vs,SqL.of q1⟩,fun hz=>?_⟩
   split at g1
   ·rename_i hok
    unfold RF.padS at hpad
    split at hpad
    ·rename_i ys h0
     split at hpad
     ·rename_i hle
      cases hpad
      have l0:0<M1.length:=by rw [s1.con.len];exact (List.getElem?_eq_some_iff.mp h0).1
      have c2:=s1.con.pad (List.getElem?_eq_getElem l0) h0 (n-S1.length)
      have hlen:(S1++List.replicate (n-S1.length) (O.rol ys)).length=n:=by simp;omega
      have up2:Up M1 H1 (M1++List.replicate (n-S1.length) M1[0]) H1:=.of (List.prefix_append _ _) (fun _ _ h=>h) fun _ _ _ h=>h
      have s2:=s1.to c2 up2
      have s3:Sm X.K W (M1++List.replicate (n-S1.length) M1[0]) (S1++List.replicate (n-S1.length) (O.rol ys)) H1 (RF.trimE n ρ) σ:=
       ⟨c2,trimE_env s2.env (by rw [List.take_of_length_le];rw [c2.len,hlen];exact Nat.le_refl _),by unfold RF.trimE;rw [List.length_map];exact s2.len⟩
      exact for_genT s3 hlen (pre_get up2.pre ea) (GlF.up g1 up2)
     ·cases hpad
    ·cases hpad
   ·exact g1.elim
  ·exact g1.elim
 | _=>exact g1.elim
def KitS (kt:RF.Kit)(T:Tab)(cl:RF.Calls)(k:Nat):Prop:=∀(X:Cx) (W:Adr) (Γ:RF.Gm) (E:XK),W.T=T->CxS X W Γ E cl k->∀s,PS X s (tF X.K W E (kt.s Γ s))
def KitA (kt:RF.Kit)(T:Tab)(cl:RF.Calls)(k:Nat):Prop:=∀(X:Cx) (W:Adr) (Γ:RF.Gm) (E:XK),W.T=T->CxS X W Γ E cl k->∀(x:Str) (px:Pos) (e:Expr) (pos:Pos) (i:Nat),RF.slot Γ x=some i->PS X (.Assign [.Name x px] e pos) (tF X.K W E (RF.setS i (kt.e Γ e)))
theorem ps_setBad {st:Stmt}{i:Nat}:PS X st (tF X.K W E (RF.setS i RF.badC)):=fun _ _ _ _ _ _ ⟨_,_,_,_,g⟩=>g.elim
theorem stepA_ok (KO:KitE kt W.T cl k)(C:CxS X W Γ E cl k)(x:Str)(px:Pos)(e:Expr)(pos:Pos)(i:Nat)(hi:RF.slot Γ x=some i):PS X (.Assign [.Name x px] e pos) (tF X.K W E (RF.setS i (RF.stepE W.T cl kt Γ e))):=by
 cases hc:RF.isComp e with
 | false=>exact ss_set C hi (stepE_ok KO C.toCxK e) (swaps_no hc)
 | true=>
  cases e with
  | ListComp elt gens sc p=>
   show PS X _ (tF X.K W E (RF.setS i (match RF.compG W.T kt Γ (.ListComp elt gens sc p) with | some c=>fun ρ S=>(c ρ S).bind fun ys S1=>RF.newO (.lst ys) S1 | none=>RF.badC)))
   split
   ·rename_i c hcg;exact ss_comp C KO hi hcg
   ·exact ps_setBad
  | SetComp _ _ _ _=>exact ps_setBad
  | DictComp kx vx gens sc p=>
   show PS X _ (tF X.K W E (RF.setS i (match RF.compD W.T kt Γ (.DictComp kx vx gens sc p) with | some c=>fun ρ S=>(c ρ S).bind fun ys S1=>RF.newO (.dic ys) S1 | none=>RF.badC)))
   split
   ·rename_i c hcg;exact ss_compD C KO hi hcg
   ·exact ps_setBad
  | _=>simp [RF.isComp] at hc
theorem asgT_ok (he:∀e,PE X e (tE X.K W E (kt.e Γ e)))(C:CxS X W Γ E cl k)(ts:List Expr)(kk:Nat)(pt:Pos)(e:Expr)(p:Pos):PS X (.Assign [.Tuple ts kk pt] e p) (tF X.K W E (RF.asgT kt Γ ts e)):=by
 unfold RF.asgT
 split
 ·split
  ·rename_i i j hst
   unfold RF.starOf at hst
   split at hst
   ·split at hst
    ·rename_i i' j' h1 h2
     split at hst
     ·cases hst
     ·cases hst
      split
      ·exact ps_bad
      ·rename_i hne
       simp only [not_or,Bool.not_eq_true] at hne
       exact ss_star C h1 h2 (he _) (noPair fun es k2 p2 z=>by rw [z] at hne;cases hne.2)
    ·cases hst
   ·cases hst
  ·exact ps_bad
 ·rename_i is hi
  have gen:∀e,(∀es k2 p2,e ≠ .Tuple es k2 p2)->PS X (.Assign [.Tuple ts kk pt] e p) (tF X.K W E (if RF.isComp e=true then RF.badS else RF.tupS is (kt.e Γ e))):=fun e hne=>by
   split
   ·exact ps_bad
   ·exact ss_tup C hi (he _) (noPair hne)
  cases e with
  | Tuple es k2 p2=>
   exact ps_bad
  | _=>exact gen _ fun _ _ _ z=>by cases z
theorem asgS_ok (KO:KitE kt W.T cl k)(KA:KitA kt W.T cl k)(C:CxS X W Γ E cl k)(tg e:Expr)(p:Pos):PS X (.Assign [tg] e p) (tF X.K W E (RF.asgS W.T kt Γ tg e)):=by
 have he:=fun e=>KO.e rfl C.toCxK e
 cases tg with
 | Name x px=>
  show PS X _ (tF X.K W E (match RF.slot Γ x with | some i=>RF.setS i (kt.e Γ e) | none=>RF.badS))
  split
  ·rename_i i hi;exact KA _ _ _ _ rfl C x px e p i hi
  ·exact ps_bad
 | Tuple ts kk pt=>exact asgT_ok he C ts kk pt e p
 | Attribute a f pa=>
  show PS X _ (tF X.K W E (match RF.ixOf W.T.nams f with | some i=>RF.fldS W.T.plain (kt.e Γ a) i (kt.e Γ e) | none=>RF.badS))
  split
  ·rename_i i hi;exact ss_fld C hi (he _) (he _)
  ·exact ps_bad
 | Subscript a i pa=>
  show PS X _ (tF X.K W E (if RF.isComp e=true\/RF.noSlice i=false then RF.badS else RF.subS (kt.e Γ a) (kt.e Γ i) (kt.e Γ e)))
  split
  ·exact ps_bad
  ·rename_i h
   simp only [not_or,Bool.not_eq_true,Bool.not_eq_false] at h
   exact ss_sub C (he _) (he _) (he _) h.2
 | _=>exact ps_bad
theorem raiseG_ok (he:∀e,PE X e (tE X.K W E (kt.e Γ e)))(C:CxS X W Γ E cl k)(f:Expr)(args:List Expr)(kws:List Keyword)(cp p:Pos):PS X (.Raise (some (.Call f args kws cp)) none p) (tF X.K W E (RF.raiseG W.T kt Γ f args kws)):=by
 cases f with
 | Name x np=>
  show PS X _ (tF X.K W E (match RF.ixOf W.T.excs x with
   | some c=>if RF.isGl Γ x=true/\kws.isEmpty=true/\args.all RF.plainE=true/\args.isEmpty=false/\args.length<=100 then (match W.T.pay.lookup c with
    | none=>RF.raiseS c (args.map (kt.e Γ))
    | some _=>match args with
     | [a]=>RF.raiseX c (kt.e Γ a)
     | _=>RF.badS) else RF.badS
   | none=>RF.badS))
  split
  ·rename_i c hc
   split
   ·rename_i h
    obtain⟨h1,h2,h3,h4,h5⟩:=h
    cases kws with
    | cons _ _=>cases h2
    | nil=>
     split
     ·rename_i hp;exact ss_raise C hc hp h1 (all_mem he) h3 h4 h5
     ·rename_i f hp
      split
      ·rename_i a
       exact ss_raiseX C hc hp h1 (he a) (by simpa using h3)
      ·exact ps_bad
   ·exact ps_bad
  ·exact ps_bad
 | _=>exact ps_bad
theorem forB_ok (KO:KitE kt W.T cl k)(KS:KitS kt W.T cl k)(C:CxS X W Γ E cl k)(tg it:Expr)(body:List Stmt)(p:Pos):PS X (.For tg it body [] p) (tF X.K W E (RF.forB W.T kt Γ tg it body)):=by
 have hsF:∀ss:List Stmt,PSs (X.fly E) ss (tF X.K W E (RF.seqS (ss.map (kt.s Γ)))):=fun ss=>sss (X:=X.fly E) fun s _=>KS _ _ _ _ rfl C.flyX s
 have hsN:∀ss:List Stmt,PSs X.nox ss (tF X.K W E0 (RF.seqS (ss.map (kt.s Γ)))):=fun ss=>sss (X:=X.nox) fun s _=>KS _ _ _ _ rfl C.nox s
 cases tg with
 | Name x px=>
  show PS X _ (tF X.K W E (match RF.slot Γ x,RF.srcOf W.T kt Γ it with
   | some i,some s=>if RF.isRounds it=true then RF.forTS RF.roundsPad (kt.e Γ it) i (RF.seqS (body.map (kt.s Γ))) else RF.forS s [i] true (RF.seqS (body.map (kt.s Γ)))
   | _,_=>RF.badS))
  split
  ·rename_i i src hi hsrc
   split
   ·rename_i hr;exact ss_forT C KO hi hr (hsN _)
   ·obtain⟨h1,h2⟩:=slot_ok C.flyX hi
    exact ss_for C KO hsrc (pg_name C.flyX.nd h1 h2 (.inl (C.fn _))) tg_name (hsF _)
  ·exact ps_bad
 | Tuple ts kk pt=>
  show PS X _ (tF X.K W E (match RF.slots Γ ts,RF.srcOf W.T kt Γ it with | some is,some s=>RF.forS s is false (RF.seqS (body.map (kt.s Γ))) | _,_=>RF.badS))
  split
  ·rename_i is src hi hsrc
   obtain⟨a1,a2,a3⟩:=slots_each (env:=(X.fly E).env) hi
   exact ss_for C KO hsrc (pg_tup C.calm (slots_pgs C.flyX hi) rfl a2) (tg_tup (a3.trans a1.symm)) (hsF _)
  ·exact ps_bad
 | _=>exact ps_bad
theorem stepS_ok (KO:KitE kt W.T cl k)(KA:KitA kt W.T cl k)(KS:KitS kt W.T cl k)(C:CxS X W Γ E cl k)(s:Stmt):PS X s (tF X.K W E (RF.stepS W.T cl kt Γ s)):=by
 have he:=fun e=>KO.e rfl C.toCxK e
 have hs:∀ss:List Stmt,PSs X ss (tF X.K W E (RF.seqS (ss.map (kt.s Γ)))):=fun ss=>sss fun s _=>KS _ _ _ _ rfl C s
 cases s with
 | Pass p=>exact ss_pass
 | Expr e p=>
  show PS X _ (tF X.K W E (if RF.isComp e=true then RF.badS else RF.exprS (kt.e Γ e)))
  split
  ·exact ps_bad
  ·rename_i hc;exact ss_expr (he _) (by simpa using hc)
 | Return o p=>cases o with
  | some e=>exact ss_ret (he _)
  | none=>exact ps_bad
 | If c a b p=>exact ss_if (KO.t rfl C.toCxK _) (hs _) (hs _)
 | Assign ts e p=>
  match ts with
  | [tg]=>exact asgS_ok KO KA C tg e p
  | []=>exact ps_bad
  | _::_::_=>exact ps_bad
 | Raise o c p=>
  cases o with
  | none=>exact ps_bad
  | some o=>
   cases o with
   | Call f args kws cp=>cases c with
    | none=>exact raiseG_ok he C f args kws cp p
    | some _=>exact ps_bad
   | _=>exact ps_bad
 | For tg it body els q=>
  show PS X _ (tF X.K W E (if els.isEmpty=true then RF.forB W.T kt Γ tg it body else RF.badS))
  split
  ·rename_i h
   cases els with
   | nil=>exact forB_ok KO KS C tg it body _
   | cons _ _=>cases h
  ·exact ps_bad
 | _=>exact ps_bad
theorem kitA_ok (T:Tab)(cl:RF.Calls)(k:Nat):∀n,KitA (RF.kit T cl n) T cl k
 | 0=>fun _ _ _ _ _ _ _ _ _ _ _ _=>ps_setBad
 | n+1=>by
  intro X W Γ E hT C x px e pos i hi
  subst hT
  exact stepA_ok (kitE_ok _ cl k n) C x px e pos i hi
theorem kitS_ok (T:Tab)(cl:RF.Calls)(k:Nat):∀n,KitS (RF.kit T cl n) T cl k
 | 0=>fun _ _ _ _ _ _ _=>ps_bad
 | n+1=>by
  intro X W Γ E hT C s
  subst hT
  exact stepS_ok (kitE_ok _ cl k n) (kitA_ok _ cl k n) (kitS_ok _ cl k n) C s
end
end L2
namespace L2
open PySem PySem.Spec PyProof.Rows
open RF (D O Store Tab)
section
variable {P:Program}{w:World}{K:PySem.W.Frag}{mg:Str->Option Value}{base:Heap}{W:Adr}{cl:RF.Calls}{k:Nat}
theorem fnOf_parts {st:Stmt}{g:RF.Fn}(h:RF.fnOf st=some g):defScope st=g.sc/\defBody st=g.body:=by
 unfold RF.fnOf RF.sfx at h
 cases st with
 | FunctionDef nm a b dl r tp sc ts bd p=>
  dsimp only at h
  split at h
  ·cases h;exact⟨rfl,rfl⟩
  ·cases h
 | _=>cases h
theorem start_env {M:List Addr}{H:Hp}{N:List Str}{ds:List D}{vs:List V}(r:RelDs M H ds vs):REnv M H (RF.startE N ds) (start N vs)/\(RF.startE N ds).length=(start N vs).length:=by
 have hl:=r.length
 refine⟨fun i d e=>?_,?_⟩
 ·unfold RF.startE at e
  unfold start
  have hi:i<ds.length:=by
   rcases Nat.lt_or_ge i ds.length with z | z
   ·exact z
   ·rw [List.getElem?_append_right (by simpa using z),List.getElem?_replicate] at e
    split at e<;>cases e
  rw [List.getElem?_append_left (by simpa using hi),List.getElem?_map] at e
  obtain⟨d',e1,e2⟩:=Option.map_eq_some_iff.mp e
  cases e2
  obtain⟨v,g1,g2⟩:=r.get e1
  exact⟨v,by rw [List.getElem?_append_left (by rw [List.length_map,<-hl];exact hi),List.getElem?_map,g1];rfl,g2⟩
 ·unfold RF.startE start
  simp [hl]
theorem Fun.okC {x qual:Str}{st:Stmt}{f:Addr}{fd:FuncData}{N ps:List Str}{k:Nat}{sp:Sp}(F:Fun K x qual st f fd)(S:FnScope N ps (defScope st))(len:∀vs H Q E,sp vs H Q E->vs.length=ps.length)
 (hbody:∀(A:Around) (outer:List Env) (s:Shared) (H:Hp) (vs:List V) (Q:VK) (E:XK),Room k (A.deeper (envOfC qual (defScope st) s.heap.objs.size f fd.code))->sp vs H Q E ->
   ∃t,PSs (cxOf (CXF P w) P w K mg base N qual (defScope st) f fd.code A outer s H E) (defBody st) t/\t { nx:=fun _ H'=>Q .non H',rt:=Q } (start N vs) H):FnOk P w K mg base (CXF P w) (k+1) f fd ps sp:=by
 obtain⟨oc,od,kV,doc,pm,an,cdv,ct,osl,rfl,lk,hcd⟩:=F.ex
 exact fn_of lk hcd S len fun A outer s H vs Q E hr hsp=>hbody A outer s H vs Q E hr hsp
def LamF (P:Program)(w:World)(K:PySem.W.Frag)(mg:Str->Option Value)(base:Heap)(W:Adr)(qual:Str)(sc:Scope)(f:Addr)(fd:FuncData)(k:Nat):Prop:=∃(c Pt ft Wa:Addr),(Pt,(envOfC qual sc 0 f fd.code).qual ++ "<lambda>")∈W.tb/\(∀p∈W.tb,p.1=Pt->p.2=(envOfC qual sc 0 f fd.code).qual ++ "<lambda>")/\fd.code = .ref c/\PySem.W.codeHdIn K c Pt=true/\BmAt mg base /\
 MetOk P w K mg base ft Wa/\mg "_law_met" = some (.ref ft)/\PySem.W.keepIn K (.ref ft)=true/\∀i,i<W.T.excs.length->PySem.W.kitCls K (.ref (W.x i)) (.ref Wa)=some true
theorem run_okL {x qual:Str}{st:Stmt}{f:Addr}{fd:FuncData}{g:RF.Fn}(F:Fun K x qual st f fd)(p1:defScope st=g.sc)(p2:defBody st=g.body)(S:FnScope g.N g.ps g.sc)(top:TopK P w K mg base W cl k)(hl:g.lam=true->LamF P w K mg base W qual (defScope st) f fd k):FnOk P w K mg base (CXF P w) (k+4) f fd g.ps (spC K W (RF.runFn W.T cl g) g.ps.length):=by
 refine F.okC (k:=k+3) (N:=g.N) (by rw [p1];exact S) (fun vs H Q E h=>h.1) (fun A outer s H vs Q E hr h=>?_)
 obtain⟨hn,M,St,ds,cn,r,gl⟩:=h
 have C:CxS (cxOf (CXF P w) P w K mg base g.N qual (defScope st) f fd.code A outer s H E) W ⟨g.N,g.sc,g.lam⟩ E cl k:=
  ⟨⟨rfl,S.nd,by show Kin g.sc (defScope st);rw [p1];exact Kin.refl _,rfl,hr.mono (by omega),passF flies_cxOf rfl,top,fun z=>by
   obtain⟨c,Pt,ft,Wa,h1,h1u,h2,h3,h4,h6,h7,h8,h9⟩:=hl z
   exact⟨c,Pt,ft,Wa,h1,h1u,h2,h3,h4,hr,h6,h7,h8,h9⟩⟩,flies_cxOf,hr.mono (by omega),rfl,rfl,rfl,rfl,fun e s F=>fly_out rfl rfl rfl rfl (fun _ _ h=>h) F,fun _=>rfl,p1,by show (defScope st).kind=_;rw [p1];exact S.kind⟩
 refine⟨_,by rw [p2];exact sss fun s _=>kitS_ok W.T cl k RF.far _ W ⟨g.N,g.sc,g.lam⟩ E rfl C s,?_⟩
 unfold RF.runFn at gl
 rw [if_pos (r.length.trans hn)] at gl
 obtain⟨e1,e2⟩:=start_env (N:=g.N) r
 refine⟨M,RF.startE g.N ds,St,⟨cn,e1,e2⟩,?_⟩
 show GlF K W E M H (RF.seqS (g.body.map ((RF.kit W.T cl RF.far).s ⟨g.N,g.sc,g.lam⟩)) (RF.startE g.N ds) St) _
 cases ev:RF.seqS (g.body.map ((RF.kit W.T cl RF.far).s ⟨g.N,g.sc,g.lam⟩)) (RF.startE g.N ds) St with
 | nx ρ S'=>rw [ev] at gl;exact fun M' H' σ' s' u'=>gl M' H' .non s'.con u' .non
 | rt d S'=>rw [ev] at gl;exact gl
 | ex y p S'=>rw [ev] at gl;exact gl
 | bk ρ S'=>rw [ev] at gl;exact gl.elim
 | ct ρ S'=>rw [ev] at gl;exact gl.elim
 | bad=>rw [ev] at gl;exact gl.elim
theorem fnOf_lam {st:Stmt}{g:RF.Fn}(h:RF.fnOf st=some g):g.lam=false:=by
 unfold RF.fnOf at h
 split at h
 ·split at h
  ·cases h;rfl
  ·cases h
 ·cases h
theorem run_ok {x qual:Str}{st:Stmt}{f:Addr}{fd:FuncData}{g:RF.Fn}(F:Fun K x qual st f fd)(hf:RF.fnOf st=some g)(S:FnScope g.N g.ps g.sc)(top:TopK P w K mg base W cl k):FnOk P w K mg base (CXF P w) (k+4) f fd g.ps (spC K W (RF.runFn W.T cl g) g.ps.length):=
 run_okL F (fnOf_parts hf).1 (fnOf_parts hf).2 S top fun z=>by rw [fnOf_lam hf] at z;cases z
structure ProgK (P:Program)(w:World)(K:PySem.W.Frag)(mg:Str->Option Value)(base:Heap)(W:Adr)(pr:RF.Prog):Prop where
 T:W.T=pr.T
 cons:∀x d,W.T.cons.lookup x=some d->∃u v,mg x=some u/\RelV v u/\∀M H,RelD M H d v
 fn:∀x i,RF.ixOf W.T.funs x=some i->∃st g f fd,pr.fs[i]?=some st/\RF.fnOf st=some g/\Fun K x x st f fd/\FnScope g.N g.ps g.sc/\mg x=some (.ref f)/\Binds K fd g.ps []/\(pr.lams.contains i=true->∀k,LamF P w K mg base W x (defScope st) f fd k)
 clsG:∀x c,RF.ixOf W.T.clss x=some c->mg x=some (.ref (W.c c))
 clsK:∀c,c<W.T.clss.length->Cls K (W.c c)
 plain:∀c f x,c<W.T.clss.length->W.T.plain c f=true->W.T.nams[f]?=some x->NoAttr K (W.c c) x
 mt:∀c m x,W.T.isM c m=true->W.T.nams[m]?=some x->∃st g f fd q,(pr.ms.find? fun y=>y.1==c&&y.2.1==m)=some (c,m,st)/\RF.fnOf st=some g/\Fun K x q st f fd/\FnScope g.N g.ps g.sc/\Meth K (W.c c) x f/\BindsM K W.T c x fd g.ps/\(x = "__init__"->Mk K (W.c c) f)/\Cls K (W.c c)
 exc:∀x c,RF.ixOf W.T.excs x=some c->mg x=some (.ref (W.x c))/\(W.T.pay.lookup c=none->ExcC K (W.x c))/\∀f,W.T.pay.lookup c=some f->XC P w K (W.x c) f
 blt:∀x∈bNames,mg x=none
 kd:∀x kvs,W.T.kds.lookup x=some kvs->∃p,mg x=some (.ref p)/\KDicAt P w K p kvs
 kt:∀a xs,W.T.kts.lookup a=some xs->xs.length<=100/\∀H,SqT K H a (xs.map V.str)
 xis:∀c,c<W.T.excs.length->XIs K W c
theorem fn_bad {f:Addr}{fd:FuncData}{ps:List Str}{h:List D->Store->RF.R D}{n:Nat}(hb:∀ds S,h ds S = .bad):FnOk P w K mg base (CXF P w) n f fd ps (spC K W h ps.length):=
 ⟨fun vs H Q E z=>z.1,fun A outer s H args us vs Q E hr e0 hbd hv ⟨_,M,S,ds,_,_,g⟩=>by rw [hb] at g;exact g.elim⟩
theorem top_ok {pr:RF.Prog}(G:ProgK P w K mg base W pr):∀n,TopK P w K mg base W (RF.calls pr n) (4*n)
 | 0=>⟨G.cons,fun x i h=>by
  obtain⟨st,g,f,fd,h1,h2,h3,h4,h5,h6,h7⟩:=G.fn x i h
  exact⟨f,fd,g.ps,fn_bad fun _ _=>rfl,fun _ _ _=>rfl,h5,h3.kp,h6⟩,G.clsG,G.clsK,G.plain,fun c m x h hx=>by
  obtain⟨st,g,f,fd,q,h1,h2,h3,h4,h5,h6,h7,h8⟩:=G.mt c m x h hx
  exact⟨f,fd,g.ps,fn_bad fun _ _=>rfl,fun _ _ _=>rfl,h5,h6,h7,h8⟩,G.exc,G.blt,G.kd,G.kt,G.xis⟩
 | n+1=>by
  have ih:=top_ok G n
  refine⟨G.cons,fun x i h=>?_,G.clsG,G.clsK,G.plain,fun c m x h hx=>?_,G.exc,G.blt,G.kd,G.kt,G.xis⟩
  ·obtain⟨st,g,f,fd,h1,h2,h3,h4,h5,h6,h7⟩:=G.fn x i h
   have e:(RF.calls pr (n+1)).f i=RF.runFn W.T (RF.calls pr n) (if pr.lams.contains i=true then g.mark else g):=by
    funext vs S
    show (match pr.fn i with | some g=>RF.runFn pr.T (RF.calls pr n) g vs S | none=>.bad)=_
    unfold RF.Prog.fn
    rw [h1,Option.bind_some,h2,G.T]
    rfl
   rw [e]
   split
   ·rename_i z
    refine⟨f,fd,g.ps,run_okL (g:=g.mark) h3 (fnOf_parts h2).1 (fnOf_parts h2).2 h4 ih fun _=>h7 z _,fun ds S hl=>?_,h5,h3.kp,h6⟩
    unfold RF.runFn
    exact if_neg hl
   ·refine⟨f,fd,g.ps,run_ok h3 h2 h4 ih,fun ds S hl=>?_,h5,h3.kp,h6⟩
    unfold RF.runFn
    rw [if_neg hl]
  ·obtain⟨st,g,f,fd,q,h1,h2,h3,h4,h5,h6,h7,h8⟩:=G.mt c m x h hx
   have e:(RF.calls pr (n+1)).m c m=RF.runFn W.T (RF.calls pr n) g:=by
    funext vs S
    show (match pr.mt c m with | some g=>RF.runFn pr.T (RF.calls pr n) g vs S | none=>.bad)=_
    unfold RF.Prog.mt
    rw [h1,Option.bind_some,h2,G.T]
   rw [e]
   refine⟨f,fd,g.ps,run_ok h3 h2 h4 ih,fun ds S hl=>?_,h5,h6,h7,h8⟩
   unfold RF.runFn
   rw [if_neg hl]
end
end L2
namespace L2
open PySem PySem.Spec PyProof.Rows
open RF (D O Store Tab)
theorem law_callR {P:Program}{w:World}{K:PySem.W.Frag}{mg mb:Str->Option Value}{CX:CXT}{k:Nat}{fa a:Addr}{fd:FuncData}{x:Str}{sp:Sp}{s₁:Shared}{vs:List Value}{ns:List Int}(Ps:List Addr)
 (KX:K.In s₁.heap) (hns:s₁.heap.Ns mainGlobals mg) (hb:s₁.heap.Ns builtinsNs mb) (hbb:∀x:Str,x ≠ "__name__"->mb x=bootBuiltins x) (hlim:s₁.heap.NoLimit) (hg:s₁.gens = #[]) (hBm:BmAt mg s₁.heap) (hPs':∀P∈Ps,∃c,PySem.W.CodeHd s₁.heap c P/\s₁.heap.get? P=some (PySem.W.tabObj #[])) (hKP:∀P∈Ps,K.lookup P=none)
 (ha:s₁.heap.get? a=some { cls:=.type "list",data:=.seq vs.toArray }) (hi:IntsAre vs ns) (hl:ns.length<=sizeLine) (hr:Room k callerA)
 (F:∀base:Heap,K.In base->base.Ns mainGlobals mg->BmAt mg base->FnOk P w K mg base CX k fa fd [x] sp) (hbind:∀(s:Shared) (u:Value),BindsTo s fd ⟨[u],[]⟩ [(x,u)])
 (hsp:∀H:Hp,(∀P∈Ps,H P=some (.tbl #[]))->RolAt K H a (ns.map V.int)->sp [.ref a] H (fun v _=>v = .bl true) fun _ _ _=>False)
 (hCX:∀H e s',CX [] H s₁ (fun _ _ _=>False) e s'->False):
 codeAny (model P w) callerA (.call (.ref fa) ⟨[.ref a],[]⟩) (fun r s'=>r = .ok (.ret (.bool true))/\OldK s₁.heap s'.heap/\s'.os=s₁.os/\AllBare s'.gens) s₁:=by
 have hPs:∀P∈Ps,s₁.heap.get? P=some (PySem.W.tabObj #[]):=fun P hP=>let ⟨_,_,e⟩:=hPs' P hP;e
 have rv:=vals_ints hi
 have lenV:=hi.length
 have core:∀H:Hp,OnlyT Ps H->(∀P∈Ps,H P=some (.tbl #[]))->RolAt K H a (ns.map V.int)->HOk P w H s₁.heap->(∀b,H b≠none->b=a\/b∈Ps)->(H a≠none->K.lookup a=none) ->
  codeAny (model P w) callerA (.call (.ref fa) ⟨[.ref a],[]⟩) (fun r s'=>r = .ok (.ret (.bool true))/\OldK s₁.heap s'.heap/\s'.os=s₁.os/\AllBare s'.gens) s₁:=by
  intro H hO hP hS hok hA hK
  have base_of:∀{b:Addr} {o:Obj},s₁.heap.get? b=some o->H b=none->(hidT s₁.heap H).get? b=some o:=fun e n=>hidT_get e n
  have noA:∀{b:Addr} {o:Obj},s₁.heap.get? b=some o->(∀us n,o.data ≠ .seq us n)->(∀us,o.data ≠ .fields us)->H b=none:=fun {b o} e d1 d2=>by
   cases q:H b with
   | none=>rfl
   | some u=>
    rcases hA b (by rw [q];simp) with z | z
    ·rw [z,ha] at e;cases e;exact absurd rfl (d1 _ _)
    ·rw [hPs b z] at e;cases e;exact absurd rfl (d2 _)
  have nsK:∀{b:Addr} {m:Str->Option Value},s₁.heap.Ns b m->(hidT s₁.heap H).Ns b m:=fun {b m} ⟨o,es,ep,e,d,r⟩=>⟨o,es,ep,base_of e (noA e (fun _ _ z=>by rw [d] at z;cases z) fun _ z=>by rw [d] at z;cases z),d,r⟩
  have hKb:K.In (hidT s₁.heap H):=fun b o e=>base_of (KX b o e) (by
   cases q:H b with
   | none=>rfl
   | some u=>
    rcases hA b (by rw [q];simp) with z | z
    ·subst z
     rw [hK (by rw [q];simp)] at e;cases e
    ·rw [hKP b z] at e;cases e)
  have hBb:BmAt mg (hidT s₁.heap H):=by
   obtain⟨bm,ob,b1,b2,b3,b4,b5,b6,b7⟩:=hBm
   exact⟨bm,ob,b1,b2,b3,base_of b4 (noA b4 (fun _ _ z=>by rw [b7] at z;cases z) fun _ z=>by rw [b7] at z;cases z),b5,b6,b7⟩
  have hM:Mod K mg (hidT s₁.heap H):=⟨hKb,nsK hns,⟨mb,nsK hb,hbb⟩,let ⟨mc,h1,h2⟩:=hlim;⟨mc,nsK h1,h2⟩⟩
  have e0:Env0 P w K mg (hidT s₁.heap H) callerA [] s₁ H:=⟨rfl,hM,fun b o e=>of_hidT e,Nat.le_of_eq (hidT_size _ _),trivial,fun b hb=>absurd (show b∈([]:List Addr) from hb) (by simp),hok,.of_eq hg⟩
  refine codeAny_mono ((F _ hKb (nsK hns) hBb).run callerA [] s₁ H ⟨[.ref a],[]⟩ [.ref a] [.ref a] _ _ hr e0 (hbind s₁ (.ref a)) (.cons rfl .nil) (hsp H hP hS)) fun r s' h=>?_
  cases r with
  | error e=>exact (hCX H e s' h).elim
  | ok fl=>
   cases fl with
   | next=>exact False.elim h
   | brk=>exact False.elim h
   | cont=>exact False.elim h
   | ret u=>
    obtain⟨v,H',os,bare,un,hok',r',q⟩:=h
    have q':v = .bl true:=q
    subst q'
    obtain rfl:u=Value.bool true:=r'
    refine⟨rfl,⟨fun b o e=>?_,fun b o e=>un.there b o e (by simp)⟩,os,bare⟩
    cases q:H b with
    | none=>exact .inl (un.keep b o e q (fun z=>absurd (show b∈([]:List Addr) from z) (by simp)) (by simp))
    | some u=>
     rcases hO b with z | ⟨ob,xs,z⟩|⟨hb,z⟩
     ·rw [q] at z;cases z
     ·have z2:=un.frzs b ob _ z
      obtain⟨e1,_⟩:=hok b _ z
      obtain⟨e2,_⟩:=hok' b _ z2
      rw [e] at e1;cases e1
      exact .inl e2
     ·obtain⟨more,z2⟩:=un.tbls b _ z
      have e2:s'.heap.get? b=some { cls:=.none,data:=.fields (#[]++more) }:=hok' b _ z2
      obtain⟨c,cd,eP⟩:=hPs' b hb
      rw [eP] at e
      cases e
      exact .inr (.inl ⟨(cd.tab eP).isCodeTable,rfl,#[],more,rfl,e2⟩)
 have aP:a∉Ps:=fun z=>by have:=hPs a z;rw [ha] at this;cases this
 cases hk:K.lookup a with
 | some o=>
  have e:=KX a o hk
  rw [ha] at e
  cases e
  refine core (fun b=>if b∈Ps then some (.tbl #[]) else none) (fun b=>?_) (fun b hb=>if_pos hb) (.inr ⟨_,vs.toArray,_,hk,rfl,rfl,rfl,by rw [List.size_toArray,lenV];exact hl,by simpa using rv⟩) (fun b u z=>?_) (fun b z=>?_) fun z=>absurd (if_neg aP) z
  ·by_cases hb:b∈Ps
   ·exact .inr (.inr ⟨hb,if_pos hb⟩)
   ·exact .inl (if_neg hb)
  ·by_cases hb:b∈Ps
   ·have z':=(if_pos hb).symm.trans z
    cases z'
    exact hPs b hb
   ·have z':=(if_neg hb).symm.trans z
    cases z'
  ·by_cases hb:b∈Ps
   ·exact .inr hb
   ·exact absurd (if_neg hb) z
 | none=>
  refine core (fun b=>if b∈Ps then some (.tbl #[]) else if b=a then some (.frz { cls:=.type "list",data:=.seq vs.toArray } (.lst (ns.map V.int))) else none) (fun b=>?_) (fun b hb=>if_pos hb)
   (.inl ⟨{ cls:=.type "list",data:=.seq vs.toArray },(if_neg aP).trans (if_pos rfl)⟩) (fun b u z=>?_) (fun b z=>?_) fun _=>hk
  ·by_cases hb:b∈Ps
   ·exact .inr (.inr ⟨hb,if_pos hb⟩)
   ·by_cases hb2:b=a
    ·exact .inr (.inl ⟨_,_,(if_neg hb).trans (if_pos hb2)⟩)
    ·exact .inl ((if_neg hb).trans (if_neg hb2))
  ·by_cases hb:b∈Ps
   ·have z':=(if_pos hb).symm.trans z
    cases z'
    exact hPs b hb
   ·by_cases hb2:b=a
    ·have z':=((if_neg hb).trans (if_pos hb2)).symm.trans z
     cases z'
     subst hb2
     exact⟨ha,by rw [List.length_map];exact hl,vs,_,rv,ha⟩
    ·have z':=((if_neg hb).trans (if_neg hb2)).symm.trans z
     cases z'
  ·by_cases hb:b∈Ps
   ·exact .inr hb
   ·by_cases hb2:b=a
    ·exact .inl hb2
    ·exact absurd ((if_neg hb).trans (if_neg hb2)) z
theorem walk_ofR {l:PySem.W.OpenLaw}{n k:Nat}{q:Program}{loose:List Str}{XP:(Str->Option Value)->Heap->Prop}{YP:World->Heap->Prop}{d:DefRec}{K:Params->PySem.W.Frag}{CX:World->CXT}{sp:World->Sp}{x:Str}(Ps:List Addr)
 (hn:l.most=some n) (hn2:n<=sizeLine) (hdf:d.params.defaults=[]) (hr:Room k callerA) (hY:∀(w:World) (h:Heap),YP w h->(K w.params).In h)
 (hPs:∀(w:World) (h:Heap),YP w h->(K w.params).In h->∀P∈Ps,∃c,PySem.W.CodeHd h c P/\h.get? P=some (PySem.W.tabObj #[])) (hKP:∀(w:World),∀P∈Ps,(K w.params).lookup P=none)
 (F:∀(w:World) (mg:Str->Option Value) (fa:Addr) (h:Heap),(K w.params).In h->h.Ns mainGlobals mg->mg d.name=some (.ref fa) ->
   ∃fd:FuncData,(∀(s:Shared) (u:Value),BindsTo s fd ⟨[u],[]⟩ [(x,u)]) /\
    ∀base:Heap,(K w.params).In base->base.Ns mainGlobals mg->BmAt mg base->FnOk l.prog w (K w.params) mg base (CX w) k fa fd [x] (sp w))
 (hsp:∀(w:World) (H:Hp) (a:Addr) (ns:List Int),ns.length<=n->(∀P∈Ps,H P=some (.tbl #[]))->RolAt (K w.params) H a (ns.map V.int)->sp w [.ref a] H (fun v _=>v = .bl true) fun _ _ _=>False)
 (hCX:∀(w:World) (H:Hp) (s:Shared) (e:Value) (s':Shared),CX w [] H s (fun _ _ _=>False) e s'->False):
 PySem.W.WalkO q loose XP YP l.row.toRowW d [] (fun f vs=>PySem.call f vs):=by
 refine Att.attach_call hn hdf fun w s₀ s₁ mg mb fa o pm cd doc a vs ns G Y ho hd hcd hmg hobj hints hlen hg=>?_
 have KX:=hY w _ Y
 obtain⟨fd,hb,hF⟩:=F w mg fa _ KX G.T.g hmg
 have hBm:BmAt mg s₁.heap:=by
  obtain⟨bm,ob,b1,b2,b3,b4,b5,b6⟩:=G.T.bmain
  refine⟨bm,ob,b1,b2,fun z=>?_,b3,b4,b5,b6⟩
  obtain⟨o,es,ep,e,d,_⟩:=G.T.g
  rw [z,e] at b3
  cases b3
  rw [d] at b6
  cases b6
 exact law_callR Ps KX G.T.g G.T.b G.T.builtins G.T.nolimit hg hBm (hPs w _ Y KX) (hKP w) hobj hints (Nat.le_trans hlen hn2) hr hF hb (fun H hP hS=>hsp w H a ns hlen hP hS) fun H e s'=>hCX w H s₁ e s'
theorem law_sp {K:PySem.W.Frag}{W:Adr}{f:List D->Store->RF.R D}{H:Hp}{a:Addr}{ns:List Int}{S':Store}(nd:W.T.nams.Nodup)(ht:∀p∈W.tb,H p.1=some (.tbl #[]))(h:f [.ref 0] [.rol (ns.map D.int)] = .ok (.bl true) S')(r:RolAt K H a (ns.map V.int)):spC K W f 1 [.ref a] H (fun v _=>v = .bl true) fun _ _ _=>False:=by
 have relI:∀(M:List Addr) (l:List Int),RelDs M H (l.map D.int) (l.map V.int):=fun M l=>by
  induction l with
  | nil=>exact .nil
  | cons x xs ih=>exact .cons (.int x) ih
 refine⟨rfl,[a],[.rol (ns.map D.int)],[.ref 0],⟨rfl,nd,fun i j b h1 h2 r1 _=>?_,fun i o b h1 h2=>?_,fun p hp=>⟨#[],ht p hp,trivial,fun pos cv h=>by cases h⟩⟩,.cons (.ref rfl) .nil,?_⟩
 ·cases i with
  | zero=>simp [isRol] at r1
  | succ i=>simp at h1
 ·cases i with
  | zero=>
   simp at h1 h2
   subst h1 h2
   exact⟨_,r,relI _ _⟩
  | succ i=>simp at h1
 ·rw [h]
  intro M' H' v _ _ rv
  cases rv
  rfl
def scopeB (g:RF.Fn):Bool:=(g.sc.kind == .function) && !g.sc.isCoroutine && !g.sc.isGenerator&&RF.nodupB g.N&&decide (g.N.take g.ps.length=g.ps)&&g.ps.all (fun x=>g.sc.names.lookup x==some .local||g.sc.names.lookup x==some .cell)&&g.sc.names.all (fun p=>p.2 != .free)
theorem scope_of {g:RF.Fn}(h:scopeB g=true):FnScope g.N g.ps g.sc:=by
 unfold scopeB at h
 simp only [Bool.and_eq_true,List.all_eq_true,decide_eq_true_eq,Bool.or_eq_true] at h
 obtain⟨⟨⟨⟨⟨⟨h1,h2⟩,h3⟩,h4⟩,h5⟩,h6⟩,h7⟩:=h
 refine⟨eq_of_beq h1,by simpa using h2,by simpa using h3,nodup_of h4,h5,fun x hx=>?_,fun y hy=>?_⟩
 ·rcases h6 x hx with z | z
  ·exact .inl (eq_of_beq z)
  ·exact .inr (eq_of_beq z)
 ·simpa using h7 y hy
def FnAtK (P:Program)(w:World)(K:PySem.W.Frag)(mg:Str->Option Value)(base:Heap)(W:Adr)(pr:RF.Prog)(x:Str)(i:Nat):Prop:=∃st g f fd,pr.fs[i]?=some st/\RF.fnOf st=some g/\Fun K x x st f fd/\FnScope g.N g.ps g.sc/\mg x=some (.ref f)/\Binds K fd g.ps []/\(pr.lams.contains i=true->∀k,LamF P w K mg base W x (defScope st) f fd k)
theorem fnAt_mk {P:Program}{w:World}{K:PySem.W.Frag}{mg:Str->Option Value}{base:Heap}{W:Adr}{pr:RF.Prog}{x:Str}{i:Nat}{st:Stmt}{g:RF.Fn}{f:Addr}{fd:FuncData}(F:Fun K x x st f fd)(h1:pr.fs[i]?=some st)(h2:RF.fnOf st=some g)(h3:scopeB g=true)(h4:mg x=some (.ref f))(h5:Binds K fd g.ps [])(h6:pr.lams.contains i=true->∀k,LamF P w K mg base W x (defScope st) f fd k):FnAtK P w K mg base W pr x i:=
 ⟨st,g,f,fd,h1,h2,F,scope_of h3,h4,h5,h6⟩
def MtAtK (K:PySem.W.Frag)(W:Adr)(pr:RF.Prog)(c m:Nat)(x:Str):Prop:=∃st g f fd q,(pr.ms.find? fun y=>y.1==c&&y.2.1==m)=some (c,m,st)/\RF.fnOf st=some g/\Fun K x q st f fd/\FnScope g.N g.ps g.sc/\Meth K (W.c c) x f/\BindsM K W.T c x fd g.ps/\(x = "__init__"->Mk K (W.c c) f)/\Cls K (W.c c)
theorem mtAt_mk {K:PySem.W.Frag}{W:Adr}{pr:RF.Prog}{c m:Nat}{x q:Str}{st:Stmt}{g:RF.Fn}{f:Addr}{fd:FuncData}(F:Fun K x q st f fd)(h1:(pr.ms.find? fun y=>y.1==c&&y.2.1==m)=some (c,m,st))(h2:RF.fnOf st=some g)(h3:scopeB g=true)(h4:Meth K (W.c c) x f)(h5:BindsM K W.T c x fd g.ps)(h6:x = "__init__"->Mk K (W.c c) f)(h7:Cls K (W.c c)):MtAtK K W pr c m x:=
 ⟨st,g,f,fd,q,h1,h2,F,scope_of h3,h4,h5,h6,h7⟩
def exNs (es:Array DictEntry):Bool:=es.toList.all (fun e=>match e.key with | .str n _=>!(n==("__init__":Str)) | _=>false)
theorem exNs_ok {K:PySem.W.Frag}{N:Addr}{o:Value}{od:Option Addr}{es:Array DictEntry}{ep:Nat}{sl:Array (Option Value)}(l:K.lookup N=some ⟨o,od,.dict es ep,sl⟩)(e:exNs es=true)(h:Heap)(X:K.In h):∃mN,h.Ns N mN/\mN "__init__" = none:=by
 unfold exNs at e
 rw [List.all_eq_true] at e
 refine⟨fun x=>nsFind es x,⟨_,es,ep,X _ _ l,rfl,fun d hd=>?_,fun _=>rfl⟩,?_⟩
 ·have:=e d (by simpa using hd)
  split at this
  ·rename_i n t hk
   exact⟨n,t,hk⟩
  ·cases this
 ·show findBy (fun n v=>Value.isStr v n) es ("__init__":Str)=none
  unfold findBy
  have:es.find? (fun d=>Value.isStr d.key ("__init__":Str))=none:=by
   rw [Array.find?_eq_none]
   intro d hd hx
   have:=e d (by simpa using hd)
   split at this
   ·rename_i n t hk
    rw [hk] at hx
    have hx:(n==("__init__":Str))=true:=hx
    rw [hx] at this
    cases this
   ·cases this
  rw [this]
  rfl
theorem excC_mk {K:PySem.W.Frag}{C W N:Addr}{nm q:Str}{bs sub:List Value}{hd ab:Bool}{sn:List Str}{col:Option Bool}{dd:Option Addr}{ka kb kc kd kf:Option Value}{oN:Value}{odN:Option Addr}{es:Array DictEntry}{ep:Nat}{slN:Array (Option Value)}{oW oNW:Value}{odW odNW:Option Addr}{cdW:ClassData}{slW slNW:Array (Option Value)}{esW:Array DictEntry}{epW:Nat}
 (l:K.lookup C=some (excClassObj nm q C N bs (.ref W::[.type "ValueError",.type "Exception",.type "BaseException",.type "object"]) hd sn sub ab col dd ka kb kc kd kf "ValueError.__new__")) (lN:K.lookup N=some ⟨oN,odN,.dict es ep,slN⟩) (eN:exNs es=true)
 (lW:K.lookup W=some ⟨oW,odW,.cls cdW,slW⟩) (lNW:K.lookup cdW.ns=some ⟨oNW,odNW,.dict esW epW,slNW⟩) (eW:exNs esW=true):ExcC K C:=by
 refine⟨nm,q,N,bs,_,hd,sn,sub,ab,col,dd,ka,kb,kc,kd,kf,l,by simp,fun h X=>exNs_ok lN eN h X,fun h X=>?_⟩
 obtain⟨mW,hW,hi⟩:=exNs_ok lNW eW h X
 exact .own (X _ _ lW) hW hi .base
theorem lookup_mem {l:List (Str×D)}{x:Str}{d:D}(h:l.lookup x=some d):∃p,p∈l/\x=p.1/\d=p.2:=⟨(x,d),PySem.mem_of_lookup h,rfl,rfl⟩
def spLaw (K:PySem.W.Frag)(T:Tab)(tb:List (Addr×Str))(f:List D->Store->RF.R D):Sp:=fun vs H Q E=>vs.length=1/\∀W:Adr,W.T=T->W.tb=tb->spC K W f 1 vs H Q E
theorem fn_law {P:Program}{w:World}{K:PySem.W.Frag}{mg:Str->Option Value}{base:Heap}{W:Adr}{pr:RF.Prog}{n i:Nat}{st:Stmt}{g:RF.Fn}{f:Addr}{fd:FuncData}{x:Str}(G:ProgK P w K mg base W pr)(F:Fun K x x st f fd)(h1:pr.fs[i]?=some st)(h2:RF.fnOf st=some g)(h3:scopeB g=true)(h4:g.ps=[Str.ofString "_law_script"])(h7:pr.lams.contains i=true->∀k,LamF P w K mg base W x (defScope st) f fd k):
 FnOk P w K mg base (CXF P w) (4*n+4) f fd ["_law_script"] (spLaw K pr.T W.tb ((RF.calls pr (n+1)).f i)):=by
 have e:(RF.calls pr (n+1)).f i=RF.runFn W.T (RF.calls pr n) (if pr.lams.contains i=true then g.mark else g):=by
  funext vs S
  show (match pr.fn i with | some g=>RF.runFn pr.T (RF.calls pr n) g vs S | none=>.bad)=_
  unfold RF.Prog.fn
  rw [h1,Option.bind_some,h2,G.T]
  rfl
 rw [e]
 split
 ·rename_i z
  have R:=run_okL (g:=g.mark) F (fnOf_parts h2).1 (fnOf_parts h2).2 (scope_of h3) (top_ok G n) fun _=>h7 z _
  have h4':g.mark.ps=[Str.ofString "_law_script"]:=h4
  rw [h4'] at R
  exact R.imp fun vs H Q E z=>z.2 W G.T rfl
 ·have R:=run_ok F h2 (scope_of h3) (top_ok G n)
  rw [h4] at R
  exact R.imp fun vs H Q E z=>z.2 W G.T rfl
end L2
namespace L2
open PySem
theorem kit_self {K:PySem.W.Frag}{C:Addr}:PySem.W.kitOne K (.ref C) (.ref C)=some true:=by
 unfold PySem.W.kitOne
 rw [if_pos (by simp)]
theorem kit_cls {K:PySem.W.Frag}{C D:Addr}{b:Bool}{cd:ClassData}(hc:PySem.W.clsIn K D=some cd)(ht:PySem.W.typeIn K (.ref D)=some (.type "type"))(hs:PySem.W.subIn K (.ref C) (.ref D)=some b):PySem.W.kitCls K (.ref C) (.ref D)=some b:=by
 unfold PySem.W.kitCls
 dsimp only
 rw [hc,ht,if_pos (by simp)]
 exact hs
theorem kit_other {K:PySem.W.Frag}{C D:Addr}{b:Bool}{cd:ClassData}(hn:(Value.ref C==Value.ref D)=false)(hc:PySem.W.clsIn K D=some cd)(ht:PySem.W.typeIn K (.ref D)=some (.type "type"))(hs:PySem.W.subIn K (.ref C) (.ref D)=some b):PySem.W.kitOne K (.ref C) (.ref D)=some b:=by
 unfold PySem.W.kitOne
 rw [hn,if_neg (by decide)]
 exact kit_cls hc ht hs
theorem kit_val {K:PySem.W.Frag}{C:Addr}(hs:PySem.W.subIn K (.ref C) (.type "ValueError")=some true):PySem.W.kitOne K (.ref C) (.type "ValueError")=some true:=by
 unfold PySem.W.kitOne
 rw [if_neg (by simp)]
 unfold PySem.W.kitCls
 dsimp only
 rw [if_pos (by decide +kernel)]
 exact hs
theorem flg9 {K:PySem.W.Frag}{C c0 c1 c2 c3 c4 c5 c6 c7 c8:Addr}{kf:Nat->Bool}(h0:PySem.W.kitOne K (.ref C) (.ref c0)=some (kf 0))(h1:PySem.W.kitOne K (.ref C) (.ref c1)=some (kf 1))(h2:PySem.W.kitOne K (.ref C) (.ref c2)=some (kf 2))(h3:PySem.W.kitOne K (.ref C) (.ref c3)=some (kf 3))(h4:PySem.W.kitOne K (.ref C) (.ref c4)=some (kf 4))
 (h5:PySem.W.kitOne K (.ref C) (.ref c5)=some (kf 5)) (h6:PySem.W.kitOne K (.ref C) (.ref c6)=some (kf 6)) (h7:PySem.W.kitOne K (.ref C) (.ref c7)=some (kf 7)) (h8:PySem.W.kitOne K (.ref C) (.ref c8)=some (kf 8)) {i:Nat} {c:Addr} (hc:[c0,c1,c2,c3,c4,c5,c6,c7,c8][i]?=some c):PySem.W.kitOne K (.ref C) (.ref c)=some (kf i):=by
 match i,hc with
 | 0,hc=>cases hc;exact h0
 | 1,hc=>cases hc;exact h1
 | 2,hc=>cases hc;exact h2
 | 3,hc=>cases hc;exact h3
 | 4,hc=>cases hc;exact h4
 | 5,hc=>cases hc;exact h5
 | 6,hc=>cases hc;exact h6
 | 7,hc=>cases hc;exact h7
 | 8,hc=>cases hc;exact h8
 | i+9,hc=>simp at hc
def codeChk (vs:Array Value)(c P:Addr):Bool:=(match (vs[11]?:Option Value) with | some (.ref P')=>P'==P | _=>false) &&
 (match vs.getD 18 .none with | .str _ _=>true | _=>false)&&(match vs.getD 7 .none with | .int _ _=>true | _=>false)&&(match vs.getD 9 .none with | .bool _=>true | _=>false)&&(match vs.getD 10 .none with | .int _ _=>true | _=>false)&&c != P
theorem codeHd_mk {K:PySem.W.Frag}{c P:Addr}{od:Option Addr}{vs:Array Value}{sl:Array (Option Value)}(l:K.lookup c=some ⟨.type "code",od,.fields vs,sl⟩)(e:codeChk vs c P=true):PySem.W.codeHdIn K c P=true:=by
 unfold PySem.W.codeHdIn
 rw [l]
 exact e
end L2
namespace Q81
open PySem
noncomputable def T:RF.Tab where
 cons:=[("SIDE_MOST",.int 7),("HOUSES_LEAST",.int 2),("HOUSES_MOST",.int 8),("NAME_LONGEST",.int 5),("ROOM_MOST",.int 9),("WAIT_LEAST",.int 1),("WAIT_MOST",.int 20),("FIGURES",.str "0123456789"),("FIGURES_MOST",.int 3)]
 nams:="__init__" :: "ask" :: "beside" :: "broken" :: "come" :: "cut" :: "ends" :: "gone" :: "heard" :: "held" :: "house" :: "houses" :: "kept" :: "learned" :: "leave" :: "lose" :: "need_alive" :: "need_house" :: "need_way" :: "number" :: "on_way" :: "patience" :: "posts" :: "put" :: "room" :: "store" :: "taken" :: "things" :: "ticks" :: "waiting" :: []
 funs:="is_whole" :: "is_within" :: "is_side" :: "is_sides" :: "is_way" :: "need_within" :: "need_sides" :: "need_houses" :: "need_ways" :: "both_ways" :: "is_name" :: "is_beginning" :: "need_beginning" :: "read_name" :: "is_letter" :: "is_of_kind" :: "is_deed" :: "need_story" :: "read_number" :: "read_part" :: "read_deed" :: "read_story" :: "_law_cell" :: "_law_drawn" :: "_law_roll" :: "_law_rounds" :: "_law_alone" :: "law" :: []
 clss:="Keeps" :: "Table" :: "House" :: "Net" :: []
 excs:="BadName" :: "BadSides" :: "BadNumber" :: "BadLetter" :: "NoHouse" :: "NoWay" :: "NoLetter" :: "Gone" :: "BadStory" :: []
 meths:=(0,0)::(0,23)::(1,0)::(1,23)::(2,0)::(2,1)::(2,4)::(3,0)::(3,1)::(3,4)::(3,15)::(3,5)::(3,14)::(3,20)::(3,26)::(3,17)::(3,16)::(3,18)::[]
 kwo:=[(2,[("room",.int 4),("wait",.int 6)]),(3,[("room",.int 4),("wait",.int 6)])]
 pay:=[(7,"house")]
 kds:=[("PARTS",[("ask",817),("own",818),("disown",819),("teach",820),("forget",821),("come",822),("lose",823),("cut",824),("mend",825),("leave",826),("settle",827),("tick",828)])]
 kts:=[(826,["house"])]
noncomputable def P:RF.Prog where
 T:=T
 fs:=[top 18,top 19,top 21,top 24,top 25,top 26,top 30,top 31,top 32,top 33,top 39,top 40,top 42,top 43,top 52,top 62,top 63,top 64,top 66,top 67,top 68,top 69,top 71,top 72,top 73,top 74,top 76,top 77]
 ms:=(0,0,inCls (top 46) 0)::(0,23,inCls (top 46) 1)::(1,0,inCls (top 48) 0)::(1,23,inCls (top 48) 1)::(2,0,inCls (top 54) 0)::(2,1,inCls (top 54) 1)::(2,4,inCls (top 54) 2)::(3,0,inCls (top 56) 0)::(3,1,inCls (top 56) 1)::(3,4,inCls (top 56) 7)::(3,15,inCls (top 56) 8)::(3,5,inCls (top 56) 9)::(3,14,inCls (top 56) 11)::(3,20,inCls (top 56) 17)::(3,26,inCls (top 56) 25)::(3,17,inCls (top 56) 26)::(3,16,inCls (top 56) 27)::(3,18,inCls (top 56) 28)::[]
 lams:=[27]
end Q81
namespace RF
open PySem
noncomputable def Wp {α:Type}(r:R α)(Q:α->Store->Prop):Prop:=match r with
 | .ok a S=>Q a S
 | _=>False
theorem wp_bind {α β:Type}{r:R α}{f:α->Store->R β}{Q:β->Store->Prop}(h:Wp r fun a S=>Wp (f a S) Q):Wp (r.bind f) Q:=by
 cases r with
 | ok a S=>exact h
 | ex c p S=>exact h.elim
 | bad=>exact h.elim
theorem wp_mono {α:Type}{r:R α}{Q Q':α->Store->Prop}(h:Wp r Q)(m:∀a S,Q a S->Q' a S):Wp r Q':=by
 cases r with
 | ok a S=>exact m _ _ h
 | ex c p S=>exact h.elim
 | bad=>exact h.elim
theorem wp_ex {α:Type}{r:R α}{Q:α->Store->Prop}(h:Wp r Q):∃a S,r = .ok a S/\Q a S:=by
 cases r with
 | ok a S=>exact⟨a,S,rfl,h⟩
 | ex c p S=>exact h.elim
 | bad=>exact h.elim
theorem wp_of {α:Type}{r:R α}{a:α}{S:Store}{Q:α->Store->Prop}(e:r = .ok a S)(h:Q a S):Wp r Q:=by rw [e];exact h
theorem wp_guard {α:Type}{b:Bool}{r:R α}{Q:α->Store->Prop}(hb:b=true)(h:Wp r Q):Wp (guardR b r) Q:=by rw [hb];exact h
theorem wp_noEx {α:Type}{r:R α}{Q:α->Store->Prop}(h:Wp r Q):Wp (noEx r) Q:=by
 cases r with
 | ok a S=>exact h
 | ex c p S=>exact h.elim
 | bad=>exact h.elim
structure En where
 nx:Env->Store->Prop
 rt:D->Store->Prop
 bk:Env->Store->Prop:=fun _ _=>False
 ct:Env->Store->Prop:=fun _ _=>False
noncomputable def Wf (r:F)(Q:En):Prop:=match r with
 | .nx ρ S=>Q.nx ρ S
 | .rt d S=>Q.rt d S
 | .bk ρ S=>Q.bk ρ S
 | .ct ρ S=>Q.ct ρ S
 | _=>False
theorem wf_on {α:Type}{r:R α}{f:α->Store->F}{Q:En}(h:Wp r fun a S=>Wf (f a S) Q):Wf (onR r f) Q:=by
 cases r with
 | ok a S=>exact h
 | ex c p S=>exact h.elim
 | bad=>exact h.elim
theorem wf_then {r:F}{k:CS}{Q:En}(h:Wf r { Q with nx:=fun ρ S=>Wf (k ρ S) Q }):Wf (r.then k) Q:=by
 cases r with
 | nx ρ S=>exact h
 | rt d S=>exact h
 | bk ρ S=>exact h
 | ct ρ S=>exact h
 | ex c p S=>exact h.elim
 | bad=>exact h.elim
theorem wp_end {r:F}{Q:D->Store->Prop}(h:Wf r { nx:=fun _ S=>Q .non S,rt:=Q }):Wp (endF r) Q:=by
 cases r with
 | nx ρ S=>exact h
 | rt d S=>exact h
 | bk ρ S=>exact h.elim
 | ct ρ S=>exact h.elim
 | ex c p S=>exact h.elim
 | bad=>exact h.elim
theorem wp_comp {chk:Store->Bool}{is:List Nat}{one:Bool}{t:C Bool}{e:C D}{ρ:Env}{items:List D}{Q:List D->Store->Prop}(Inv:Nat->List D->Store->Prop){S:Store}(h0:Inv 0 [] S)(hc:∀i ys S,i<=items.length->Inv i ys S->chk S=true)
 (hs:∀i x ys S,items[i]?=some x->Inv i ys S->∃ρ1,tgt is one x ρ=some ρ1/\Wp (t ρ1 S) fun b S1=>if b=true then Wp (bL e ys ρ1 S1) fun ys' S2=>Inv (i+1) ys' S2 else Inv (i+1) ys S1) (hd:∀ys S,Inv items.length ys S->Q ys S):Wp (compF chk is one t (bL e) ρ items [] S) Q:=by
 have go:∀(l:List D) (i:Nat) (ys:List D) (S:Store),items.drop i=l->i<=items.length->Inv i ys S->Wp (compF chk is one t (bL e) ρ l ys S) Q:=by
  intro l
  induction l with
  | nil=>
   intro i ys S hl hi h
   have:i=items.length:=by
    have:=congrArg List.length hl
    simp at this
    omega
   subst this
   unfold compF
   rw [if_pos (hc _ _ _ (Nat.le_refl _) h)]
   exact hd _ _ h
  | cons x xs ih=>
   intro i ys S hl hi h
   have hx:items[i]?=some x:=by
    have:=congrArg (fun l=>l[0]?) hl
    simpa using this
   have hlt:i<items.length:=(List.getElem?_eq_some_iff.mp hx).1
   have hr:items.drop (i+1)=xs:=by
    have:=congrArg List.tail hl
    simpa using this
   unfold compF
   rw [if_pos (hc _ _ _ hi h)]
   obtain⟨ρ1,e1,w⟩:=hs i x ys S hx h
   simp only [e1]
   refine wp_bind (wp_mono w fun b S1 w=>?_)
   cases b with
   | true=>
    rw [if_pos rfl] at w ⊢
    exact wp_bind (wp_mono w fun y S2 w=>ih (i+1) _ S2 hr hlt w)
   | false=>
    rw [if_neg (by decide)] at w ⊢
    exact ih (i+1) ys S1 hr hlt w
 exact go items 0 [] S rfl (Nat.zero_le _) h0
@[irreducible] noncomputable def callsI (P:Prog)(n:Nat):Calls:=calls P n
theorem callsI_eq (P:Prog)(n:Nat):callsI P n=calls P n:=by unfold callsI;rfl
end RF
namespace Q81
open RF PySem
noncomputable def b_law_cell (cl:Calls):CS:=(seqS [(ifS (testB (cmpE .Eq (varE 0) (lstE []))) (seqS [(retS (binE .Mult (varE 1) (cE (.int 7919))))]) (seqS [])),(retS (binE .Add (ixE (varE 0) (binE .Mod (varE 1) (lenE T.kts (varE 0)))) (binE .Mult (binE .FloorDiv (varE 1) (lenE T.kts (varE 0))) (cE (.int 104729)))))])
theorem e_law_cell (n:Nat)(v0 v1:D)(S:Store):(callsI P (n+1)).f 22 [v0,v1] S=endF (b_law_cell (callsI P n) [some v0,some v1] S):=by simp only [callsI_eq];rfl
noncomputable def b_law_drawn (cl:Calls):CS:=(seqS [(setS 2 (binE .Mod (binE .Add (binE .Mult (varE 0) (cE (.int 6364136223846793005))) (binE .Mult (binE .Add (varE 1) (cE (.int 1))) (cE (.int 1442695040888963407)))) (cE (.int 340282366920938463463374607431768211507)))),(setS 2 (binE .Mod (binE .Mult (varE 2) (varE 2)) (cE (.int 340282366920938463463374607431768211297)))),(setS 2 (binE .Mult (binE .Mult (binE .Add (binE .Mod (varE 2) (cE (.int 18446744073709551557))) (cE (.int 1))) (binE .Add (binE .FloorDiv (varE 2) (cE (.int 18446744073709551557))) (cE (.int 1)))) (varE 2))),(retS (binE .Mod (varE 2) (cE (.int 340282366920938463463374607431768211507))))])
theorem e_law_drawn (n:Nat)(v0 v1:D)(S:Store):(callsI P (n+1)).f 23 [v0,v1] S=endF (b_law_drawn (callsI P n) [some v0,some v1,none] S):=by simp only [callsI_eq];rfl
noncomputable def b_law_roll (cl:Calls):CS:=(seqS [(ifS (testB (cmpE .GtE (ixE (varE 0) (cE (.int 0))) (binE .Pow (cE (.int 10)) (cE (.int 18))))) (seqS [(setS 2 (binE .Mod (ixE (varE 0) (cE (.int 0))) (varE 1))),(subS (varE 0) (cE (.int 0)) (binE .FloorDiv (ixE (varE 0) (cE (.int 0))) (varE 1))),(retS (varE 2))]) (seqS [])),(subS (varE 0) (cE (.int 1)) (binE .Add (ixE (varE 0) (cE (.int 1))) (cE (.int 1)))),(retS (binE .Mod (binE .FloorDiv (callE (cl.f 23) [(ixE (varE 0) (cE (.int 0))),(ixE (varE 0) (cE (.int 1)))]) (cE (.int 8))) (varE 1)))])
theorem e_law_roll (n:Nat)(v0 v1:D)(S:Store):(callsI P (n+1)).f 24 [v0,v1] S=endF (b_law_roll (callsI P n) [some v0,some v1,none] S):=by simp only [callsI_eq];rfl
noncomputable def b_law_rounds (cl:Calls):CS:=(seqS [(retS fun ρ S=>(compI 1 (.range (callE (callB .max2) [(cE (.int 1)),(callE (callB .min2) [(varE 1),(lenE T.kts (varE 0))])])) [0] true always (bL (lstE [(callE (cl.f 22) [(varE 1),(varE 0)]),(cE (.int 0))])) [] ρ S).bind fun ys S1=>newO (.lst ys) S1)])
theorem e_law_rounds (n:Nat)(v0 v1:D)(S:Store):(callsI P (n+1)).f 25 [v0,v1] S=endF (b_law_rounds (callsI P n) [some v0,some v1] S):=by simp only [callsI_eq];rfl
noncomputable def forB (s:Stmt):List Stmt:=match s with | .For _ _ b _ _=>b | _=>[]
noncomputable def lawFn:Fn:=((P.fn 27).getD ⟨[],[],⟨.function,[],false,false,[]⟩,[],false⟩)
noncomputable def bodyS:List Stmt:=forB (lawFn.body.getD 0 (.Pass ⟨0,0,0,0⟩))
noncomputable def Γ:Gm:=⟨["_law_script","_law_dice","_law_met_here","_law_more","_law_net","_law_one"],lawFn.sc,true⟩
@[irreducible] noncomputable def st (cl:Calls)(i:Nat):CS:=(kit P.T cl 23).s Γ (bodyS.getD i (.Pass ⟨0,0,0,0⟩))
noncomputable def sts (cl:Calls)(l:List Nat):CS:=seqS (l.map (st cl))
noncomputable def b_law (cl:Calls):CS:=seqS [forTS 10 (callE (cl.f 25) [varE 0,cE (.int 4)]) 1 (sts cl (List.range 14)),retS (cE (.bl true))]
theorem e_law (n:Nat)(v0:D)(S:Store):(callsI P (n+1)).f 27 [v0] S=endF (b_law (callsI P n) [some v0,none,none,none,none,none] S):=by simp only [callsI_eq];kernel_rfl
noncomputable def s0 (cl:Calls):CS:=setS 3 (binE .Add (cE (.int 1)) (callE (cl.f 24) [varE 1,cE (.int 9)]))
theorem e_s0 (cl:Calls):st cl 0=s0 cl:=by kernel_rfl
noncomputable def s2 (cl:Calls):CS:=setS 5 (callE (cl.f 24) [varE 1,cE (.int 4)])
theorem e_s2 (cl:Calls):st cl 2=s2 cl:=by kernel_rfl
end Q81
namespace RF
open PySem
variable {ρ:Env}{S:Store}{Q:D->Store->Prop}{QB:Bool->Store->Prop}{QL:List D->Store->Prop}{K:En}
theorem wp_var {i:Nat}{d:D}(h:ρ[i]?=some (some d))(q:Q d S):Wp (varE i ρ S) Q:=wp_of (by unfold varE;rw [h]) q
theorem wp_c {d:D}(q:Q d S):Wp (cE d ρ S) Q:=q
theorem wp_bin {op:Operator}{a b:C D}(h:Wp (a ρ S) fun x S1=>Wp (b ρ S1) fun y S2=>Wp (opD op x y S2) Q):Wp (binE op a b ρ S) Q:=wp_bind (wp_mono h fun _ _ h=>wp_bind h)
theorem wp_cmp {op:CmpOp}{a b:C D}(h:Wp (a ρ S) fun x S1=>Wp (b ρ S1) fun y S2=>Wp (cmpD op x y S2) Q):Wp (cmpE op a b ρ S) Q:=wp_bind (wp_mono h fun _ _ h=>wp_bind h)
theorem wp_ix {a b:C D}(h:Wp (a ρ S) fun x S1=>Wp (b ρ S1) fun y S2=>Wp (getItemD x y S2) Q):Wp (ixE a b ρ S) Q:=wp_bind (wp_mono h fun _ _ h=>wp_bind h)
theorem wp_nil (q:QL [] S):Wp (seqE [] ρ S) QL:=q
theorem wp_cons {c:C D}{cs:List (C D)}(h:Wp (c ρ S) fun x S1=>Wp (seqE cs ρ S1) fun xs S2=>QL (x::xs) S2):Wp (seqE (c::cs) ρ S) QL:=wp_bind (wp_mono h fun _ _ h=>wp_bind h)
theorem wp_lst {cs:List (C D)}(hb:big cs.length=true)(h:Wp (seqE cs ρ S) fun xs S1=>Q (.ref S1.length) (S1++[.lst xs])):Wp (lstE cs ρ S) Q:=wp_guard hb (wp_bind h)
theorem wp_call {f:List D->Store->R D}{cs:List (C D)}(h:Wp (seqE cs ρ S) fun xs S1=>Wp (f xs S1) Q):Wp (callE f cs ρ S) Q:=wp_bind h
theorem wp_len {kts:List (Nat×List Str)}{a:C D}(h:Wp (a ρ S) fun x S1=>∃n:Nat,lenD S1 x=some n/\Q (.int n) S1):Wp (lenE kts a ρ S) Q:=
 wp_bind (wp_mono h fun x S1 ⟨n,h2,q⟩=>by
  have hb:callB .len [x] S1 = .ok (.int n) S1:=by
   show (match lenD S1 x with | some n=>R.ok (D.int n) S1 | none=>.bad)=_
   rw [h2]
  cases x with
  | kt a=>cases h2
  | _=>exact wp_of hb q)
theorem wp_range {n:Nat}{a:C D}{is:List Nat}{one:Bool}{t:C Bool}{e:List D->C (List D)}(hb:blank is (inner n ρ)=true)(h:Wp (a ρ S) fun x S1=>∃j,x = .int j/\(rangeOk j&&decide (j.toNat<=sizeLine))=true/\Wp (compF (fun _=>true) is one t e (inner n ρ) (rangeL 0 j.toNat) [] S1) QL):Wp (compI n (.range a) is one t e [] ρ S) QL:=wp_guard hb (wp_bind (wp_mono h fun x S1 ⟨j,e,hg,h⟩=>by subst e;exact wp_guard hg (wp_noEx h)))
theorem wp_testB {a:C D}(h:Wp (a ρ S) fun x S1=>∃b,x = .bl b/\QB b S1):Wp (testB a ρ S) QB:=wp_bind (wp_mono h fun x S1 ⟨b,e,q⟩=>by subst e;exact q)
theorem wp_always (q:QB true S):Wp (always ρ S) QB:=q
theorem wf_nil (q:K.nx ρ S):Wf (seqS [] ρ S) K:=q
theorem wf_cons {c:CS}{cs:List CS}(h:Wf (c ρ S) { K with nx:=fun ρ S=>Wf (seqS cs ρ S) K }):Wf (seqS (c::cs) ρ S) K:=wf_then h
theorem wf_ret {e:C D}(h:Wp (e ρ S) K.rt):Wf (retS e ρ S) K:=wf_on h
theorem wf_if {c:C Bool}{a b:CS}(h:Wp (c ρ S) fun t S1=>(t=true->Wf (a ρ S1) K)/\(t=false->Wf (b ρ S1) K)):Wf (ifS c a b ρ S) K:=wf_on (wp_mono h fun t S1 ⟨q1,q2⟩=>by
 cases t with
 | true=>exact q1 rfl
 | false=>exact q2 rfl)
theorem wf_set {i:Nat}{e:C D}(h:Wp (e ρ S) fun d S1=>K.nx (ρ.set i (some d)) S1):Wf (setS i e ρ S) K:=wf_on h
theorem wf_sub {o i e:C D}(h:Wp (e ρ S) fun v S1=>Wp (o ρ S1) fun x S2=>Wp (i ρ S2) fun k S3=>Wp (setItemD x k v S3) fun _ S4=>K.nx ρ S4):Wf (subS o i e ρ S) K:=wf_on (wp_mono h fun _ _ h=>wf_on (wp_mono h fun _ _ h=>wf_on (wp_mono h fun _ _ h=>wf_on h)))
theorem get_items {a:D}{xs:List D}{k:Int}{v:D}(h:itemsOf S a=some xs)(hi:getI xs k=some v)(q:Q v S):Wp (getItemD a (.int k) S) Q:=by
 have hd:isDict S a=false:=by
  cases a with
  | ref n=>
   unfold isDict kvsOf
   unfold itemsOf at h
   cases ho:S[n]? with
   | none=>simp [ho] at h
   | some o=>cases o<;>simp [ho] at h<;>simp [ho]
  | _=>rfl
 refine wp_of ?_ q
 unfold getItemD
 rw [hd,if_neg (by decide),h]
 simp only [hi]
theorem items_lst {n:Nat}{xs:List D}(h:S[n]?=some (.lst xs)):itemsOf S (.ref n)=some xs:=by simp [itemsOf,h]
theorem items_rol {n:Nat}{xs:List D}(h:S[n]?=some (.rol xs)):itemsOf S (.ref n)=some xs:=by simp [itemsOf,h]
noncomputable def Fr (W:Nat->Prop)(S S':Store):Prop:=S.length<=S'.length/\∀i,i<S.length->¬W i->S'[i]?=S[i]?
noncomputable def no:Nat->Prop:=fun _=>False
theorem Fr.refl (W:Nat->Prop)(S:Store):Fr W S S:=⟨Nat.le_refl _,fun _ _ _=>rfl⟩
theorem Fr.trans {W W':Nat->Prop}{S S' S'':Store}(h:Fr W S S')(h':Fr W' S' S'')(m:∀i,i<S.length->W' i->W i):Fr W S S'':=
 ⟨Nat.le_trans h.1 h'.1,fun i hi hw=>by rw [h'.2 i (Nat.lt_of_lt_of_le hi h.1) fun w=>hw (m i hi w),h.2 i hi hw]⟩
theorem Fr.app (W:Nat->Prop)(S:Store)(T:List O):Fr W S (S++T):=⟨by simp,fun i hi hw=>List.getElem?_append_left hi⟩
theorem Fr.at {W:Nat->Prop}{S S':Store}(h:Fr W S S'){i:Nat}{o:O}(ho:S[i]?=some o)(hw:¬W i):S'[i]?=some o:=by
 rw [h.2 i (List.getElem?_eq_some_iff.mp ho).1 hw,ho]
theorem lt_of {S:Store}{i:Nat}{o:O}(ho:S[i]?=some o):i<S.length:=(List.getElem?_eq_some_iff.mp ho).1
theorem at_new (S:Store)(o:O):(S++[o])[S.length]?=some o:=by simp
theorem at_set {S:Store}{n:Nat}{o o':O}(h:S[n]?=some o):(S.set n o')[n]?=some o':=by
 rw [List.getElem?_set_self (lt_of h)]
variable {kts:List (Nat×List Str)}{a:C D}
theorem wp_lenR (h:Wp (a ρ S) fun x S1=>∃n xs,x = .ref n/\S1[n]?=some (.rol xs)/\Q (.int xs.length) S1):Wp (lenE kts a ρ S) Q:=wp_len (wp_mono h fun x S1 ⟨n,xs,e,h,q⟩=>by subst e;exact⟨xs.length,by simp [lenD,kvsOf,itemsOf,h],q⟩)
end RF
section
namespace Q81
open RF PySem
local macro_rules
 | `(tactic| array_mem_dec)=>`(tactic| repeat (first
 | with_reducible apply wf_cons | with_reducible apply wf_nil | with_reducible apply wf_expr | with_reducible apply wf_ret | with_reducible apply wf_if | with_reducible apply wf_set | with_reducible apply wf_tup | with_reducible apply wf_fld | with_reducible apply wf_sub | with_reducible apply wf_range
 | ((with_reducible apply wp_var);· rfl) | with_reducible apply wp_c | with_reducible apply wp_bin | with_reducible apply wp_cmp | with_reducible apply wp_ix | with_reducible apply wp_fld | with_reducible apply wp_is | with_reducible apply wp_not | with_reducible apply wp_and | with_reducible apply wp_chain | with_reducible apply wp_nil | with_reducible apply wp_cons | ((with_reducible refine wp_tup ?_ ?_);· rfl) | ((with_reducible refine wp_lst ?_ ?_);· rfl) | with_reducible apply wp_dict | with_reducible apply wp_call
 | with_reducible apply wp_allE | ((with_reducible apply wp_range);· rfl) | with_reducible apply wp_testE | with_reducible apply wp_testB | with_reducible apply wp_notT | with_reducible apply wp_andT | with_reducible apply wp_orT | with_reducible apply wp_always
 | ((with_reducible apply wp_of (r:=opD _ _ _ _));· rfl)))
theorem op_mul {a b:Int}{S:Store}{Q:D->Store->Prop}(h:mulOk a b=true)(q:Q (.int (a*b)) S):Wp (opD .Mult (.int a) (.int b) S) Q:=wp_of (by show guardR (mulOk a b) _=_;rw [h];rfl) q
theorem op_div {a b:Int}{S:Store}{Q:D->Store->Prop}(h:0<b)(h2:b<2 ^ 250)(q:Q (.int (a / b)) S):Wp (opD .FloorDiv (.int a) (.int b) S) Q:=wp_of (by show guardR (decide (0<b)&&decide (b<2 ^ 250)) _=_;rw [decide_eq_true h,decide_eq_true h2];rfl) q
theorem op_mod {a b:Int}{S:Store}{Q:D->Store->Prop}(h:0<b)(q:Q (.int (a%b)) S):Wp (opD .Mod (.int a) (.int b) S) Q:=wp_of (by show guardR (decide (0<b)) _=_;rw [decide_eq_true h];rfl) q
theorem mul_r {a b:Int}(h:b.natAbs<2 ^ 64):mulOk a b=true:=by simp [mulOk,h]
theorem mul_l {a b:Int}(h:a.natAbs<2 ^ 64):mulOk a b=true:=by simp [mulOk,h]
theorem mul_b {a b:Int}(h:a.natAbs<2 ^ 250)(h':b.natAbs<2 ^ 250):mulOk a b=true:=by simp [mulOk,h,h']
theorem getI_in {xs:List D}{i:Int}(h1:0<=i)(h2:i<xs.length):∃x,getI xs i=some x/\x∈xs:=by
 have h3:i.toNat<xs.length:=by omega
 refine⟨xs[i.toNat],?_,List.getElem_mem _⟩
 simp [getI,ixI,h1,h2]
theorem drawn_ok (n:Nat)(a b:Int)(S:Store):∃z,(callsI P (n+1)).f 23 [.int a,.int b] S = .ok (.int z) S:=by
 suffices h:Wp ((callsI P (n+1)).f 23 [.int a,.int b] S) fun v S'=>(∃z,v = .int z)/\S'=S by
  obtain⟨v,S',e,⟨z,rfl⟩,rfl⟩:=wp_ex h
  exact⟨z,e⟩
 rw [e_law_drawn]
 apply wp_end
 unfold b_law_drawn
 array_mem_dec
 refine op_mul (mul_r (by decide)) ?_
 array_mem_dec
 refine op_mul (mul_r (by decide)) ?_
 array_mem_dec
 refine op_mul ?_ ?_
 ·have h1:=Int.emod_nonneg (a*6364136223846793005+(b+1)*1442695040888963407) (b:=340282366920938463463374607431768211507) (by decide)
  have h2:=Int.emod_lt_of_pos (a*6364136223846793005+(b+1)*1442695040888963407) (b:=340282366920938463463374607431768211507) (by decide)
  exact mul_b (by omega) (by omega)
 generalize ((a*6364136223846793005+(b+1)*1442695040888963407)%340282366920938463463374607431768211507)*((a*6364136223846793005+(b+1)*1442695040888963407)%340282366920938463463374607431768211507)=w
 array_mem_dec
 have h1:=Int.emod_nonneg w (b:=340282366920938463463374607431768211297) (by decide)
 have h2:=Int.emod_lt_of_pos w (b:=340282366920938463463374607431768211297) (by decide)
 generalize w%340282366920938463463374607431768211297=y at h1 h2
 have h3:=Int.emod_nonneg y (b:=18446744073709551557) (by decide)
 have h4:=Int.emod_lt_of_pos y (b:=18446744073709551557) (by decide)
 have h5:0<=y / 18446744073709551557:=by omega
 have h6:y / 18446744073709551557<2 ^ 65:=by omega
 refine op_mul (mul_l ?_) ?_
 ·show (y%18446744073709551557+1).natAbs<2 ^ 64
  omega
 array_mem_dec
 refine op_mul (mul_b ?_ ?_) ?_
 ·show ((y%18446744073709551557+1)*(y / 18446744073709551557+1)).natAbs<2 ^ 250
  rw [Int.natAbs_mul]
  have a1:(y%18446744073709551557+1).natAbs<=2 ^ 64:=by omega
  have a2:(y / 18446744073709551557+1).natAbs<=2 ^ 66:=by omega
  exact Nat.lt_of_le_of_lt (Nat.mul_le_mul a1 a2) (by decide)
 ·show y.natAbs<2 ^ 250
  omega
 array_mem_dec
 exact⟨⟨_,rfl⟩,rfl⟩
noncomputable def Dice (d:Nat)(S:Store):Prop:=∃a b,S[d]?=some (.lst [.int a,.int b])
theorem cell_ok (n:Nat)(ns:List Int)(k:Int)(S:Store)(h:S[0]?=some (.rol (ns.map D.int)))(hk:0<=k)(hn:ns.length<=63):Wp ((callsI P (n+1)).f 22 [.ref 0,.int k] S) fun v S'=>(∃z,v = .int z)/\S'=S++[.lst []]:=by
 rw [e_law_cell]
 apply wp_end
 unfold b_law_cell
 array_mem_dec
 have h':(S++[O.lst []])[0]?=some (.rol (ns.map D.int)):=(Fr.app no S [O.lst []]).at h (fun h=>h)
 refine wp_of (a:=.bl (ns.map D.int).isEmpty) (S:=S++[.lst []]) ?_ ?_
 ·simp only [cmpD,eqTop,h',at_new,optB]
 refine⟨_,rfl,fun hc=>?_,fun hc=>?_⟩
 ·array_mem_dec
  refine op_mul (mul_r (by decide)) ?_
  exact⟨⟨_,rfl⟩,rfl⟩
 ·array_mem_dec
  have hl:0<(ns.map D.int).length:=by
   cases ns with
   | nil=>simp at hc
   | cons x xs=>simp
  have hl':(0:Int)<((ns.map D.int).length:Int):=by omega
  have hb:((ns.map D.int).length:Int)<2 ^ 250:=by simp;omega
  refine wp_lenR ?_
  array_mem_dec
  refine⟨_,_,rfl,h',?_⟩
  refine op_mod hl' ?_
  obtain⟨x,e,hm⟩:=getI_in (xs:=ns.map D.int) (i:=k%((ns.map D.int).length:Int)) (Int.emod_nonneg _ (by omega)) (Int.emod_lt_of_pos _ hl')
  obtain⟨z,hz,rfl⟩:=List.mem_map.mp hm
  refine get_items (items_rol h') e ?_
  array_mem_dec
  refine wp_lenR ?_
  array_mem_dec
  refine⟨_,_,rfl,h',?_⟩
  refine op_div hl' hb ?_
  array_mem_dec
  refine op_mul (mul_r (by decide)) ?_
  array_mem_dec
  exact⟨⟨_,rfl⟩,rfl⟩
theorem set_lst {S:Store}{Q:Unit->Store->Prop}{n j:Nat}{xs:List D}{k:Int}{v:D}(h:S[n]?=some (.lst xs))(hi:ixI xs.length k=some j)(q:Q () (S.set n (.lst (xs.set j v)))):Wp (setItemD (.ref n) (.int k) v S) Q:=wp_of (by simp only [setItemD,h,hi]) q
theorem roll_ok (n d:Nat)(m:Int)(S:Store)(hd:Dice d S)(h1:0<m)(h2:m<2 ^ 250):Wp ((callsI P (n+2)).f 24 [.ref d,.int m] S) fun v S'=>(∃z,v = .int z/\0<=z/\z<m)/\∃a b,S'=S.set d (.lst [.int a,.int b]):=by
 obtain⟨a,b,hd⟩:=hd
 rw [e_law_roll]
 apply wp_end
 unfold b_law_roll
 array_mem_dec
 refine get_items (items_lst hd) rfl ?_
 array_mem_dec
 refine wp_of rfl ?_
 refine⟨_,rfl,fun _=>?_,fun _=>?_⟩
 ·array_mem_dec
  refine get_items (items_lst hd) rfl ?_
  array_mem_dec
  refine op_mod h1 ?_
  array_mem_dec
  refine get_items (items_lst hd) rfl ?_
  array_mem_dec
  refine op_div h1 h2 ?_
  array_mem_dec
  refine set_lst hd rfl ?_
  array_mem_dec
  exact⟨⟨_,rfl,Int.emod_nonneg _ (by omega),Int.emod_lt_of_pos _ h1⟩,_,_,rfl⟩
 ·array_mem_dec
  refine get_items (items_lst hd) rfl ?_
  array_mem_dec
  refine set_lst hd rfl ?_
  have hd':=at_set (o':=.lst [.int a,.int (b+1)]) hd
  array_mem_dec
  refine get_items (items_lst hd') rfl ?_
  array_mem_dec
  refine get_items (items_lst hd') rfl ?_
  array_mem_dec
  obtain⟨z,e⟩:=drawn_ok n a (b+1) (S.set d (.lst [.int a,.int (b+1)]))
  refine wp_of e ?_
  array_mem_dec
  refine op_mod h1 ?_
  exact⟨⟨_,rfl,Int.emod_nonneg _ (by omega),Int.emod_lt_of_pos _ h1⟩,_,_,rfl⟩
theorem len_range (lo:Int)(n:Nat):(rangeL lo n).length=n:=by simp [rangeL]
theorem get_range {lo:Int}{n i:Nat}{x:D}(h:(rangeL lo n)[i]?=some x):x = .int (lo+(i:Int)):=by
 unfold rangeL at h
 rw [List.getElem?_map] at h
 cases hi:(List.range n)[i]? with
 | none=>simp [hi] at h
 | some k=>
  obtain⟨h1,h2⟩:=List.getElem?_eq_some_iff.mp hi
  simp at h2
  subst h2
  rw [hi] at h
  simpa using h.symm
theorem all_app {n:Nat}{S T:Store}(h:S.all (okO n)=true)(h':T.all (okO n)=true):(S++T).all (okO n)=true:=by rw [List.all_append,h,h'];rfl
theorem rounds_ok (n:Nat)(ns:List Int)(hn:ns.length<=63)(S:Store)(h:S[0]?=some (.rol (ns.map D.int)))(hl:S.length=1)(ho:S.all (okO 10)=true):Wp ((callsI P (n+2)).f 25 [.ref 0,.int 4] S) fun v S'=>∃g ds,v = .ref g/\S'[g]?=some (.lst ds)/\S'[0]?=some (.rol (ns.map D.int))/\S'.length<=10/\S'.all (okO 10)=true/\∀x∈ds,∃d,x = .ref d/\d≠g/\Dice d S':=by
 rw [e_law_rounds]
 apply wp_end
 unfold b_law_rounds
 apply wf_cons
 apply wf_ret
 apply wp_bind
 array_mem_dec
 refine wp_lenR ?_
 array_mem_dec
 refine⟨_,_,rfl,h,?_⟩
 array_mem_dec
 refine wp_of rfl ?_
 array_mem_dec
 refine wp_of rfl ?_
 refine⟨_,rfl,?_,?_⟩
 ·simp only [List.length_map,rangeOk,Bool.and_eq_true,decide_eq_true_eq,sizeLine]
  split<;>split<;>omega
 generalize hj:(if (if ((ns.map D.int).length:Int)<4 then ((ns.map D.int).length:Int) else 4) > 1 then (if ((ns.map D.int).length:Int)<4 then ((ns.map D.int).length:Int) else 4) else 1)=j
 have j3:j.toNat<=4:=by rw [<-hj];split<;>split<;>omega
 refine wp_comp (Inv:=fun i ys S'=>i<=4/\ys.length<=i/\(∀x∈ys,∃d,x = .ref d/\Dice d S')/\Fr no S S'/\S'.length=1+2*i/\S'.all (okO 10)=true) ⟨by omega,Nat.le_refl _,fun x hx=>by simp at hx,Fr.refl _ _,by omega,ho⟩ (fun _ _ _ _ _=>rfl) (fun i x ys S1 hx hI=>?_) (fun ys S1 hI=>?_)
 ·have hi:i<4:=by
   have:=(List.getElem?_eq_some_iff.mp hx).1
   rw [len_range] at this
   omega
  rw [get_range hx]
  obtain⟨_,h0,h1,h2,h3,h4⟩:=hI
  refine⟨_,rfl,?_⟩
  apply wp_always
  rw [if_pos rfl]
  refine wp_guard (decide_eq_true (show ys.length<sizeLine by unfold sizeLine;omega)) (wp_bind ?_)
  array_mem_dec
  refine wp_mono (cell_ok n ns _ S1 (h2.at h fun h=>h) (by omega) hn) fun v S2 ⟨⟨z,ez⟩,hf⟩=>?_
  subst ez
  subst hf
  array_mem_dec
  have hf2:Fr no S1 ((S1++[O.lst []])++[O.lst [.int z,.int 0]]):=(Fr.app no _ _).trans (Fr.app no _ _) fun _ _ h=>h
  refine⟨by omega,by rw [List.length_append];simp;omega,fun y hy=>?_,h2.trans hf2 fun _ _ h=>h,by simp;omega,all_app (all_app h4 rfl) rfl⟩
  rcases List.mem_append.mp hy with hy | hy
  ·obtain⟨d,e,a,b,hd⟩:=h1 y hy
   exact⟨d,e,a,b,hf2.at hd fun h=>h⟩
  ·rw [List.mem_singleton.mp hy]
   exact⟨_,rfl,_,_,at_new _ _⟩
 ·obtain⟨_,_,h1,h2,h3,h4⟩:=hI
  rw [len_range] at h3
  have hf:Fr no S1 (S1++[O.lst ys]):=Fr.app _ _ _
  refine⟨_,ys,rfl,at_new _ _,(h2.trans hf fun _ _ h=>h).at h fun h=>h,by simp;omega,all_app h4 ?_,fun x hx=>?_⟩
  ·simp only [List.all_cons,List.all_nil,Bool.and_true]
   show ys.all (okD 10)=true
   rw [List.all_eq_true]
   intro x hx
   obtain⟨d,rfl,a,b,hd⟩:=h1 x hx
   have:=lt_of hd
   exact decide_eq_true (by omega)
  ·obtain⟨d,e,a,b,hd⟩:=h1 x hx
   exact⟨d,e,Nat.ne_of_lt (lt_of hd),a,b,hf.at hd fun h=>h⟩
theorem Dice.lt {d:Nat}{S:Store}(h:Dice d S):d<S.length:=by
 obtain⟨a,b,h⟩:=h
 exact lt_of h
end Q81
end
namespace Q81
open RF PySem
noncomputable def NT:Store:=[.lst [.tup [.int 0,.int 1],.tup [.int 1,.int 2]],.obj 3 [(11,.ref 15),(22,.ref 64),(3,.ref 65),(7,.ref 66),(28,.int 0)],.lst [.tup [.int 1,.int 0],.tup [.int 2,.int 1]],.lst [.tup [.int 0,.int 1],.tup [.int 1,.int 2],.tup [.int 1,.int 0],.tup [.int 2,.int 1]],.lst [.tup [.int 0,.int 1],.tup [.int 1,.int 0],.tup [.int 1,.int 2],.tup [.int 2,.int 1]],.lst [.ref 17,.ref 28,.ref 39,.ref 50],.lst [.int 1],.obj 2 [(25,.ref 18),(19,.int 0),(2,.ref 20),(21,.int 6),(13,.ref 21),(27,.ref 23),(29,.ref 24),(8,.ref 25),(6,.ref 26)],.obj 0 [(24,.int 4),(12,.ref 19)],.dic [],.lst [.int 1],.obj 1 [(9,.ref 22)],.dic [],.dic [],.dic [],.dic [],.lst [],.lst [.int 0,.int 2],.obj 2 [(25,.ref 29),(19,.int 1),(2,.ref 31),(21,.int 6),(13,.ref 32),(27,.ref 34),(29,.ref 35),(8,.ref 36),(6,.ref 37)],.obj 0 [(24,.int 4),(12,.ref 30)],.dic [],.lst [.int 0,.int 2],.obj 1 [(9,.ref 33)],.dic [],.dic [],.dic [],.dic [],.lst [],.lst [.int 1],.obj 2 [(25,.ref 40),(19,.int 2),(2,.ref 42),(21,.int 6),(13,.ref 43),(27,.ref 45),(29,.ref 46),(8,.ref 47),(6,.ref 48)],.obj 0 [(24,.int 4),(12,.ref 41)],.dic [],.lst [.int 1],.obj 1 [(9,.ref 44)],.dic [],.dic [],.dic [],.dic [],.lst [],.lst [],.obj 2 [(25,.ref 51),(19,.int 3),(2,.ref 53),(21,.int 6),(13,.ref 54),(27,.ref 56),(29,.ref 57),(8,.ref 58),(6,.ref 59)],.obj 0 [(24,.int 4),(12,.ref 52)],.dic [],.lst [],.obj 1 [(9,.ref 55)],.dic [],.dic [],.dic [],.dic [],.lst [],.lst [],.lst [],.lst [],.lst [],.dic [(.tup [.int 0,.int 1],.ref 60),(.tup [.int 1,.int 0],.ref 61),(.tup [.int 1,.int 2],.ref 62),(.tup [.int 2,.int 1],.ref 63)],.dic [],.dic []]
section
variable (o0 o1 o2 o3 o4 o5 o6 o7 o8 o9:O)
theorem evN (r0 r1 r2 r3 r4 r5:Option D):st (callsI P 12) 1 [r0,r1,r2,r3,r4,r5] [o0,o1,o2,o3,o4,o5,o6,o7,o8,o9] = .nx [r0,r1,r2,r3,some (.ref 11),r5] ([o0,o1,o2,o3,o4,o5,o6,o7,o8,o9]++NT):=by rw [callsI_eq];kernel_rfl
noncomputable def outF (x:F):Store×Bool:=match x with | .nx ρ T=>(T.take 10,decide (ρ.length=6)&&decide (10<=T.length)) | _=>([],false)
noncomputable def run (o:Store)(r0 r1 r2:Option D)(m one:Int):F:=sts (callsI P 12) [3,4,5,6,7,8,9,10,11,12,13] [r0,r1,r2,some (.int m),some (.ref 11),some (.int one)] (o++NT)
noncomputable def w9 (w:Int):Prop:=w=1\/w=2\/w=3\/w=4\/w=5\/w=6\/w=7\/w=8\/w=9
theorem evB0 (r0 r1 r2:Option D)(w:Int):w9 w->outF (run [o0,o1,o2,o3,o4,o5,o6,o7,o8,o9] r0 r1 r2 w 0)=([o0,o1,o2,o3,o4,o5,o6,o7,o8,o9],true):=by rintro (rfl|rfl|rfl|rfl|rfl|rfl|rfl|rfl|rfl)<;>(unfold run;rw [callsI_eq];kernel_rfl)
theorem evB1 (r0 r1 r2:Option D)(w:Int):w9 w->outF (run [o0,o1,o2,o3,o4,o5,o6,o7,o8,o9] r0 r1 r2 w 1)=([o0,o1,o2,o3,o4,o5,o6,o7,o8,o9],true):=by rintro (rfl|rfl|rfl|rfl|rfl|rfl|rfl|rfl|rfl)<;>(unfold run;rw [callsI_eq];kernel_rfl)
theorem evB2 (r0 r1 r2:Option D)(w:Int):w9 w->outF (run [o0,o1,o2,o3,o4,o5,o6,o7,o8,o9] r0 r1 r2 w 2)=([o0,o1,o2,o3,o4,o5,o6,o7,o8,o9],true):=by rintro (rfl|rfl|rfl|rfl|rfl|rfl|rfl|rfl|rfl)<;>(unfold run;rw [callsI_eq];kernel_rfl)
theorem evB3 (r0 r1 r2:Option D)(w:Int):w9 w->outF (run [o0,o1,o2,o3,o4,o5,o6,o7,o8,o9] r0 r1 r2 w 3)=([o0,o1,o2,o3,o4,o5,o6,o7,o8,o9],true):=by rintro (rfl|rfl|rfl|rfl|rfl|rfl|rfl|rfl|rfl)<;>(unfold run;rw [callsI_eq];kernel_rfl)
theorem evB (r0 r1 r2:Option D)(w one:Int)(h1:1<=w)(h2:w<10)(h3:0<=one)(h4:one<4):outF (run [o0,o1,o2,o3,o4,o5,o6,o7,o8,o9] r0 r1 r2 w one)=([o0,o1,o2,o3,o4,o5,o6,o7,o8,o9],true):=by
 have hw:w9 w:=by unfold w9;omega
 have ho:one=0\/one=1\/one=2\/one=3:=by omega
 rcases ho with rfl|rfl|rfl|rfl
 ·exact evB0 o0 o1 o2 o3 o4 o5 o6 o7 o8 o9 r0 r1 r2 w hw
 ·exact evB1 o0 o1 o2 o3 o4 o5 o6 o7 o8 o9 r0 r1 r2 w hw
 ·exact evB2 o0 o1 o2 o3 o4 o5 o6 o7 o8 o9 r0 r1 r2 w hw
 ·exact evB3 o0 o1 o2 o3 o4 o5 o6 o7 o8 o9 r0 r1 r2 w hw
end
end Q81
section
namespace Q81
open RF PySem
local macro_rules
 | `(tactic| array_mem_dec)=>`(tactic| repeat (first
 | with_reducible apply wf_cons | with_reducible apply wf_nil | with_reducible apply wf_expr | with_reducible apply wf_ret | with_reducible apply wf_if | with_reducible apply wf_set | with_reducible apply wf_tup | with_reducible apply wf_fld | with_reducible apply wf_sub | with_reducible apply wf_range
 | ((with_reducible apply wp_var);· rfl) | with_reducible apply wp_c | with_reducible apply wp_bin | with_reducible apply wp_cmp | with_reducible apply wp_ix | with_reducible apply wp_fld | with_reducible apply wp_is | with_reducible apply wp_not | with_reducible apply wp_and | with_reducible apply wp_chain | with_reducible apply wp_nil | with_reducible apply wp_cons | ((with_reducible refine wp_tup ?_ ?_);· rfl) | ((with_reducible refine wp_lst ?_ ?_);· rfl) | with_reducible apply wp_dict | with_reducible apply wp_call
 | with_reducible apply wp_allE | ((with_reducible apply wp_range);· rfl) | with_reducible apply wp_testE | with_reducible apply wp_testB | with_reducible apply wp_notT | with_reducible apply wp_andT | with_reducible apply wp_orT | with_reducible apply wp_always
 | ((with_reducible apply wp_of (r:=opD _ _ _ _));· rfl)))
theorem ten {T:Store}(h:T.length=10):∃o0 o1 o2 o3 o4 o5 o6 o7 o8 o9,T=[o0,o1,o2,o3,o4,o5,o6,o7,o8,o9]:=by
 match T,h with
 | [o0,o1,o2,o3,o4,o5,o6,o7,o8,o9],_=>exact⟨o0,o1,o2,o3,o4,o5,o6,o7,o8,o9,rfl⟩
theorem six {ρ:RF.Env}(h:ρ.length=6):∃r0 r1 r2 r3 r4 r5,ρ=[r0,r1,r2,r3,r4,r5]:=by
 match ρ,h with
 | [r0,r1,r2,r3,r4,r5],_=>exact⟨r0,r1,r2,r3,r4,r5,rfl⟩
theorem s0_ok (S:Store)(d:Nat)(hd:Dice d S)(ρ:RF.Env)(h1:ρ[1]?=some (some (.ref d))):Wf (s0 (callsI P 12) ρ S) { nx:=fun ρ' S'=>∃m a b,ρ'=ρ.set 3 (some (.int (1+m)))/\0<=m/\m<9/\S'=S.set d (.lst [.int a,.int b]),rt:=fun _ _=>False }:=by
 unfold s0
 array_mem_dec
 refine wp_var h1 ?_
 array_mem_dec
 refine wp_mono (roll_ok 10 d 9 _ hd (by decide) (by decide)) fun v S1 ⟨⟨r,ev,r1,r2⟩,a1,b1,e1⟩=>?_
 subst ev
 subst e1
 refine wp_of (a:=.int (1+r)) rfl ?_
 exact⟨r,a1,b1,rfl,r1,r2,rfl⟩
theorem s2_ok (S:Store)(d:Nat)(hd:Dice d S)(ρ:RF.Env)(h1:ρ[1]?=some (some (.ref d))):Wf (s2 (callsI P 12) ρ S) { nx:=fun ρ' S'=>∃m a b,ρ'=ρ.set 5 (some (.int m))/\0<=m/\m<4/\S'=S.set d (.lst [.int a,.int b]),rt:=fun _ _=>False }:=by
 unfold s2
 array_mem_dec
 refine wp_var h1 ?_
 array_mem_dec
 refine wp_mono (roll_ok 10 d 4 _ hd (by decide) (by decide)) fun v S1 ⟨⟨r,ev,r1,r2⟩,a1,b1,e1⟩=>?_
 subst ev
 subst e1
 exact⟨r,a1,b1,rfl,r1,r2,rfl⟩
theorem outF_nx {x:F}{T:Store}(h:outF x=(T,true)):∃ρ' S',x = .nx ρ' S'/\S'.take 10=T/\ρ'.length=6/\10<=S'.length:=by
 cases x with
 | nx ρ' S'=>
  have h:(S'.take 10,decide (ρ'.length=6)&&decide (10<=S'.length))=(T,true):=h
  obtain⟨e1,e2⟩:=Prod.mk.inj h
  rw [Bool.and_eq_true,decide_eq_true_eq,decide_eq_true_eq] at e2
  exact⟨ρ',S',rfl,e1,e2.1,e2.2⟩
 | _=>cases (Prod.mk.inj h).2
theorem seqS_cons (c:CS)(cs:List CS)(ρ:RF.Env)(S:Store):seqS (c::cs) ρ S=(c ρ S).then (seqS cs):=rfl
theorem wf_nx {x:F}{Q:En}(h:Wf x Q)(hr:∀d S,¬Q.rt d S)(hb:∀r S,¬Q.bk r S)(hc:∀r S,¬Q.ct r S):∃ρ S,x = .nx ρ S/\Q.nx ρ S:=by
 cases x with
 | nx ρ S=>exact⟨ρ,S,rfl,h⟩
 | rt d S=>exact (hr _ _ h).elim
 | bk ρ S=>exact (hb _ _ h).elim
 | ct ρ S=>exact (hc _ _ h).elim
 | ex c p S=>exact h.elim
 | bad=>exact h.elim
theorem turn_ok (S:Store)(hS:S.length=10)(d:Nat)(hd:Dice d S)(ρ:RF.Env)(hρ:ρ.length=6)(h1:ρ[1]?=some (some (.ref d))):∃ρ' S' a b,sts (callsI P 12) (List.range 14) ρ S = .nx ρ' S'/\ρ'.length=6/\10<=S'.length/\S'.take 10=S.set d (.lst [.int a,.int b]):=by
 have hlt:=hd.lt
 have e:sts (callsI P 12) (List.range 14) ρ S=(s0 (callsI P 12) ρ S).then fun ρ S=>(st (callsI P 12) 1 ρ S).then fun ρ S=>(s2 (callsI P 12) ρ S).then (sts (callsI P 12) [3,4,5,6,7,8,9,10,11,12,13]):=by
  have r:List.range 14=0::1::2::[3,4,5,6,7,8,9,10,11,12,13]:=by decide
  rw [r]
  unfold sts
  rw [List.map_cons,List.map_cons,List.map_cons,seqS_cons,e_s0]
  congr 1
  funext ρ S
  rw [seqS_cons]
  congr 1
  funext ρ S
  rw [seqS_cons,e_s2]
 rw [e]
 obtain⟨ρ1,S1,e1,m,a1,b1,rfl,m1,m2,rfl⟩:=wf_nx (s0_ok S d hd ρ h1) (fun _ _ h=>h) (fun _ _ h=>h) (fun _ _ h=>h)
 rw [e1,F.then_nx]
 obtain⟨r0,r1,r2,r3,r4,r5,rfl⟩:=six hρ
 have h1:r1=some (.ref d):=by simpa using h1
 subst h1
 have q1:List.set [r0,some (D.ref d),r2,r3,r4,r5] 3 (some (D.int (1+m)))=[r0,some (.ref d),r2,some (.int (1+m)),r4,r5]:=rfl
 rw [q1]
 have hT:(S.set d (.lst [.int a1,.int b1])).length=10:=by rw [List.length_set];exact hS
 obtain⟨o0,o1,o2,o3,o4,o5,o6,o7,o8,o9,eT⟩:=ten hT
 have hd1:Dice d ([o0,o1,o2,o3,o4,o5,o6,o7,o8,o9]++NT):=⟨a1,b1,by rw [<-eT,List.getElem?_append_left (by rw [hT];omega)];obtain⟨x,y,hd⟩:=hd;exact at_set hd⟩
 rw [eT,evN,F.then_nx]
 obtain⟨ρ2,S2,e2,one,a2,b2,rfl,n1,n2,rfl⟩:=wf_nx (s2_ok _ d hd1 [r0,some (.ref d),r2,some (.int (1+m)),some (.ref 11),r5] rfl) (fun _ _ h=>h) (fun _ _ h=>h) (fun _ _ h=>h)
 rw [e2,F.then_nx]
 have q2:List.set [r0,some (D.ref d),r2,some (D.int (1+m)),some (D.ref 11),r5] 5 (some (D.int one))=[r0,some (.ref d),r2,some (.int (1+m)),some (.ref 11),some (.int one)]:=rfl
 rw [q2]
 have eS:([o0,o1,o2,o3,o4,o5,o6,o7,o8,o9]++NT).set d (.lst [.int a2,.int b2])=S.set d (.lst [.int a2,.int b2])++NT:=by
  rw [<-eT,List.set_append_left _ _ (by rw [hT];omega),List.set_set]
 have hT2:(S.set d (.lst [.int a2,.int b2])).length=10:=by rw [List.length_set];exact hS
 obtain⟨p0,p1,p2,p3,p4,p5,p6,p7,p8,p9,eT2⟩:=ten hT2
 rw [eS,eT2]
 obtain⟨ρ',S',k1,k2,k3,k4⟩:=outF_nx (evB p0 p1 p2 p3 p4 p5 p6 p7 p8 p9 r0 (some (.ref d)) r2 (1+m) one (by omega) (by omega) n1 n2)
 exact⟨ρ',S',a2,b2,k1,k3,k4,by rw [eT2];exact k2⟩
theorem loop_ok (g:Nat)(ds:List D):∀(l:List D) (ρ:RF.Env) (S:Store),(∀x∈l,x∈ds)->ρ.length=6->S.length=10->S.all (okO 10)=true->S[g]?=some (.lst ds)->(∀x∈ds,∃d,x = .ref d/\d≠g/\Dice d S)->∃ρ' S',forT 10 (.ref g) ds 1 (sts (callsI P 12) (List.range 14)) l ρ S = .nx ρ' S'
 | [],ρ,S,_,_,_,_,hg,_=>by
  refine⟨ρ,S,?_⟩
  unfold forT
  rw [if_pos (show stands (.ref g) ds S=true from decide_eq_true (items_lst hg))]
 | x::l,ρ,S,hl,hρ,hS,ho,hg,hD=>by
  obtain⟨d,rfl,hdg,hd⟩:=hD x (hl x List.mem_cons_self)
  obtain⟨ρ',S',a,b,e,e1,e2,e3⟩:=turn_ok S hS d hd (ρ.set 1 (some (.ref d))) (by rw [List.length_set];exact hρ) (by rw [List.getElem?_set_self (by omega)])
  have hlt:=hd.lt
  have ho':(S.set d (.lst [.int a,.int b])).all (okO 10)=true:=by
   rw [List.all_eq_true] at ho ⊢
   intro o hm
   rcases List.mem_or_eq_of_mem_set hm with z | z
   ·exact ho o z
   ·rw [z];rfl
  unfold forT
  rw [if_pos (show stands (.ref g) ds S=true from decide_eq_true (items_lst hg)),e]
  dsimp only
  rw [e3,if_pos ⟨ho',e2⟩]
  refine loop_ok g ds l (trimE 10 ρ') _ (fun y hy=>hl y (List.mem_cons_of_mem _ hy)) (by unfold trimE;rw [List.length_map];exact e1) (by rw [List.length_set];exact hS) ho' (by rw [List.getElem?_set_ne hdg];exact hg) fun y hy=>?_
  obtain⟨d2,rfl,h2,x2,y2,h3⟩:=hD y hy
  by_cases z:d2=d
  ·subst z;exact⟨d2,rfl,h2,a,b,at_set h3⟩
  ·exact⟨d2,rfl,h2,x2,y2,by rw [List.getElem?_set_ne (Ne.symm z)];exact h3⟩
theorem law_true (ns:List Int)(hn:ns.length<=63):∃S',(calls P 13).f 27 [.ref 0] [.rol (ns.map D.int)] = .ok (.bl true) S':=by
 have hok:([.rol (ns.map D.int)]:Store).all (okO 10)=true:=by
  simp only [List.all_cons,List.all_nil,Bool.and_true]
  show (ns.map D.int).all (okD 10)=true
  rw [List.all_eq_true]
  intro x hx
  obtain⟨i,_,rfl⟩:=List.mem_map.mp hx
  rfl
 obtain⟨v,S1,e,g,ds,rfl,hg,h0,hl,ho,hD⟩:=wp_ex (rounds_ok 10 ns hn [.rol (ns.map D.int)] rfl rfl hok)
 have e2:(callsI P 13).f 27 [.ref 0] [.rol (ns.map D.int)]=endF (b_law (callsI P 12) [some (.ref 0),none,none,none,none,none] [.rol (ns.map D.int)]):=e_law 12 _ _
 rw [callsI_eq] at e2
 rw [e2]
 have hp:padS 10 S1=some (S1++List.replicate (10-S1.length) (.rol (ns.map D.int))):=by
  unfold padS
  rw [h0]
  exact if_pos hl
 have hrol:okO 10 (.rol (ns.map D.int))=true:=by simpa using hok
 have ho2:(S1++List.replicate (10-S1.length) (O.rol (ns.map D.int))).all (okO 10)=true:=all_app ho (by
  rw [List.all_eq_true]
  intro o hm
  rw [(List.mem_replicate.mp hm).2]
  exact hrol)
 have up:∀{i o},S1[i]?=some o->(S1++List.replicate (10-S1.length) (O.rol (ns.map D.int)))[i]?=some o:=fun {i o} h=>by rw [List.getElem?_append_left (lt_of h)];exact h
 obtain⟨ρ',S',lp⟩:=loop_ok g ds ds (trimE 10 [some (.ref 0),none,none,none,none,none]) (S1++List.replicate (10-S1.length) (O.rol (ns.map D.int))) (fun _ h=>h) rfl (by simp;omega) ho2 (up hg) fun x hx=>by
  obtain⟨d,e,h,a,b,q⟩:=hD x hx
  exact⟨d,e,h,a,b,up q⟩
 have sq:seqE [varE 0,cE (.int 4)] [some (.ref 0),none,none,none,none,none] [.rol (ns.map D.int)] = .ok [.ref 0,.int 4] [.rol (ns.map D.int)]:=rfl
 have er:callE ((callsI P 12).f 25) [varE 0,cE (.int 4)] [some (.ref 0),none,none,none,none,none] [.rol (ns.map D.int)] = .ok (.ref g) S1:=by
  unfold callE
  rw [sq,R.bind_ok]
  exact e
 have ef:forTS 10 (callE ((callsI P 12).f 25) [varE 0,cE (.int 4)]) 1 (sts (callsI P 12) (List.range 14)) [some (.ref 0),none,none,none,none,none] [.rol (ns.map D.int)] = .nx ρ' S':=by
  unfold forTS
  rw [er,onR_ok]
  dsimp only
  rw [hg,hp]
  dsimp only
  rw [if_pos ho2,lp]
  rfl
 refine⟨S',?_⟩
 unfold b_law
 rw [seqS_cons,ef]
 rfl
end Q81
end
namespace L2
open PySem PyProof.Rows
theorem kd_pairs {Pr:Program}{w:World}:∀l:List (Str×Tok×Nat),Pairs (mixKind Pr w) (l.map fun q=>(⟨PyData.keyHash w.params q.1,.str q.1 q.2.1,.ref q.2.2⟩:DictEntry)) (l.map fun q=>((.inr q.1:Key),Value.ref q.2.2))
 | []=>.nil
 | q::l=>.cons (keyIs_str q.1 q.2.1) rfl (kd_pairs l)
theorem kd_val:∀(l:List (Str×Tok×Nat)) (z:Str),valueAt (l.map fun q=>((.inr q.1:Key),Value.ref q.2.2)) (.inr z:Key)=((l.map fun q=>(q.1,q.2.2)).lookup z).map Value.ref
 | [],_=>rfl
 | q::l,z=>by
  have ih:=kd_val l z
  unfold valueAt at ih ⊢
  rw [List.map_cons,List.map_cons,List.find?_cons,List.lookup_cons]
  by_cases e:q.1=z
  ·subst e
   simp
  ·have e2:¬((.inr q.1:Key) = .inr z):=fun h=>e (Sum.inr.inj h)
   have e3:(z==q.1)=false:=beq_eq_false_iff_ne.mpr (Ne.symm e)
   rw [e3]
   simp only [e2,decide_false]
   exact ih
theorem kd_gen {Pr:Program}{w:World}{K:PySem.W.Frag}{p:Addr}{ep:Nat}(l:List (Str×Tok×Nat))(lk:K.lookup p=some ⟨.type "dict",none,.dict (l.map fun q=>(⟨PyData.keyHash w.params q.1,.str q.1 q.2.1,.ref q.2.2⟩:DictEntry)).toArray ep,#[]⟩)(hp:(p==sysModules)=false)(hn:RF.nodupB (l.map (·.1))=true):KDicAt Pr w K p (l.map fun q=>(q.1,q.2.2)):=by
 refine⟨_,l.map fun q=>((.inr q.1:Key),Value.ref q.2.2),lk,hp,fun h e=>⟨_,_,_,e,⟨rfl,rfl,rfl⟩,rfl,fun d hd=>?_,?_,?_⟩,kd_val l⟩
 ·obtain⟨q,_,rfl⟩:=List.mem_map.mp (List.mem_toArray.mp hd)
  exact⟨.inr q.1,keyIs_str q.1 q.2.1,rfl⟩
 ·exact kd_pairs l
 ·have n:=nodup_of hn
  rw [List.map_map]
  exact (List.pairwise_map.mp n |> fun n=>List.pairwise_map.mpr (n.imp fun h z=>h (Sum.inr.inj z)))
theorem kt_mk {K:PySem.W.Frag}{a:Addr}{od:Option Addr}{t:Tok}{n:Nat}{sl:Array (Option Value)}{x:Str}(lk:K.lookup a=some ⟨.type "tuple",od,.seq #[.str x t] n,sl⟩):([x]:List Str).length<=100/\∀H,SqT K H a (([x]:List Str).map V.str):=
 ⟨(show 1<=100 by decide),fun H=>.inr ⟨_,#[.str x t],n,lk,rfl,rfl,(show 1<=sizeLine by decide),.cons ⟨t,rfl⟩ .nil⟩⟩
end L2
namespace Q81
open PySem L2
noncomputable abbrev sMet:Stmt:=top 75
theorem scMet:FnScope NTold ["_law_deed"] (defScope sMet):=⟨rfl,rfl,rfl,by decide +kernel,rfl,by decide +kernel,by decide +kernel⟩
theorem ok_met {P:Program}{w:World}{K:PySem.W.Frag}{mg:Str->Option Value}{base:Heap}{ft W:Addr}{fdt:FuncData}(F:Fun K "_law_met" "_law_met" sMet ft fdt)(bT:Binds K fdt ["_law_deed"] [])(mW:mg "WantError" = some (.ref W))(hB:PySem.W.mroIn K W (.type "BaseException")=some true):MetOk P w K mg base ft W:=
 ⟨fun kd A outer s H f Q pr hr e0 hD hfn hf0 hpr=>met_run F scMet rfl rfl rfl (fun cd=>by rfl) mW hB hr e0 (bT s [.ref f] (e0.mod.kin.keeps fun b o e=>(e0.bs b o e).1) rfl) hD hfn hf0 hpr⟩
end Q81
namespace L2
open PySem
theorem wpAny_ld {M:Model}{A:Around}{E:Value->Shared->Prop}{α:Type}{s:Shared}{kd:Addr}{part:Option Value}{o:Obj}{F:Obj->Sem α}{Q:α->Shared->Prop}(ho:s.heap.get? kd=some o)(h:wpAny M A (F o) Q E s):wpAny M A (Sem.load kd part F) Q E s:=
 (wpAny_bind (wpAny_loadPart ho h):wpAny M A (loadPart kd part >>= F) Q E s)
theorem bind0 {s:Shared}{fd:FuncData}{args:Args}{binds:List (Str×Value)}{kd:Addr}{p1 p2:Option Value}{o:Obj}{F1 F2:Obj->Sem (List (Str×Value))}(ho:s.heap.get? kd=some o)(h1:bindArgs fd args = .load kd p1 F1)(h2:F1 o = .load kd p2 F2)(h3:F2 o=pure binds):BindsTo s fd args binds:=fun M A E Q hq=>by
 rw [h1]
 refine wpAny_ld ho ?_
 rw [h2]
 refine wpAny_ld ho ?_
 rw [h3]
 exact wpAny_pure hq
theorem bind1 {s:Shared}{fd:FuncData}{args:Args}{binds:List (Str×Value)}{kd:Addr}{p1:Option Value}{o:Obj}{F1:Obj->Sem (List (Str×Value))}(ho:s.heap.get? kd=some o)(h1:bindArgs fd args = .load kd p1 F1)(h3:F1 o=pure binds):BindsTo s fd args binds:=fun M A E Q hq=>by
 rw [h1]
 refine wpAny_ld ho ?_
 rw [h3]
 exact wpAny_pure hq
theorem two_names {a b:Str}(hab:a≠b):∀{ks:List Str},(∀k∈ks,k=a\/k=b)->ks.Nodup->ks=[]\/ks=[a]\/ks=[b]\/ks=[a,b]\/ks=[b,a]
 | [],_,_=>.inl rfl
 | [x],h,_=>by
  rcases h x (by simp) with rfl|rfl
  ·exact .inr (.inl rfl)
  ·exact .inr (.inr (.inl rfl))
 | [x,y],h,n=>by
  rcases h x (by simp) with rfl|rfl<;>rcases h y (by simp) with rfl|rfl
  ·simp at n
  ·exact .inr (.inr (.inr (.inl rfl)))
  ·exact .inr (.inr (.inr (.inr rfl)))
  ·simp at n
 | x::y::z::r,h,n=>by
  have hx:=h x (by simp)
  have hy:=h y (by simp)
  have hz:=h z (by simp)
  simp only [List.nodup_cons,List.mem_cons,not_or] at n
  obtain⟨⟨n1,n2,_⟩,⟨n3,_⟩,_⟩:=n
  rcases hx with rfl|rfl<;>rcases hy with rfl|rfl<;>rcases hz with rfl|rfl<;>first | exact absurd rfl n1 | exact absurd rfl n2 | exact absurd rfl n3
theorem vals_look {x:Str}{d:V}{d':Value}(hd:RelV d d'):∀{ks:List Str} {zs:List V} {ws:List Value},Vals zs ws->RelV (((ks.zip zs).lookup x).getD d) (((ks.zip ws).lookup x).getD d')
 | [],_,_,_=>hd
 | _::_,_,_,.nil=>hd
 | k::ks,_,_,.cons r rs=>by
  simp only [List.zip_cons_cons,List.lookup]
  cases x==k
  ·exact vals_look hd rs
  ·exact r
theorem vals_app:∀{xs:List V} {us:List Value} {ys:List V} {vs:List Value},Vals xs us->Vals ys vs->Vals (xs++ys) (us++vs)
 | _,_,_,_,.nil,h=>h
 | _,_,_,_,.cons r rs,h=>.cons r (vals_app rs h)
end L2
namespace Q81
open PySem L2
noncomputable abbrev kwEs (h1 h2:Int)(tr tw ur uw:Tok):Array DictEntry:=#[⟨h1,.str "room" tr,.int 4 ur⟩,⟨h2,.str "wait" tw,.int 6 uw⟩]
theorem kb_house {K:PySem.W.Frag}{kd:Addr}{okd:Value}{odk an:Option Addr}{h1 h2:Int}{tr tw ur uw:Tok}{ep:Nat}{sl:Array (Option Value)}{dc pm cd ct:Value}(lk:K.lookup kd=some ⟨okd,odk,.dict (kwEs h1 h2 tr tw ur uw) ep,sl⟩):
 BindsM K P.T 2 "__init__" (PySem.W.fnOf "__init__" "House.__init__" (defArgs (inCls (top 54) 0)) (defBody (inCls (top 54) 0)) (defScope (inCls (top 54) 0)) .none (.ref kd) dc pm an cd ct) ["self","number","sides","room","wait"]:=by
 have ekw:P.T.kwOf 2=([("room",.int 4),("wait",.int 6)]:List (Str×RF.D)):=rfl
 refine .inl ⟨rfl,by rw [ekw];simp,by rw [ekw];decide,fun ks hk hn=>?_⟩
 rw [ekw] at hk ⊢
 have hks:=two_names (a:=("room":Str)) (b:=("wait":Str)) (by decide +kernel) (ks:=ks) (fun k h=>by
  have:=List.all_eq_true.mp hk k h
  simp only [List.any_cons,List.any_nil,Bool.or_false,Bool.or_eq_true,decide_eq_true_eq] at this
  exact this.imp Eq.symm Eq.symm) hn
 refine⟨fun us ws=>us++[((ks.zip ws).lookup ("room":Str)).getD (.int 4 ur),((ks.zip ws).lookup ("wait":Str)).getD (.int 6 uw)],⟨fun s us ws X hl=>?_,fun {vs us zs ws} r rz=>?_⟩⟩
 ·have ho:=X _ _ lk
  match us,hl with
  | [a,b,c],_=>
   rcases hks with rfl|rfl|rfl|rfl|rfl
   ·exact bind0 ho rfl rfl rfl
   ·match ws with
    | []=>exact bind0 ho rfl rfl rfl
    | x::_=>exact bind1 ho rfl rfl
   ·match ws with
    | []=>exact bind0 ho rfl rfl rfl
    | x::_=>exact bind1 ho rfl rfl
   ·match ws with
    | []=>exact bind0 ho rfl rfl rfl
    | [x]=>exact bind1 ho rfl rfl
    | x::y::_=>exact .of_eq rfl
   ·match ws with
    | []=>exact bind0 ho rfl rfl rfl
    | [x]=>exact bind1 ho rfl rfl
    | x::y::_=>exact .of_eq rfl
  | [],h=>simp at h
  | [_],h=>simp at h
  | [_,_],h=>simp at h
  | _::_::_::_::_,h=>simp at h
 ·exact vals_app r (.cons (vals_look (d:=.int 4) (d':=.int 4 ur) ⟨_,rfl⟩ rz) (.cons (vals_look (d:=.int 6) (d':=.int 6 uw) ⟨_,rfl⟩ rz) .nil))
theorem kb_net {K:PySem.W.Frag}{kd:Addr}{okd:Value}{odk an:Option Addr}{h1 h2:Int}{tr tw ur uw:Tok}{ep:Nat}{sl:Array (Option Value)}{dc pm cd ct:Value}(lk:K.lookup kd=some ⟨okd,odk,.dict (kwEs h1 h2 tr tw ur uw) ep,sl⟩):
 BindsM K P.T 3 "__init__" (PySem.W.fnOf "__init__" "Net.__init__" (defArgs (inCls (top 56) 0)) (defBody (inCls (top 56) 0)) (defScope (inCls (top 56) 0)) .none (.ref kd) dc pm an cd ct) ["self","houses","ways","room","wait"]:=by
 have ekw:P.T.kwOf 3=([("room",.int 4),("wait",.int 6)]:List (Str×RF.D)):=rfl
 refine .inl ⟨rfl,by rw [ekw];simp,by rw [ekw];decide,fun ks hk hn=>?_⟩
 rw [ekw] at hk ⊢
 have hks:=two_names (a:=("room":Str)) (b:=("wait":Str)) (by decide +kernel) (ks:=ks) (fun k h=>by
  have:=List.all_eq_true.mp hk k h
  simp only [List.any_cons,List.any_nil,Bool.or_false,Bool.or_eq_true,decide_eq_true_eq] at this
  exact this.imp Eq.symm Eq.symm) hn
 refine⟨fun us ws=>us++[((ks.zip ws).lookup ("room":Str)).getD (.int 4 ur),((ks.zip ws).lookup ("wait":Str)).getD (.int 6 uw)],⟨fun s us ws X hl=>?_,fun {vs us zs ws} r rz=>?_⟩⟩
 ·have ho:=X _ _ lk
  match us,hl with
  | [a,b,c],_=>
   rcases hks with rfl|rfl|rfl|rfl|rfl
   ·exact bind0 ho rfl rfl rfl
   ·match ws with
    | []=>exact bind0 ho rfl rfl rfl
    | x::_=>exact bind1 ho rfl rfl
   ·match ws with
    | []=>exact bind0 ho rfl rfl rfl
    | x::_=>exact bind1 ho rfl rfl
   ·match ws with
    | []=>exact bind0 ho rfl rfl rfl
    | [x]=>exact bind1 ho rfl rfl
    | x::y::_=>exact .of_eq rfl
   ·match ws with
    | []=>exact bind0 ho rfl rfl rfl
    | [x]=>exact bind1 ho rfl rfl
    | x::y::_=>exact .of_eq rfl
  | [],h=>simp at h
  | [_],h=>simp at h
  | [_,_],h=>simp at h
  | _::_::_::_::_,h=>simp at h
 ·exact vals_app r (.cons (vals_look (d:=.int 4) (d':=.int 4 ur) ⟨_,rfl⟩ rz) (.cons (vals_look (d:=.int 6) (d':=.int 6 uw) ⟨_,rfl⟩ rz) .nil))
end Q81
namespace L2
open PySem PySem.Spec PyProof.Rows
def exStr (es:Array DictEntry):Bool:=es.toList.all (fun e=>match e.key with | .str _ _=>true | _=>false)
theorem exStr_ok {K:PySem.W.Frag}{N:Addr}{o v:Value}{od:Option Addr}{es:Array DictEntry}{ep:Nat}{sl:Array (Option Value)}(l:K.lookup N=some ⟨o,od,.dict es ep,sl⟩)(e:exStr es=true)(hi:nsFind es "__init__" = some v)(h:Heap)(X:K.In h):∃mN,h.Ns N mN/\mN "__init__" = some v:=by
 unfold exStr at e
 rw [List.all_eq_true] at e
 refine⟨fun x=>nsFind es x,⟨_,es,ep,X _ _ l,rfl,fun d hd=>?_,fun _=>rfl⟩,hi⟩
 have:=e d (by simpa using hd)
 split at this
 ·rename_i n t hk
  exact⟨n,t,hk⟩
 ·cases this
structure XInit (st:Stmt)(f a1 a2:Str):Prop where
 sc:FnScope [a1,a2] [a1,a2] (defScope st)
 bd:∃p1 p2 p3 p4,defBody st=[.Assign [.Attribute (.Name a1 p1) f p2] (.Name a2 p3) p4]
 l1:(defScope st).names.lookup a1=some .local
 l2:(defScope st).names.lookup a2=some .local
 dn:(a1==("__debug__":Str))=false/\(a1==("__classdict__":Str))=false/\(a2==("__debug__":Str))=false/\(a2==("__classdict__":Str))=false
theorem xc_mk {P:Program}{w:World}{K:PySem.W.Frag}{C W N fI:Addr}{nm q qual f a1 a2:Str}{bs sub:List Value}{ab:Bool}{sn:List Str}{col:Option Bool}{dd:Option Addr}{ka kb kc kd kf:Option Value}{oN:Value}{odN odI:Option Addr}{es:Array DictEntry}{ep:Nat}{slN slI:Array (Option Value)}{oW oNW:Value}{odW odNW:Option Addr}{cdW:ClassData}{slW slNW:Array (Option Value)}{esW:Array DictEntry}{epW:Nat}{st:Stmt}{fdI:FuncData}
 (l:K.lookup C=some (excClassObj nm q C N bs (.ref W::[.type "ValueError",.type "Exception",.type "BaseException",.type "object"]) true sn sub ab col dd ka kb kc kd kf "ValueError.__new__")) (lN:K.lookup N=some ⟨oN,odN,.dict es ep,slN⟩) (eN:exStr es=true) (hi:nsFind es "__init__" = some (.ref fI))
 (lW:K.lookup W=some ⟨oW,odW,.cls cdW,slW⟩) (lNW:K.lookup cdW.ns=some ⟨oNW,odNW,.dict esW epW,slNW⟩) (eW:exNs esW=true)
 (sa:PySem.W.findIn K (.ref C) "__setattr__" = some (some (.builtin "object.__setattr__"))) (ga:PySem.W.findIn K (.ref C) "__getattribute__" = some (some (.builtin "BaseException.__getattribute__"))) (gh:PySem.W.findIn K (.ref C) "__getattr__" = some none) (no:PySem.W.findIn K (.ref C) f=some none)
 (lI:K.lookup fI=some ⟨.type "function",odI,.func fdI,slI⟩) (F:Fun K "__init__" qual st fI fdI) (I:XInit st f a1 a2) (hb:∀(s:Shared) (u1 u2:Value),BindsTo s fdI ⟨[u1,u2],[]⟩ [(a1,u1),(a2,u2)]):XC P w K C f/\XCls K C W f:=by
 have xcl:XCls K C W f:=⟨⟨_,by unfold PySem.W.clsIn;rw [l],rfl,rfl⟩,sa,ga,gh,no⟩
 obtain⟨p1,p2,p3,p4,hbd⟩:=I.bd
 refine⟨⟨fI,W,qual,st,fdI,a1,a2,p1,p2,p3,p4,⟨⟨nm,q,N,bs,_,true,sn,sub,ab,col,dd,ka,kb,kc,kd,kf,l,by simp,fun h X=>exStr_ok lN eN hi h X,fun h X=>?_⟩,_,lI,rfl⟩,xcl,F,I.sc,hbd,I.l1,I.l2,I.dn,hb⟩,xcl⟩
 obtain⟨mW,hW,hi⟩:=exNs_ok lNW eW h X
 exact .own (X _ _ lW) hW hi .base
end L2
namespace Q81
open PySem L2
noncomputable abbrev lamQ0:Str:=(("law":Str)++Str.ofString ".<locals>.") ++ "<lambda>"
noncomputable abbrev gOf (s:Stmt):RF.Fn:=(RF.fnOf s).getD ⟨[],[],defScope s,[],false⟩
theorem len1 {us:List Value}(h:us.length=1):∃a,us=[a]:=List.length_eq_one_iff.mp h
theorem len2 {us:List Value}(h:us.length=2):∃a b,us=[a,b]:=match us,h with
 | [_,_],_=>⟨_,_,rfl⟩
theorem len3 {us:List Value}(h:us.length=3):∃a b c,us=[a,b,c]:=match us,h with
 | [_,_,_],_=>⟨_,_,_,rfl⟩
theorem len4 {us:List Value}(h:us.length=4):∃a b c d,us=[a,b,c,d]:=match us,h with
 | [_,_,_,_],_=>⟨_,_,_,_,rfl⟩
theorem len5 {us:List Value}(h:us.length=5):∃a b c d e,us=[a,b,c,d,e]:=match us,h with
 | [_,_,_,_,_],_=>⟨_,_,_,_,_,rfl⟩
theorem bd1 {K:PySem.W.Frag}{x q:Str}{st:Stmt}{f:Addr}{fd:FuncData}{ps:List Str}(F:Fun K x q st f fd)(hp:ps.length=1)(h:∀kV doc pm an cd ct a,bindArgs (PySem.W.fnOf x q (defArgs st) (defBody st) (defScope st) .none kV doc pm an cd ct) ⟨[a],[]⟩=pure (ps.zip [a])):Binds K fd ps []:=F.binds fun kV doc pm an cd ct us hl=>by obtain⟨a,rfl⟩:=len1 (hl.trans hp);exact h kV doc pm an cd ct a
theorem bd2 {K:PySem.W.Frag}{x q:Str}{st:Stmt}{f:Addr}{fd:FuncData}{ps:List Str}(F:Fun K x q st f fd)(hp:ps.length=2)(h:∀kV doc pm an cd ct a b,bindArgs (PySem.W.fnOf x q (defArgs st) (defBody st) (defScope st) .none kV doc pm an cd ct) ⟨[a,b],[]⟩=pure (ps.zip [a,b])):Binds K fd ps []:=F.binds fun kV doc pm an cd ct us hl=>by obtain⟨a,b,rfl⟩:=len2 (hl.trans hp);exact h kV doc pm an cd ct a b
theorem bd3 {K:PySem.W.Frag}{x q:Str}{st:Stmt}{f:Addr}{fd:FuncData}{ps:List Str}(F:Fun K x q st f fd)(hp:ps.length=3)(h:∀kV doc pm an cd ct a b c,bindArgs (PySem.W.fnOf x q (defArgs st) (defBody st) (defScope st) .none kV doc pm an cd ct) ⟨[a,b,c],[]⟩=pure (ps.zip [a,b,c])):Binds K fd ps []:=F.binds fun kV doc pm an cd ct us hl=>by obtain⟨a,b,c,rfl⟩:=len3 (hl.trans hp);exact h kV doc pm an cd ct a b c
theorem bd4 {K:PySem.W.Frag}{x q:Str}{st:Stmt}{f:Addr}{fd:FuncData}{ps:List Str}(F:Fun K x q st f fd)(hp:ps.length=4)(h:∀kV doc pm an cd ct a b c d,bindArgs (PySem.W.fnOf x q (defArgs st) (defBody st) (defScope st) .none kV doc pm an cd ct) ⟨[a,b,c,d],[]⟩=pure (ps.zip [a,b,c,d])):Binds K fd ps []:=F.binds fun kV doc pm an cd ct us hl=>by obtain⟨a,b,c,d,rfl⟩:=len4 (hl.trans hp);exact h kV doc pm an cd ct a b c d
theorem bd5 {K:PySem.W.Frag}{x q:Str}{st:Stmt}{f:Addr}{fd:FuncData}{ps:List Str}(F:Fun K x q st f fd)(hp:ps.length=5)(h:∀kV doc pm an cd ct a b c d e,bindArgs (PySem.W.fnOf x q (defArgs st) (defBody st) (defScope st) .none kV doc pm an cd ct) ⟨[a,b,c,d,e],[]⟩=pure (ps.zip [a,b,c,d,e])):Binds K fd ps []:=F.binds fun kV doc pm an cd ct us hl=>by obtain⟨a,b,c,d,e,rfl⟩:=len5 (hl.trans hp);exact h kV doc pm an cd ct a b c d e
noncomputable abbrev FU (K:PySem.W.Frag)(x:Str)(k:Nat)(f:Addr):Prop:=PySem.W.nsIn K mainGlobals x=some (some (.ref f))/\∃fd,Fun K x x (top k) f fd
noncomputable abbrev MU (K:PySem.W.Frag)(C:Addr)(x q:Str)(k j:Nat)(f:Addr):Prop:=PySem.W.findIn K (.ref C) x=some (some (.ref f))/\PySem.W.isFn K (.ref f)=true/\∃fd,Fun K x q (inCls (top k) j) f fd
noncomputable abbrev NI (K:PySem.W.Frag)(C:Addr):List Addr->Prop
 | []=>True
 | c::r=>(PySem.W.subIn K (.ref C) (.ref c)=some false/\(Value.ref C==Value.ref c)=false)/\NI K C r
noncomputable abbrev Free (K:PySem.W.Frag)(C:Addr):List Str->Prop
 | []=>True
 | x::r=>PySem.W.findIn K (.ref C) x=some none/\Free K C r
theorem Free.at {K:PySem.W.Frag}{C:Addr}{x:Str}:∀{l:List Str},Free K C l->x∈l->NoAttr K C x
 | [],_,h=>by cases h
 | y::r,f,h=>by
  rcases List.mem_cons.mp h with rfl | h
  ·exact f.1
  ·exact Free.at f.2 h
noncomputable def _root_.RF.Tab.free (T:RF.Tab)(c:Nat):List Str:=(T.nams.zipIdx.filter fun p=>T.plain c p.2).map (·.1)
theorem _root_.RF.free_mem {T:RF.Tab}{c f:Nat}{x:Str}(hp:T.plain c f=true)(hx:T.nams[f]?=some x):x∈T.free c:=by
 unfold RF.Tab.free
 refine List.mem_map.mpr ⟨(x,f),List.mem_filter.mpr ⟨?_,hp⟩,rfl⟩
 exact List.mem_zipIdx_iff_getElem?.mpr hx
theorem look1 {α β:Type}[BEq α][LawfulBEq α]{a x:α}{b y:β}(h:([(a,b)]:List (α×β)).lookup x=some y):x=a/\y=b:=by
 rw [List.lookup_cons] at h
 cases e:x==a with
 | true=>rw [e] at h;exact⟨eq_of_beq e,(Option.some.inj h).symm⟩
 | false=>rw [e] at h;cases h
theorem nine_get {c0 c1 c2 c3 c4 c5 c6 c7 c8:Addr}{d:Nat}(h:d<9):[c0,c1,c2,c3,c4,c5,c6,c7,c8][d]?=some ([c0,c1,c2,c3,c4,c5,c6,c7,c8].getD d 0):=by
 match d,h with
 | 0,_ | 1,_ | 2,_ | 3,_ | 4,_ | 5,_ | 6,_ | 7,_ | 8,_=>rfl
 | d+9,h=>omega
theorem two_beq {a b c d:Nat}(h:(a==b&&c==d)=true):a=b/\c=d:=by simpa using h
theorem mt_pl {K:PySem.W.Frag}{W:Adr}{c m k j:Nat}{x q:Str}{f:Addr}(M:MU K (W.c c) x q k j f)(b:∀fd,Fun K x q (inCls (top k) j) f fd->Binds K fd (gOf (inCls (top k) j)).ps [])(h7:Cls K (W.c c))(h1:(P.ms.find? fun y=>y.1==c&&y.2.1==m)=some (c,m,inCls (top k) j):=by rfl)(h2:RF.fnOf (inCls (top k) j)=some (gOf (inCls (top k) j)):=by rfl)(h3:(scopeB (gOf (inCls (top k) j)) && !decide (x = "__init__"))=true:=by decide +kernel):MtAtK K W P c m x:=by
 obtain⟨a,i,fd,F⟩:=M
 have h3:=Bool.and_eq_true_iff.mp h3
 have hn:x ≠ "__init__":=by simpa using h3.2
 exact mtAt_mk F h1 h2 h3.1 ⟨a,i,F.kp⟩ (.inr ⟨fun z=>absurd z hn,b fd F⟩) (fun z=>absurd z hn) h7
theorem fn_pl {Pr:Program}{w:World}{K:PySem.W.Frag}{h base:Heap}{mg:Str->Option Value}{W:Adr}{i k:Nat}{x:Str}{f:Addr}(X:K.In h)(G:h.Ns mainGlobals mg)(M:FU K x k f)(b:∀fd,Fun K x x (top k) f fd->Binds K fd (gOf (top k)).ps [])(h1:P.fs[i]?=some (top k):=by rfl)(h2:RF.fnOf (top k)=some (gOf (top k)):=by rfl)(h3:scopeB (gOf (top k))=true:=by decide +kernel)(h6:P.lams.contains i=false:=by rfl):FnAtK Pr w K mg base W P x i:=by
 obtain⟨a,fd,F⟩:=M
 exact fnAt_mk F h1 h2 h3 (PySem.W.mg_of X G a) (b fd F) fun z=>by rw [h6] at z;cases z
theorem xiG7:XInit (inCls (top 10) 0) "house" "self" "house":=⟨⟨rfl,rfl,rfl,by decide +kernel,rfl,by decide +kernel,by decide +kernel⟩,⟨_,_,_,_,rfl⟩,rfl,rfl,by decide +kernel⟩
theorem all_mk {l:PySem.W.OpenLaw}{w:World}{K:PySem.W.Frag}{h:Heap}{mg:Str->Option Value}{fa C0 C1 C2 C3 fu0 fu1 fu2 fu3 fu4 fu5 fu6 fu7 fu8 fu9 fu10 fu11 fu12 fu13 fu14 fu15 fu16 fu17 fu18 fu19 fu20 fu21 fu22 fu23 fu24 fu25 fu26 fu27 fm0_0 fm0_1 fm1_0 fm1_1 fm2_0 fm2_1 fm2_2 fm3_0 fm3_1 fm3_7 fm3_8 fm3_9 fm3_11 fm3_17 fm3_25 fm3_26 fm3_27 fm3_28 ftm c0 c1 c2 c3 c4 c5 c6 c7 c8 cc0 Pt0 eW kdH2 kdH3:Addr}(X:K.In h)(G:h.Ns mainGlobals mg)(hfa:mg "law" = some (.ref fa))
 {odu27 anu27 odm2_0 anm2_0 odm3_0 anm3_0 odW odNW odc0 odk2 odk3:Option Addr} {slu27 slm2_0 slm3_0 slW slNW slc0 slk2 slk3:Array (Option Value)}
 {ocu27 dcu27 pmu27 ctu27 kVu27 ocm2_0 dcm2_0 pmm2_0 ctm2_0 cdm2_0 ocm3_0 dcm3_0 pmm3_0 ctm3_0 cdm3_0 oW oNW okd2 okd3:Value} {t0 t1 t2 t3 t4 t5 t6 t7 t8 tkr2 tkw2 ukr2 ukw2 tkr3 tkw3 ukr3 ukw3:Tok} {ecd0 ecd1 ecd2 ecd3 ecd4 ecd5 ecd6 ecd7 ecd8 ecdW cdW:ClassData} {vsc0:Array Value} {esW:Array DictEntry} {epW epk2 epk3:Nat} {hh1_2 hh2_2 hh1_3 hh2_3:Int}
 {tk0 tk1 tk2 tk3 tk4 tk5 tk6 tk7 tk8 tk9 tk10 tk11 tkK:Tok} {epK nK:Nat} {odK:Option Addr} {slK:Array (Option Value)}
 {nm0 q0:Str} {N0:Addr} {bs0 sub0:List Value} {hx0 ab0:Bool} {sn0:List Str} {col0:Option Bool} {dd0:Option Addr} {ka0 kb0 kc_0 kd0 kf0:Option Value} {oN0:Value} {odN0:Option Addr} {es0:Array DictEntry} {ep0:Nat} {slN0:Array (Option Value)}
 {nm1 q1:Str} {N1:Addr} {bs1 sub1:List Value} {hx1 ab1:Bool} {sn1:List Str} {col1:Option Bool} {dd1:Option Addr} {ka1 kb1 kc_1 kd1 kf1:Option Value} {oN1:Value} {odN1:Option Addr} {es1:Array DictEntry} {ep1:Nat} {slN1:Array (Option Value)}
 {nm2 q2:Str} {N2:Addr} {bs2 sub2:List Value} {hx2 ab2:Bool} {sn2:List Str} {col2:Option Bool} {dd2:Option Addr} {ka2 kb2 kc_2 kd2 kf2:Option Value} {oN2:Value} {odN2:Option Addr} {es2:Array DictEntry} {ep2:Nat} {slN2:Array (Option Value)}
 {nm3 q3:Str} {N3:Addr} {bs3 sub3:List Value} {hx3 ab3:Bool} {sn3:List Str} {col3:Option Bool} {dd3:Option Addr} {ka3 kb3 kc_3 kd3 kf3:Option Value} {oN3:Value} {odN3:Option Addr} {es3:Array DictEntry} {ep3:Nat} {slN3:Array (Option Value)}
 {nm4 q4:Str} {N4:Addr} {bs4 sub4:List Value} {hx4 ab4:Bool} {sn4:List Str} {col4:Option Bool} {dd4:Option Addr} {ka4 kb4 kc_4 kd4 kf4:Option Value} {oN4:Value} {odN4:Option Addr} {es4:Array DictEntry} {ep4:Nat} {slN4:Array (Option Value)}
 {nm5 q5:Str} {N5:Addr} {bs5 sub5:List Value} {hx5 ab5:Bool} {sn5:List Str} {col5:Option Bool} {dd5:Option Addr} {ka5 kb5 kc_5 kd5 kf5:Option Value} {oN5:Value} {odN5:Option Addr} {es5:Array DictEntry} {ep5:Nat} {slN5:Array (Option Value)}
 {nm6 q6:Str} {N6:Addr} {bs6 sub6:List Value} {hx6 ab6:Bool} {sn6:List Str} {col6:Option Bool} {dd6:Option Addr} {ka6 kb6 kc_6 kd6 kf6:Option Value} {oN6:Value} {odN6:Option Addr} {es6:Array DictEntry} {ep6:Nat} {slN6:Array (Option Value)}
 {nm7 q7:Str} {N7:Addr} {bs7 sub7:List Value} {ab7:Bool} {sn7:List Str} {col7:Option Bool} {dd7:Option Addr} {ka7 kb7 kc_7 kd7 kf7:Option Value} {oN7:Value} {odN7:Option Addr} {es7:Array DictEntry} {ep7:Nat} {slN7:Array (Option Value)}
 {fxg7:Addr} {odxg7 anxg7:Option Addr} {slxg7:Array (Option Value)} {kVxg7 dcxg7 pmxg7 cdxg7 ctxg7:Value}
 {nm8 q8:Str} {N8:Addr} {bs8 sub8:List Value} {hx8 ab8:Bool} {sn8:List Str} {col8:Option Bool} {dd8:Option Addr} {ka8 kb8 kc_8 kd8 kf8:Option Value} {oN8:Value} {odN8:Option Addr} {es8:Array DictEntry} {ep8:Nat} {slN8:Array (Option Value)}
 (aC0:PySem.W.nsIn K mainGlobals "Keeps" = some (some (.ref C0)))
 (aC1:PySem.W.nsIn K mainGlobals "Table" = some (some (.ref C1)))
 (aC2:PySem.W.nsIn K mainGlobals "House" = some (some (.ref C2)))
 (aC3:PySem.W.nsIn K mainGlobals "Net" = some (some (.ref C3)))
 (u0:FU K "is_whole" 18 fu0)
 (u1:FU K "is_within" 19 fu1)
 (u2:FU K "is_side" 21 fu2)
 (u3:FU K "is_sides" 24 fu3)
 (u4:FU K "is_way" 25 fu4)
 (u5:FU K "need_within" 26 fu5)
 (u6:FU K "need_sides" 30 fu6)
 (u7:FU K "need_houses" 31 fu7)
 (u8:FU K "need_ways" 32 fu8)
 (u9:FU K "both_ways" 33 fu9)
 (u10:FU K "is_name" 39 fu10)
 (u11:FU K "is_beginning" 40 fu11)
 (u12:FU K "need_beginning" 42 fu12)
 (u13:FU K "read_name" 43 fu13)
 (u14:FU K "is_letter" 52 fu14)
 (u15:FU K "is_of_kind" 62 fu15)
 (u16:FU K "is_deed" 63 fu16)
 (u17:FU K "need_story" 64 fu17)
 (u18:FU K "read_number" 66 fu18)
 (u19:FU K "read_part" 67 fu19)
 (u20:FU K "read_deed" 68 fu20)
 (u21:FU K "read_story" 69 fu21)
 (u22:FU K "_law_cell" 71 fu22)
 (u23:FU K "_law_drawn" 72 fu23)
 (u24:FU K "_law_roll" 73 fu24)
 (u25:FU K "_law_rounds" 74 fu25)
 (u26:FU K "_law_alone" 76 fu26)
 (au27:PySem.W.nsIn K mainGlobals "law" = some (some (.ref fu27)))
 (lu27:K.lookup fu27=some ⟨ocu27,odu27,.func (PySem.W.fnOf "law" "law" (defArgs (top 77)) (defBody (top 77)) (defScope (top 77)) .none kVu27 dcu27 pmu27 anu27 (.ref cc0) ctu27),slu27⟩)
 (cu27d:PySem.W.codeIn K (.ref cc0) "law" = true)
 (ku27:PySem.W.keepIn K (.ref fu27)=true)
 (m0_0:MU K C0 "__init__" "Keeps.__init__" 46 0 fm0_0)
 (m0_1:MU K C0 "put" "Keeps.put" 46 1 fm0_1)
 (m1_0:MU K C1 "__init__" "Table.__init__" 48 0 fm1_0)
 (m1_1:MU K C1 "put" "Table.put" 48 1 fm1_1)
 (am2_0:PySem.W.findIn K (.ref C2) "__init__" = some (some (.ref fm2_0)))
 (im2_0:PySem.W.isFn K (.ref fm2_0)=true)
 (lm2_0:K.lookup fm2_0=some ⟨ocm2_0,odm2_0,.func (PySem.W.fnOf "__init__" "House.__init__" (defArgs (inCls (top 54) 0)) (defBody (inCls (top 54) 0)) (defScope (inCls (top 54) 0)) .none (.ref kdH2) dcm2_0 pmm2_0 anm2_0 cdm2_0 ctm2_0),slm2_0⟩)
 (lkd2:K.lookup kdH2=some ⟨okd2,odk2,.dict (kwEs hh1_2 hh2_2 tkr2 tkw2 ukr2 ukw2) epk2,slk2⟩)
 (cm2_0d:PySem.W.codeIn K cdm2_0 "House.__init__" = true)
 (km2_0:PySem.W.keepIn K (.ref fm2_0)=true)
 (m2_1:MU K C2 "ask" "House.ask" 54 1 fm2_1)
 (m2_2:MU K C2 "come" "House.come" 54 2 fm2_2)
 (am3_0:PySem.W.findIn K (.ref C3) "__init__" = some (some (.ref fm3_0)))
 (im3_0:PySem.W.isFn K (.ref fm3_0)=true)
 (lm3_0:K.lookup fm3_0=some ⟨ocm3_0,odm3_0,.func (PySem.W.fnOf "__init__" "Net.__init__" (defArgs (inCls (top 56) 0)) (defBody (inCls (top 56) 0)) (defScope (inCls (top 56) 0)) .none (.ref kdH3) dcm3_0 pmm3_0 anm3_0 cdm3_0 ctm3_0),slm3_0⟩)
 (lkd3:K.lookup kdH3=some ⟨okd3,odk3,.dict (kwEs hh1_3 hh2_3 tkr3 tkw3 ukr3 ukw3) epk3,slk3⟩)
 (cm3_0d:PySem.W.codeIn K cdm3_0 "Net.__init__" = true)
 (km3_0:PySem.W.keepIn K (.ref fm3_0)=true)
 (m3_1:MU K C3 "ask" "Net.ask" 56 1 fm3_1)
 (m3_7:MU K C3 "come" "Net.come" 56 7 fm3_7)
 (m3_8:MU K C3 "lose" "Net.lose" 56 8 fm3_8)
 (m3_9:MU K C3 "cut" "Net.cut" 56 9 fm3_9)
 (m3_11:MU K C3 "leave" "Net.leave" 56 11 fm3_11)
 (m3_17:MU K C3 "on_way" "Net.on_way" 56 17 fm3_17)
 (m3_25:MU K C3 "taken" "Net.taken" 56 25 fm3_25)
 (m3_26:MU K C3 "need_house" "Net.need_house" 56 26 fm3_26)
 (m3_27:MU K C3 "need_alive" "Net.need_alive" 56 27 fm3_27)
 (m3_28:MU K C3 "need_way" "Net.need_way" 56 28 fm3_28)
 (tm:FU K "_law_met" 75 ftm)
 (pg0:PySem.W.plainGet K C0 Str.empty=true)
 (hd0:PySem.W.hasDictIn K C0=true)
 (po0:PySem.W.plainOver K C0=true)
 (sa0:PySem.W.findIn K (.ref C0) "__setattr__" = some (some (.builtin "object.__setattr__")))
 (mk0:PySem.W.makesIn K C0=true)
 (kc0:PySem.W.keepIn K (.ref C0)=true)
 (fr0:Free K C0 ("ask" :: "beside" :: "broken" :: "come" :: "cut" :: "ends" :: "gone" :: "heard" :: "held" :: "house" :: "houses" :: "kept" :: "learned" :: "leave" :: "lose" :: "need_alive" :: "need_house" :: "need_way" :: "number" :: "on_way" :: "patience" :: "posts" :: "room" :: "store" :: "taken" :: "things" :: "ticks" :: "waiting" :: []))
 (pg1:PySem.W.plainGet K C1 Str.empty=true)
 (hd1:PySem.W.hasDictIn K C1=true)
 (po1:PySem.W.plainOver K C1=true)
 (sa1:PySem.W.findIn K (.ref C1) "__setattr__" = some (some (.builtin "object.__setattr__")))
 (mk1:PySem.W.makesIn K C1=true)
 (kc1:PySem.W.keepIn K (.ref C1)=true)
 (fr1:Free K C1 ("ask" :: "beside" :: "broken" :: "come" :: "cut" :: "ends" :: "gone" :: "heard" :: "held" :: "house" :: "houses" :: "kept" :: "learned" :: "leave" :: "lose" :: "need_alive" :: "need_house" :: "need_way" :: "number" :: "on_way" :: "patience" :: "posts" :: "room" :: "store" :: "taken" :: "things" :: "ticks" :: "waiting" :: []))
 (pg2:PySem.W.plainGet K C2 Str.empty=true)
 (hd2:PySem.W.hasDictIn K C2=true)
 (po2:PySem.W.plainOver K C2=true)
 (sa2:PySem.W.findIn K (.ref C2) "__setattr__" = some (some (.builtin "object.__setattr__")))
 (mk2:PySem.W.makesIn K C2=true)
 (kc2:PySem.W.keepIn K (.ref C2)=true)
 (fr2:Free K C2 ("beside" :: "broken" :: "cut" :: "ends" :: "gone" :: "heard" :: "held" :: "house" :: "houses" :: "kept" :: "learned" :: "leave" :: "lose" :: "need_alive" :: "need_house" :: "need_way" :: "number" :: "on_way" :: "patience" :: "posts" :: "put" :: "room" :: "store" :: "taken" :: "things" :: "ticks" :: "waiting" :: []))
 (pg3:PySem.W.plainGet K C3 Str.empty=true)
 (hd3:PySem.W.hasDictIn K C3=true)
 (po3:PySem.W.plainOver K C3=true)
 (sa3:PySem.W.findIn K (.ref C3) "__setattr__" = some (some (.builtin "object.__setattr__")))
 (mk3:PySem.W.makesIn K C3=true)
 (kc3:PySem.W.keepIn K (.ref C3)=true)
 (fr3:Free K C3 ("beside" :: "broken" :: "ends" :: "gone" :: "heard" :: "held" :: "house" :: "houses" :: "kept" :: "learned" :: "number" :: "patience" :: "posts" :: "put" :: "room" :: "store" :: "things" :: "ticks" :: "waiting" :: []))
 (gc0:PySem.W.nsIn K mainGlobals "SIDE_MOST" = some (some (.int 7 t0)))
 (gc1:PySem.W.nsIn K mainGlobals "HOUSES_LEAST" = some (some (.int 2 t1)))
 (gc2:PySem.W.nsIn K mainGlobals "HOUSES_MOST" = some (some (.int 8 t2)))
 (gc3:PySem.W.nsIn K mainGlobals "NAME_LONGEST" = some (some (.int 5 t3)))
 (gc4:PySem.W.nsIn K mainGlobals "ROOM_MOST" = some (some (.int 9 t4)))
 (gc5:PySem.W.nsIn K mainGlobals "WAIT_LEAST" = some (some (.int 1 t5)))
 (gc6:PySem.W.nsIn K mainGlobals "WAIT_MOST" = some (some (.int 20 t6)))
 (gc7:PySem.W.nsIn K mainGlobals "FIGURES" = some (some (.str "0123456789" t7)))
 (gc8:PySem.W.nsIn K mainGlobals "FIGURES_MOST" = some (some (.int 3 t8)))
 (zn0:PySem.W.nsIn K mainGlobals "isinstance" = some none)
 (zn1:PySem.W.nsIn K mainGlobals "int" = some none)
 (zn2:PySem.W.nsIn K mainGlobals "bool" = some none)
 (zn3:PySem.W.nsIn K mainGlobals "str" = some none)
 (zn4:PySem.W.nsIn K mainGlobals "tuple" = some none)
 (zn5:PySem.W.nsIn K mainGlobals "list" = some none)
 (zn6:PySem.W.nsIn K mainGlobals "len" = some none)
 (zn7:PySem.W.nsIn K mainGlobals "all" = some none)
 (zn8:PySem.W.nsIn K mainGlobals "max" = some none)
 (zn9:PySem.W.nsIn K mainGlobals "min" = some none)
 (zn10:PySem.W.nsIn K mainGlobals "range" = some none)
 (zn11:PySem.W.nsIn K mainGlobals "set" = some none)
 (zn12:PySem.W.nsIn K mainGlobals "sorted" = some none)
 (zn13:PySem.W.nsIn K mainGlobals "zip" = some none)
 (zn14:PySem.W.nsIn K mainGlobals "enumerate" = some none)
 (zn15:PySem.W.nsIn K mainGlobals "ValueError" = some none)
 (eaW:PySem.W.nsIn K mainGlobals "WantError" = some (some (.ref eW)))
 (elW:K.lookup eW=some ⟨oW,odW,.cls cdW,slW⟩)
 (eNW:K.lookup cdW.ns=some ⟨oNW,odNW,.dict esW epW,slNW⟩)
 (eKW:exNs esW=true)
 (gkd:PySem.W.nsIn K mainGlobals "PARTS" = some (some (.ref 816)))
 (lkdd:K.lookup 816=some ⟨.type "dict",none,.dict #[⟨PySem.PyData.keyHash w.params "ask",.str "ask" tk0,.ref 817⟩,⟨PySem.PyData.keyHash w.params "own",.str "own" tk1,.ref 818⟩,⟨PySem.PyData.keyHash w.params "disown",.str "disown" tk2,.ref 819⟩,⟨PySem.PyData.keyHash w.params "teach",.str "teach" tk3,.ref 820⟩,⟨PySem.PyData.keyHash w.params "forget",.str "forget" tk4,.ref 821⟩,⟨PySem.PyData.keyHash w.params "come",.str "come" tk5,.ref 822⟩,⟨PySem.PyData.keyHash w.params "lose",.str "lose" tk6,.ref 823⟩,⟨PySem.PyData.keyHash w.params "cut",.str "cut" tk7,.ref 824⟩,⟨PySem.PyData.keyHash w.params "mend",.str "mend" tk8,.ref 825⟩,⟨PySem.PyData.keyHash w.params "leave",.str "leave" tk9,.ref 826⟩,⟨PySem.PyData.keyHash w.params "settle",.str "settle" tk10,.ref 827⟩,⟨PySem.PyData.keyHash w.params "tick",.str "tick" tk11,.ref 828⟩] epK,#[]⟩)
 (lktt:K.lookup 826=some ⟨.type "tuple",odK,.seq #[.str "house" tkK] nK,slK⟩)
 (na0:PySem.W.nsIn K mainGlobals "BadName" = some (some (.ref c0)))
 (nt0:PySem.W.typeIn K (.ref c0)=some (.type "type"))
 (nc0:PySem.W.clsIn K c0=some ecd0)
 (na1:PySem.W.nsIn K mainGlobals "BadSides" = some (some (.ref c1)))
 (nt1:PySem.W.typeIn K (.ref c1)=some (.type "type"))
 (nc1:PySem.W.clsIn K c1=some ecd1)
 (na2:PySem.W.nsIn K mainGlobals "BadNumber" = some (some (.ref c2)))
 (nt2:PySem.W.typeIn K (.ref c2)=some (.type "type"))
 (nc2:PySem.W.clsIn K c2=some ecd2)
 (na3:PySem.W.nsIn K mainGlobals "BadLetter" = some (some (.ref c3)))
 (nt3:PySem.W.typeIn K (.ref c3)=some (.type "type"))
 (nc3:PySem.W.clsIn K c3=some ecd3)
 (na4:PySem.W.nsIn K mainGlobals "NoHouse" = some (some (.ref c4)))
 (nt4:PySem.W.typeIn K (.ref c4)=some (.type "type"))
 (nc4:PySem.W.clsIn K c4=some ecd4)
 (na5:PySem.W.nsIn K mainGlobals "NoWay" = some (some (.ref c5)))
 (nt5:PySem.W.typeIn K (.ref c5)=some (.type "type"))
 (nc5:PySem.W.clsIn K c5=some ecd5)
 (na6:PySem.W.nsIn K mainGlobals "NoLetter" = some (some (.ref c6)))
 (nt6:PySem.W.typeIn K (.ref c6)=some (.type "type"))
 (nc6:PySem.W.clsIn K c6=some ecd6)
 (na7:PySem.W.nsIn K mainGlobals "Gone" = some (some (.ref c7)))
 (nt7:PySem.W.typeIn K (.ref c7)=some (.type "type"))
 (nc7:PySem.W.clsIn K c7=some ecd7)
 (na8:PySem.W.nsIn K mainGlobals "BadStory" = some (some (.ref c8)))
 (nt8:PySem.W.typeIn K (.ref c8)=some (.type "type"))
 (nc8:PySem.W.clsIn K c8=some ecd8)
 (ntW:PySem.W.typeIn K (.ref eW)=some (.type "type"))
 (ncW:PySem.W.clsIn K eW=some ecdW)
 (nbW:PySem.W.mroIn K eW (.type "BaseException")=some true)
 (egn:PySem.W.specialIn K (.builtin "object.__class__") "__get__" = some (some (.builtin "getset_descriptor.__get__")))
 (etk:PySem.W.takesIn K (.builtin "object.__class__")=some true)
 (el0:K.lookup c0=some (excClassObj nm0 q0 c0 N0 bs0 (.ref eW::[.type "ValueError",.type "Exception",.type "BaseException",.type "object"]) hx0 sn0 sub0 ab0 col0 dd0 ka0 kb0 kc_0 kd0 kf0 "ValueError.__new__"))
 (eN0:K.lookup N0=some ⟨oN0,odN0,.dict es0 ep0,slN0⟩)
 (eK0:exNs es0=true)
 (eg0:PySem.W.findIn K (.ref c0) "__getattribute__" = some (some (.builtin "BaseException.__getattribute__")))
 (eh0:PySem.W.findIn K (.ref c0) "__getattr__" = some none)
 (ek0:PySem.W.findIn K (.ref c0) "__class__" = some (some (.builtin "object.__class__")))
 (eo0:PySem.W.mroIn K c0 (.type "object")=some true)
 (eb0:PySem.W.mroIn K c0 (.type "BaseException")=some true)
 (ni0:NI K c0 [c1,c2,c3,c4,c5,c6,c7,c8])
 (es0W:PySem.W.subIn K (.ref c0) (.ref eW)=some true)
 (es0V:PySem.W.subIn K (.ref c0) (.type "ValueError")=some true)
 (el1:K.lookup c1=some (excClassObj nm1 q1 c1 N1 bs1 (.ref eW::[.type "ValueError",.type "Exception",.type "BaseException",.type "object"]) hx1 sn1 sub1 ab1 col1 dd1 ka1 kb1 kc_1 kd1 kf1 "ValueError.__new__"))
 (eN1:K.lookup N1=some ⟨oN1,odN1,.dict es1 ep1,slN1⟩)
 (eK1:exNs es1=true)
 (eg1:PySem.W.findIn K (.ref c1) "__getattribute__" = some (some (.builtin "BaseException.__getattribute__")))
 (eh1:PySem.W.findIn K (.ref c1) "__getattr__" = some none)
 (ek1:PySem.W.findIn K (.ref c1) "__class__" = some (some (.builtin "object.__class__")))
 (eo1:PySem.W.mroIn K c1 (.type "object")=some true)
 (eb1:PySem.W.mroIn K c1 (.type "BaseException")=some true)
 (ni1:NI K c1 [c0,c2,c3,c4,c5,c6,c7,c8])
 (es1W:PySem.W.subIn K (.ref c1) (.ref eW)=some true)
 (es1V:PySem.W.subIn K (.ref c1) (.type "ValueError")=some true)
 (el2:K.lookup c2=some (excClassObj nm2 q2 c2 N2 bs2 (.ref eW::[.type "ValueError",.type "Exception",.type "BaseException",.type "object"]) hx2 sn2 sub2 ab2 col2 dd2 ka2 kb2 kc_2 kd2 kf2 "ValueError.__new__"))
 (eN2:K.lookup N2=some ⟨oN2,odN2,.dict es2 ep2,slN2⟩)
 (eK2:exNs es2=true)
 (eg2:PySem.W.findIn K (.ref c2) "__getattribute__" = some (some (.builtin "BaseException.__getattribute__")))
 (eh2:PySem.W.findIn K (.ref c2) "__getattr__" = some none)
 (ek2:PySem.W.findIn K (.ref c2) "__class__" = some (some (.builtin "object.__class__")))
 (eo2:PySem.W.mroIn K c2 (.type "object")=some true)
 (eb2:PySem.W.mroIn K c2 (.type "BaseException")=some true)
 (ni2:NI K c2 [c0,c1,c3,c4,c5,c6,c7,c8])
 (es2W:PySem.W.subIn K (.ref c2) (.ref eW)=some true)
 (es2V:PySem.W.subIn K (.ref c2) (.type "ValueError")=some true)
 (el3:K.lookup c3=some (excClassObj nm3 q3 c3 N3 bs3 (.ref eW::[.type "ValueError",.type "Exception",.type "BaseException",.type "object"]) hx3 sn3 sub3 ab3 col3 dd3 ka3 kb3 kc_3 kd3 kf3 "ValueError.__new__"))
 (eN3:K.lookup N3=some ⟨oN3,odN3,.dict es3 ep3,slN3⟩)
 (eK3:exNs es3=true)
 (eg3:PySem.W.findIn K (.ref c3) "__getattribute__" = some (some (.builtin "BaseException.__getattribute__")))
 (eh3:PySem.W.findIn K (.ref c3) "__getattr__" = some none)
 (ek3:PySem.W.findIn K (.ref c3) "__class__" = some (some (.builtin "object.__class__")))
 (eo3:PySem.W.mroIn K c3 (.type "object")=some true)
 (eb3:PySem.W.mroIn K c3 (.type "BaseException")=some true)
 (ni3:NI K c3 [c0,c1,c2,c4,c5,c6,c7,c8])
 (es3W:PySem.W.subIn K (.ref c3) (.ref eW)=some true)
 (es3V:PySem.W.subIn K (.ref c3) (.type "ValueError")=some true)
 (el4:K.lookup c4=some (excClassObj nm4 q4 c4 N4 bs4 (.ref eW::[.type "ValueError",.type "Exception",.type "BaseException",.type "object"]) hx4 sn4 sub4 ab4 col4 dd4 ka4 kb4 kc_4 kd4 kf4 "ValueError.__new__"))
 (eN4:K.lookup N4=some ⟨oN4,odN4,.dict es4 ep4,slN4⟩)
 (eK4:exNs es4=true)
 (eg4:PySem.W.findIn K (.ref c4) "__getattribute__" = some (some (.builtin "BaseException.__getattribute__")))
 (eh4:PySem.W.findIn K (.ref c4) "__getattr__" = some none)
 (ek4:PySem.W.findIn K (.ref c4) "__class__" = some (some (.builtin "object.__class__")))
 (eo4:PySem.W.mroIn K c4 (.type "object")=some true)
 (eb4:PySem.W.mroIn K c4 (.type "BaseException")=some true)
 (ni4:NI K c4 [c0,c1,c2,c3,c5,c6,c7,c8])
 (es4W:PySem.W.subIn K (.ref c4) (.ref eW)=some true)
 (es4V:PySem.W.subIn K (.ref c4) (.type "ValueError")=some true)
 (el5:K.lookup c5=some (excClassObj nm5 q5 c5 N5 bs5 (.ref eW::[.type "ValueError",.type "Exception",.type "BaseException",.type "object"]) hx5 sn5 sub5 ab5 col5 dd5 ka5 kb5 kc_5 kd5 kf5 "ValueError.__new__"))
 (eN5:K.lookup N5=some ⟨oN5,odN5,.dict es5 ep5,slN5⟩)
 (eK5:exNs es5=true)
 (eg5:PySem.W.findIn K (.ref c5) "__getattribute__" = some (some (.builtin "BaseException.__getattribute__")))
 (eh5:PySem.W.findIn K (.ref c5) "__getattr__" = some none)
 (ek5:PySem.W.findIn K (.ref c5) "__class__" = some (some (.builtin "object.__class__")))
 (eo5:PySem.W.mroIn K c5 (.type "object")=some true)
 (eb5:PySem.W.mroIn K c5 (.type "BaseException")=some true)
 (ni5:NI K c5 [c0,c1,c2,c3,c4,c6,c7,c8])
 (es5W:PySem.W.subIn K (.ref c5) (.ref eW)=some true)
 (es5V:PySem.W.subIn K (.ref c5) (.type "ValueError")=some true)
 (el6:K.lookup c6=some (excClassObj nm6 q6 c6 N6 bs6 (.ref eW::[.type "ValueError",.type "Exception",.type "BaseException",.type "object"]) hx6 sn6 sub6 ab6 col6 dd6 ka6 kb6 kc_6 kd6 kf6 "ValueError.__new__"))
 (eN6:K.lookup N6=some ⟨oN6,odN6,.dict es6 ep6,slN6⟩)
 (eK6:exNs es6=true)
 (eg6:PySem.W.findIn K (.ref c6) "__getattribute__" = some (some (.builtin "BaseException.__getattribute__")))
 (eh6:PySem.W.findIn K (.ref c6) "__getattr__" = some none)
 (ek6:PySem.W.findIn K (.ref c6) "__class__" = some (some (.builtin "object.__class__")))
 (eo6:PySem.W.mroIn K c6 (.type "object")=some true)
 (eb6:PySem.W.mroIn K c6 (.type "BaseException")=some true)
 (ni6:NI K c6 [c0,c1,c2,c3,c4,c5,c7,c8])
 (es6W:PySem.W.subIn K (.ref c6) (.ref eW)=some true)
 (es6V:PySem.W.subIn K (.ref c6) (.type "ValueError")=some true)
 (el7:K.lookup c7=some (excClassObj nm7 q7 c7 N7 bs7 (.ref eW::[.type "ValueError",.type "Exception",.type "BaseException",.type "object"]) true sn7 sub7 ab7 col7 dd7 ka7 kb7 kc_7 kd7 kf7 "ValueError.__new__"))
 (eN7:K.lookup N7=some ⟨oN7,odN7,.dict es7 ep7,slN7⟩)
 (eK7:exStr es7=true)
 (xi7:nsFind es7 "__init__" = some (.ref fxg7))
 (xs7:PySem.W.findIn K (.ref c7) "__setattr__" = some (some (.builtin "object.__setattr__")))
 (xn7:PySem.W.findIn K (.ref c7) "house" = some none)
 (lxg7:K.lookup fxg7=some ⟨.type "function",odxg7,.func (PySem.W.fnOf "__init__" "Gone.__init__" (defArgs (inCls (top 10) 0)) (defBody (inCls (top 10) 0)) (defScope (inCls (top 10) 0)) .none kVxg7 dcxg7 pmxg7 anxg7 cdxg7 ctxg7),slxg7⟩)
 (cxg7:PySem.W.codeIn K cdxg7 "Gone.__init__" = true)
 (kxg7:PySem.W.keepIn K (.ref fxg7)=true)
 (eg7:PySem.W.findIn K (.ref c7) "__getattribute__" = some (some (.builtin "BaseException.__getattribute__")))
 (eh7:PySem.W.findIn K (.ref c7) "__getattr__" = some none)
 (ek7:PySem.W.findIn K (.ref c7) "__class__" = some (some (.builtin "object.__class__")))
 (eo7:PySem.W.mroIn K c7 (.type "object")=some true)
 (eb7:PySem.W.mroIn K c7 (.type "BaseException")=some true)
 (ni7:NI K c7 [c0,c1,c2,c3,c4,c5,c6,c8])
 (es7W:PySem.W.subIn K (.ref c7) (.ref eW)=some true)
 (es7V:PySem.W.subIn K (.ref c7) (.type "ValueError")=some true)
 (el8:K.lookup c8=some (excClassObj nm8 q8 c8 N8 bs8 (.ref eW::[.type "ValueError",.type "Exception",.type "BaseException",.type "object"]) hx8 sn8 sub8 ab8 col8 dd8 ka8 kb8 kc_8 kd8 kf8 "ValueError.__new__"))
 (eN8:K.lookup N8=some ⟨oN8,odN8,.dict es8 ep8,slN8⟩)
 (eK8:exNs es8=true)
 (eg8:PySem.W.findIn K (.ref c8) "__getattribute__" = some (some (.builtin "BaseException.__getattribute__")))
 (eh8:PySem.W.findIn K (.ref c8) "__getattr__" = some none)
 (ek8:PySem.W.findIn K (.ref c8) "__class__" = some (some (.builtin "object.__class__")))
 (eo8:PySem.W.mroIn K c8 (.type "object")=some true)
 (eb8:PySem.W.mroIn K c8 (.type "BaseException")=some true)
 (ni8:NI K c8 [c0,c1,c2,c3,c4,c5,c6,c7])
 (es8W:PySem.W.subIn K (.ref c8) (.ref eW)=some true)
 (es8V:PySem.W.subIn K (.ref c8) (.type "ValueError")=some true)
 (lcode0:K.lookup cc0=some ⟨.type "code",odc0,.fields vsc0,slc0⟩)
 (vP0:vsc0[11]?=some (.ref Pt0))
 (vC0:codeChk vsc0 cc0 Pt0=true):
 ∃fd:FuncData,(∀(s:Shared) (v:Value),BindsTo s fd ⟨[v],[]⟩ [("_law_script",v)])/\∀base:Heap,K.In base->base.Ns mainGlobals mg->BmAt mg base->FnOk l.prog w K mg base (CXF l.prog w) (4*12+4) fa fd ["_law_script"] (spLaw K P.T [(Pt0,lamQ0)] ((RF.calls P (12+1)).f 27)):=by
 have e:=hfa.symm.trans (PySem.W.mg_of X G au27)
 cases e
 have Fu27:=fun_mk (st:=top 77) lu27 cu27d ku27
 have Fm2_0:=fun_mk (st:=inCls (top 54) 0) lm2_0 cm2_0d km2_0
 have bm2_0:=kb_house (an:=anm2_0) (dc:=dcm2_0) (pm:=pmm2_0) (cd:=cdm2_0) (ct:=ctm2_0) lkd2
 have Fm3_0:=fun_mk (st:=inCls (top 56) 0) lm3_0 cm3_0d km3_0
 have bm3_0:=kb_net (an:=anm3_0) (dc:=dcm3_0) (pm:=pmm3_0) (cd:=cdm3_0) (ct:=ctm3_0) lkd3
 obtain⟨atm,_,Ftm⟩:=tm
 have btm:=Ftm.binds (ps:=["_law_deed"]) fun _ _ _ _ _ _ us hl=>by obtain⟨_,rfl⟩:=len1 hl;rfl
 have bl:=Fu27.binds (ps:=["_law_script"]) fun _ _ _ _ _ _ us hl=>by obtain⟨_,rfl⟩:=len1 hl;rfl
 have CL0:Cls K C0:=⟨pg0,hd0,po0,sa0⟩
 have CL1:Cls K C1:=⟨pg1,hd1,po1,sa1⟩
 have CL2:Cls K C2:=⟨pg2,hd2,po2,sa2⟩
 have CL3:Cls K C3:=⟨pg3,hd3,po3,sa3⟩
 have RC0:ExcC K c0:=excC_mk el0 eN0 eK0 elW eNW eKW
 have RC1:ExcC K c1:=excC_mk el1 eN1 eK1 elW eNW eKW
 have RC2:ExcC K c2:=excC_mk el2 eN2 eK2 elW eNW eKW
 have RC3:ExcC K c3:=excC_mk el3 eN3 eK3 elW eNW eKW
 have RC4:ExcC K c4:=excC_mk el4 eN4 eK4 elW eNW eKW
 have RC5:ExcC K c5:=excC_mk el5 eN5 eK5 elW eNW eKW
 have RC6:ExcC K c6:=excC_mk el6 eN6 eK6 elW eNW eKW
 have XG7:=xc_mk (P:=l.prog) (w:=w) el7 eN7 eK7 xi7 elW eNW eKW xs7 eg7 eh7 xn7 lxg7 (fun_mk (st:=inCls (top 10) 0) lxg7 cxg7 kxg7) xiG7 (fun s u1 u2=>.of_eq rfl)
 have RC8:ExcC K c8:=excC_mk el8 eN8 eK8 elW eNW eKW
 obtain⟨⟨es0_1,en0_1⟩,⟨es0_2,en0_2⟩,⟨es0_3,en0_3⟩,⟨es0_4,en0_4⟩,⟨es0_5,en0_5⟩,⟨es0_6,en0_6⟩,⟨es0_7,en0_7⟩,⟨es0_8,en0_8⟩,_⟩:=ni0
 have RI0:ExcIs K c0:=⟨eg0,eh0,ek0,egn,etk,eo0,eb0,by rw [nc0];rfl⟩
 have RO0:∀d c,[c0,c1,c2,c3,c4,c5,c6,c7,c8][d]?=some c->PySem.W.kitOne K (.ref c0) (.ref c)=some (0==d):=fun d c hc=>flg9 (kf:=fun i=>0==i) kit_self (kit_other en0_1 nc1 nt1 es0_1) (kit_other en0_2 nc2 nt2 es0_2) (kit_other en0_3 nc3 nt3 es0_3) (kit_other en0_4 nc4 nt4 es0_4) (kit_other en0_5 nc5 nt5 es0_5) (kit_other en0_6 nc6 nt6 es0_6) (kit_other en0_7 nc7 nt7 es0_7) (kit_other en0_8 nc8 nt8 es0_8) hc
 obtain⟨⟨es1_0,en1_0⟩,⟨es1_2,en1_2⟩,⟨es1_3,en1_3⟩,⟨es1_4,en1_4⟩,⟨es1_5,en1_5⟩,⟨es1_6,en1_6⟩,⟨es1_7,en1_7⟩,⟨es1_8,en1_8⟩,_⟩:=ni1
 have RI1:ExcIs K c1:=⟨eg1,eh1,ek1,egn,etk,eo1,eb1,by rw [nc1];rfl⟩
 have RO1:∀d c,[c0,c1,c2,c3,c4,c5,c6,c7,c8][d]?=some c->PySem.W.kitOne K (.ref c1) (.ref c)=some (1==d):=fun d c hc=>flg9 (kf:=fun i=>1==i) (kit_other en1_0 nc0 nt0 es1_0) kit_self (kit_other en1_2 nc2 nt2 es1_2) (kit_other en1_3 nc3 nt3 es1_3) (kit_other en1_4 nc4 nt4 es1_4) (kit_other en1_5 nc5 nt5 es1_5) (kit_other en1_6 nc6 nt6 es1_6) (kit_other en1_7 nc7 nt7 es1_7) (kit_other en1_8 nc8 nt8 es1_8) hc
 obtain⟨⟨es2_0,en2_0⟩,⟨es2_1,en2_1⟩,⟨es2_3,en2_3⟩,⟨es2_4,en2_4⟩,⟨es2_5,en2_5⟩,⟨es2_6,en2_6⟩,⟨es2_7,en2_7⟩,⟨es2_8,en2_8⟩,_⟩:=ni2
 have RI2:ExcIs K c2:=⟨eg2,eh2,ek2,egn,etk,eo2,eb2,by rw [nc2];rfl⟩
 have RO2:∀d c,[c0,c1,c2,c3,c4,c5,c6,c7,c8][d]?=some c->PySem.W.kitOne K (.ref c2) (.ref c)=some (2==d):=fun d c hc=>flg9 (kf:=fun i=>2==i) (kit_other en2_0 nc0 nt0 es2_0) (kit_other en2_1 nc1 nt1 es2_1) kit_self (kit_other en2_3 nc3 nt3 es2_3) (kit_other en2_4 nc4 nt4 es2_4) (kit_other en2_5 nc5 nt5 es2_5) (kit_other en2_6 nc6 nt6 es2_6) (kit_other en2_7 nc7 nt7 es2_7) (kit_other en2_8 nc8 nt8 es2_8) hc
 obtain⟨⟨es3_0,en3_0⟩,⟨es3_1,en3_1⟩,⟨es3_2,en3_2⟩,⟨es3_4,en3_4⟩,⟨es3_5,en3_5⟩,⟨es3_6,en3_6⟩,⟨es3_7,en3_7⟩,⟨es3_8,en3_8⟩,_⟩:=ni3
 have RI3:ExcIs K c3:=⟨eg3,eh3,ek3,egn,etk,eo3,eb3,by rw [nc3];rfl⟩
 have RO3:∀d c,[c0,c1,c2,c3,c4,c5,c6,c7,c8][d]?=some c->PySem.W.kitOne K (.ref c3) (.ref c)=some (3==d):=fun d c hc=>flg9 (kf:=fun i=>3==i) (kit_other en3_0 nc0 nt0 es3_0) (kit_other en3_1 nc1 nt1 es3_1) (kit_other en3_2 nc2 nt2 es3_2) kit_self (kit_other en3_4 nc4 nt4 es3_4) (kit_other en3_5 nc5 nt5 es3_5) (kit_other en3_6 nc6 nt6 es3_6) (kit_other en3_7 nc7 nt7 es3_7) (kit_other en3_8 nc8 nt8 es3_8) hc
 obtain⟨⟨es4_0,en4_0⟩,⟨es4_1,en4_1⟩,⟨es4_2,en4_2⟩,⟨es4_3,en4_3⟩,⟨es4_5,en4_5⟩,⟨es4_6,en4_6⟩,⟨es4_7,en4_7⟩,⟨es4_8,en4_8⟩,_⟩:=ni4
 have RI4:ExcIs K c4:=⟨eg4,eh4,ek4,egn,etk,eo4,eb4,by rw [nc4];rfl⟩
 have RO4:∀d c,[c0,c1,c2,c3,c4,c5,c6,c7,c8][d]?=some c->PySem.W.kitOne K (.ref c4) (.ref c)=some (4==d):=fun d c hc=>flg9 (kf:=fun i=>4==i) (kit_other en4_0 nc0 nt0 es4_0) (kit_other en4_1 nc1 nt1 es4_1) (kit_other en4_2 nc2 nt2 es4_2) (kit_other en4_3 nc3 nt3 es4_3) kit_self (kit_other en4_5 nc5 nt5 es4_5) (kit_other en4_6 nc6 nt6 es4_6) (kit_other en4_7 nc7 nt7 es4_7) (kit_other en4_8 nc8 nt8 es4_8) hc
 obtain⟨⟨es5_0,en5_0⟩,⟨es5_1,en5_1⟩,⟨es5_2,en5_2⟩,⟨es5_3,en5_3⟩,⟨es5_4,en5_4⟩,⟨es5_6,en5_6⟩,⟨es5_7,en5_7⟩,⟨es5_8,en5_8⟩,_⟩:=ni5
 have RI5:ExcIs K c5:=⟨eg5,eh5,ek5,egn,etk,eo5,eb5,by rw [nc5];rfl⟩
 have RO5:∀d c,[c0,c1,c2,c3,c4,c5,c6,c7,c8][d]?=some c->PySem.W.kitOne K (.ref c5) (.ref c)=some (5==d):=fun d c hc=>flg9 (kf:=fun i=>5==i) (kit_other en5_0 nc0 nt0 es5_0) (kit_other en5_1 nc1 nt1 es5_1) (kit_other en5_2 nc2 nt2 es5_2) (kit_other en5_3 nc3 nt3 es5_3) (kit_other en5_4 nc4 nt4 es5_4) kit_self (kit_other en5_6 nc6 nt6 es5_6) (kit_other en5_7 nc7 nt7 es5_7) (kit_other en5_8 nc8 nt8 es5_8) hc
 obtain⟨⟨es6_0,en6_0⟩,⟨es6_1,en6_1⟩,⟨es6_2,en6_2⟩,⟨es6_3,en6_3⟩,⟨es6_4,en6_4⟩,⟨es6_5,en6_5⟩,⟨es6_7,en6_7⟩,⟨es6_8,en6_8⟩,_⟩:=ni6
 have RI6:ExcIs K c6:=⟨eg6,eh6,ek6,egn,etk,eo6,eb6,by rw [nc6];rfl⟩
 have RO6:∀d c,[c0,c1,c2,c3,c4,c5,c6,c7,c8][d]?=some c->PySem.W.kitOne K (.ref c6) (.ref c)=some (6==d):=fun d c hc=>flg9 (kf:=fun i=>6==i) (kit_other en6_0 nc0 nt0 es6_0) (kit_other en6_1 nc1 nt1 es6_1) (kit_other en6_2 nc2 nt2 es6_2) (kit_other en6_3 nc3 nt3 es6_3) (kit_other en6_4 nc4 nt4 es6_4) (kit_other en6_5 nc5 nt5 es6_5) kit_self (kit_other en6_7 nc7 nt7 es6_7) (kit_other en6_8 nc8 nt8 es6_8) hc
 obtain⟨⟨es7_0,en7_0⟩,⟨es7_1,en7_1⟩,⟨es7_2,en7_2⟩,⟨es7_3,en7_3⟩,⟨es7_4,en7_4⟩,⟨es7_5,en7_5⟩,⟨es7_6,en7_6⟩,⟨es7_8,en7_8⟩,_⟩:=ni7
 have RI7:ExcIs K c7:=⟨eg7,eh7,ek7,egn,etk,eo7,eb7,by rw [nc7];rfl⟩
 have RO7:∀d c,[c0,c1,c2,c3,c4,c5,c6,c7,c8][d]?=some c->PySem.W.kitOne K (.ref c7) (.ref c)=some (7==d):=fun d c hc=>flg9 (kf:=fun i=>7==i) (kit_other en7_0 nc0 nt0 es7_0) (kit_other en7_1 nc1 nt1 es7_1) (kit_other en7_2 nc2 nt2 es7_2) (kit_other en7_3 nc3 nt3 es7_3) (kit_other en7_4 nc4 nt4 es7_4) (kit_other en7_5 nc5 nt5 es7_5) (kit_other en7_6 nc6 nt6 es7_6) kit_self (kit_other en7_8 nc8 nt8 es7_8) hc
 obtain⟨⟨es8_0,en8_0⟩,⟨es8_1,en8_1⟩,⟨es8_2,en8_2⟩,⟨es8_3,en8_3⟩,⟨es8_4,en8_4⟩,⟨es8_5,en8_5⟩,⟨es8_6,en8_6⟩,⟨es8_7,en8_7⟩,_⟩:=ni8
 have RI8:ExcIs K c8:=⟨eg8,eh8,ek8,egn,etk,eo8,eb8,by rw [nc8];rfl⟩
 have RO8:∀d c,[c0,c1,c2,c3,c4,c5,c6,c7,c8][d]?=some c->PySem.W.kitOne K (.ref c8) (.ref c)=some (8==d):=fun d c hc=>flg9 (kf:=fun i=>8==i) (kit_other en8_0 nc0 nt0 es8_0) (kit_other en8_1 nc1 nt1 es8_1) (kit_other en8_2 nc2 nt2 es8_2) (kit_other en8_3 nc3 nt3 es8_3) (kit_other en8_4 nc4 nt4 es8_4) (kit_other en8_5 nc5 nt5 es8_5) (kit_other en8_6 nc6 nt6 es8_6) (kit_other en8_7 nc7 nt7 es8_7) kit_self hc
 refine⟨PySem.W.fnOf "law" "law" (defArgs (top 77)) (defBody (top 77)) (defScope (top 77)) .none kVu27 dcu27 pmu27 anu27 (.ref cc0) ctu27,fun s v=>.of_eq rfl,fun base _ _ BM=>?_⟩
 have LM0:∀k,LamF l.prog w K mg base ⟨P.T,fun c=>[C0,C1,C2,C3].getD c 0,fun c=>[c0,c1,c2,c3,c4,c5,c6,c7,c8].getD c 0,[(Pt0,lamQ0)]⟩ "law" (defScope (top 77)) fa (PySem.W.fnOf "law" "law" (defArgs (top 77)) (defBody (top 77)) (defScope (top 77)) .none kVu27 dcu27 pmu27 anu27 (.ref cc0) ctu27) k:=fun k=>by
  refine⟨cc0,Pt0,ftm,eW,.head _,fun p hp=>?_,rfl,codeHd_mk lcode0 vC0,BM,ok_met Ftm btm (PySem.W.mg_of X G eaW) nbW,PySem.W.mg_of X G atm,Ftm.kp,fun i hi=>?_⟩
  ·simp only [List.mem_cons,List.not_mem_nil,or_false] at hp
   rcases hp with rfl
   ·intro _;rfl
  ·match i,hi with
   | 0,_=>exact kit_cls ncW ntW es0W
   | 1,_=>exact kit_cls ncW ntW es1W
   | 2,_=>exact kit_cls ncW ntW es2W
   | 3,_=>exact kit_cls ncW ntW es3W
   | 4,_=>exact kit_cls ncW ntW es4W
   | 5,_=>exact kit_cls ncW ntW es5W
   | 6,_=>exact kit_cls ncW ntW es6W
   | 7,_=>exact kit_cls ncW ntW es7W
   | 8,_=>exact kit_cls ncW ntW es8W
   | i+9,hx=>exact absurd hx (by simp [P,T])
 have GG:ProgK l.prog w K mg base ⟨P.T,fun c=>[C0,C1,C2,C3].getD c 0,fun c=>[c0,c1,c2,c3,c4,c5,c6,c7,c8].getD c 0,[(Pt0,lamQ0)]⟩ P:=by
  refine⟨rfl,fun x d hx=>?_,fun x i hx=>?_,fun x c hx=>?_,fun c hc=>?_,fun c f x hc hp hx=>?_,fun c m x hM hx=>?_,fun x c hx=>?_,fun x hx=>?_,fun x kvs hx=>?_,fun a xs hx=>?_,fun c hc=>?_⟩
  ·obtain⟨p,hp,e1,e2⟩:=lookup_mem hx
   subst e1 e2
   simp only [P,T,List.mem_cons,List.not_mem_nil,or_false] at hp
   rcases hp with rfl|rfl|rfl|rfl|rfl|rfl|rfl|rfl|rfl
   ·exact⟨_,V.int 7,PySem.W.mg_of X G gc0,⟨_,rfl⟩,fun _ _=>.int _⟩
   ·exact⟨_,V.int 2,PySem.W.mg_of X G gc1,⟨_,rfl⟩,fun _ _=>.int _⟩
   ·exact⟨_,V.int 8,PySem.W.mg_of X G gc2,⟨_,rfl⟩,fun _ _=>.int _⟩
   ·exact⟨_,V.int 5,PySem.W.mg_of X G gc3,⟨_,rfl⟩,fun _ _=>.int _⟩
   ·exact⟨_,V.int 9,PySem.W.mg_of X G gc4,⟨_,rfl⟩,fun _ _=>.int _⟩
   ·exact⟨_,V.int 1,PySem.W.mg_of X G gc5,⟨_,rfl⟩,fun _ _=>.int _⟩
   ·exact⟨_,V.int 20,PySem.W.mg_of X G gc6,⟨_,rfl⟩,fun _ _=>.int _⟩
   ·exact⟨_,V.str "0123456789",PySem.W.mg_of X G gc7,⟨_,rfl⟩,fun _ _=>.str _⟩
   ·exact⟨_,V.int 3,PySem.W.mg_of X G gc8,⟨_,rfl⟩,fun _ _=>.int _⟩
  ·have hx:=ixOf_get hx
   show FnAtK l.prog w K mg base _ P x i
   match i,hx with
   | 0,hx=>cases hx;exact fn_pl X G u0 (fun _ F=>bd1 F rfl (by intros;rfl))
   | 1,hx=>cases hx;exact fn_pl X G u1 (fun _ F=>bd3 F rfl (by intros;rfl))
   | 2,hx=>cases hx;exact fn_pl X G u2 (fun _ F=>bd1 F rfl (by intros;rfl))
   | 3,hx=>cases hx;exact fn_pl X G u3 (fun _ F=>bd1 F rfl (by intros;rfl))
   | 4,hx=>cases hx;exact fn_pl X G u4 (fun _ F=>bd2 F rfl (by intros;rfl))
   | 5,hx=>cases hx;exact fn_pl X G u5 (fun _ F=>bd3 F rfl (by intros;rfl))
   | 6,hx=>cases hx;exact fn_pl X G u6 (fun _ F=>bd1 F rfl (by intros;rfl))
   | 7,hx=>cases hx;exact fn_pl X G u7 (fun _ F=>bd1 F rfl (by intros;rfl))
   | 8,hx=>cases hx;exact fn_pl X G u8 (fun _ F=>bd2 F rfl (by intros;rfl))
   | 9,hx=>cases hx;exact fn_pl X G u9 (fun _ F=>bd1 F rfl (by intros;rfl))
   | 10,hx=>cases hx;exact fn_pl X G u10 (fun _ F=>bd1 F rfl (by intros;rfl))
   | 11,hx=>cases hx;exact fn_pl X G u11 (fun _ F=>bd1 F rfl (by intros;rfl))
   | 12,hx=>cases hx;exact fn_pl X G u12 (fun _ F=>bd1 F rfl (by intros;rfl))
   | 13,hx=>cases hx;exact fn_pl X G u13 (fun _ F=>bd1 F rfl (by intros;rfl))
   | 14,hx=>cases hx;exact fn_pl X G u14 (fun _ F=>bd1 F rfl (by intros;rfl))
   | 15,hx=>cases hx;exact fn_pl X G u15 (fun _ F=>bd2 F rfl (by intros;rfl))
   | 16,hx=>cases hx;exact fn_pl X G u16 (fun _ F=>bd1 F rfl (by intros;rfl))
   | 17,hx=>cases hx;exact fn_pl X G u17 (fun _ F=>bd1 F rfl (by intros;rfl))
   | 18,hx=>cases hx;exact fn_pl X G u18 (fun _ F=>bd1 F rfl (by intros;rfl))
   | 19,hx=>cases hx;exact fn_pl X G u19 (fun _ F=>bd2 F rfl (by intros;rfl))
   | 20,hx=>cases hx;exact fn_pl X G u20 (fun _ F=>bd1 F rfl (by intros;rfl))
   | 21,hx=>cases hx;exact fn_pl X G u21 (fun _ F=>bd1 F rfl (by intros;rfl))
   | 22,hx=>cases hx;exact fn_pl X G u22 (fun _ F=>bd2 F rfl (by intros;rfl))
   | 23,hx=>cases hx;exact fn_pl X G u23 (fun _ F=>bd2 F rfl (by intros;rfl))
   | 24,hx=>cases hx;exact fn_pl X G u24 (fun _ F=>bd2 F rfl (by intros;rfl))
   | 25,hx=>cases hx;exact fn_pl X G u25 (fun _ F=>bd2 F rfl (by intros;rfl))
   | 26,hx=>cases hx;exact fn_pl X G u26 (fun _ F=>bd2 F rfl (by intros;rfl))
   | 27,hx=>cases hx;exact fnAt_mk (g:=gOf (top 77)) Fu27 rfl rfl (by decide +kernel) (PySem.W.mg_of X G au27) bl (fun _=>LM0)
   | i+28,hx=>exact absurd hx (by simp [P,T])
  ·have hx:=ixOf_get hx
   match c,hx with
   | 0,hx=>cases hx;exact PySem.W.mg_of X G aC0
   | 1,hx=>cases hx;exact PySem.W.mg_of X G aC1
   | 2,hx=>cases hx;exact PySem.W.mg_of X G aC2
   | 3,hx=>cases hx;exact PySem.W.mg_of X G aC3
   | c+4,hx=>exact absurd hx (by simp [P,T])
  ·match c,hc with
   | 0,_=>exact CL0
   | 1,_=>exact CL1
   | 2,_=>exact CL2
   | 3,_=>exact CL3
   | c+4,hc=>exact absurd hc (by simp [P,T])
  ·have hm:=RF.free_mem hp hx
   match c,hc with
   | 0,_=>exact fr0.at hm
   | 1,_=>exact fr1.at hm
   | 2,_=>exact fr2.at hm
   | 3,_=>exact fr3.at hm
   | c+4,hc=>exact absurd hc (by simp [P,T])
  ·show MtAtK K _ P c m x
   obtain⟨p,hp,e⟩:=List.any_eq_true.mp hM
   obtain⟨e1,e2⟩:=two_beq e
   subst e1 e2
   simp only [P,T,List.mem_cons,List.not_mem_nil,or_false] at hp
   rcases hp with rfl|rfl|rfl|rfl|rfl|rfl|rfl|rfl|rfl|rfl|rfl|rfl|rfl|rfl|rfl|rfl|rfl|rfl<;>cases hx
   ·obtain⟨am0_0,im0_0,_,Fm0_0⟩:=m0_0;exact mtAt_mk (g:=gOf (inCls (top 46) 0)) Fm0_0 rfl rfl (by decide +kernel) ⟨am0_0,im0_0,Fm0_0.kp⟩ (.inr ⟨fun _=>rfl,(bd2 Fm0_0 rfl (by intros;rfl))⟩) (fun _=>⟨mk0,am0_0,im0_0,kc0⟩) CL0
   ·exact mt_pl m0_1 (fun _ F=>bd5 F rfl (by intros;rfl)) CL0
   ·obtain⟨am1_0,im1_0,_,Fm1_0⟩:=m1_0;exact mtAt_mk (g:=gOf (inCls (top 48) 0)) Fm1_0 rfl rfl (by decide +kernel) ⟨am1_0,im1_0,Fm1_0.kp⟩ (.inr ⟨fun _=>rfl,(bd1 Fm1_0 rfl (by intros;rfl))⟩) (fun _=>⟨mk1,am1_0,im1_0,kc1⟩) CL1
   ·exact mt_pl m1_1 (fun _ F=>bd3 F rfl (by intros;rfl)) CL1
   ·exact mtAt_mk (g:=gOf (inCls (top 54) 0)) Fm2_0 rfl rfl (by decide +kernel) ⟨am2_0,im2_0,Fm2_0.kp⟩ bm2_0 (fun _=>⟨mk2,am2_0,im2_0,kc2⟩) CL2
   ·exact mt_pl m2_1 (fun _ F=>bd3 F rfl (by intros;rfl)) CL2
   ·exact mt_pl m2_2 (fun _ F=>bd4 F rfl (by intros;rfl)) CL2
   ·exact mtAt_mk (g:=gOf (inCls (top 56) 0)) Fm3_0 rfl rfl (by decide +kernel) ⟨am3_0,im3_0,Fm3_0.kp⟩ bm3_0 (fun _=>⟨mk3,am3_0,im3_0,kc3⟩) CL3
   ·exact mt_pl m3_1 (fun _ F=>bd3 F rfl (by intros;rfl)) CL3
   ·exact mt_pl m3_7 (fun _ F=>bd3 F rfl (by intros;rfl)) CL3
   ·exact mt_pl m3_8 (fun _ F=>bd3 F rfl (by intros;rfl)) CL3
   ·exact mt_pl m3_9 (fun _ F=>bd3 F rfl (by intros;rfl)) CL3
   ·exact mt_pl m3_11 (fun _ F=>bd2 F rfl (by intros;rfl)) CL3
   ·exact mt_pl m3_17 (fun _ F=>bd3 F rfl (by intros;rfl)) CL3
   ·exact mt_pl m3_25 (fun _ F=>bd3 F rfl (by intros;rfl)) CL3
   ·exact mt_pl m3_26 (fun _ F=>bd2 F rfl (by intros;rfl)) CL3
   ·exact mt_pl m3_27 (fun _ F=>bd2 F rfl (by intros;rfl)) CL3
   ·exact mt_pl m3_28 (fun _ F=>bd3 F rfl (by intros;rfl)) CL3
  ·have hx:=ixOf_get hx
   match c,hx with
   | 0,hx=>cases hx;exact⟨PySem.W.mg_of X G na0,fun _=>RC0,fun f hf=>absurd hf (by show (none:Option Str)≠some f;simp)⟩
   | 1,hx=>cases hx;exact⟨PySem.W.mg_of X G na1,fun _=>RC1,fun f hf=>absurd hf (by show (none:Option Str)≠some f;simp)⟩
   | 2,hx=>cases hx;exact⟨PySem.W.mg_of X G na2,fun _=>RC2,fun f hf=>absurd hf (by show (none:Option Str)≠some f;simp)⟩
   | 3,hx=>cases hx;exact⟨PySem.W.mg_of X G na3,fun _=>RC3,fun f hf=>absurd hf (by show (none:Option Str)≠some f;simp)⟩
   | 4,hx=>cases hx;exact⟨PySem.W.mg_of X G na4,fun _=>RC4,fun f hf=>absurd hf (by show (none:Option Str)≠some f;simp)⟩
   | 5,hx=>cases hx;exact⟨PySem.W.mg_of X G na5,fun _=>RC5,fun f hf=>absurd hf (by show (none:Option Str)≠some f;simp)⟩
   | 6,hx=>cases hx;exact⟨PySem.W.mg_of X G na6,fun _=>RC6,fun f hf=>absurd hf (by show (none:Option Str)≠some f;simp)⟩
   | 7,hx=>cases hx;exact⟨PySem.W.mg_of X G na7,fun hn=>absurd hn (by show (some "house":Option Str)≠none;simp),fun f hf=>by cases (show (some "house":Option Str)=some f from hf);exact XG7.1⟩
   | 8,hx=>cases hx;exact⟨PySem.W.mg_of X G na8,fun _=>RC8,fun f hf=>absurd hf (by show (none:Option Str)≠some f;simp)⟩
   | c+9,hx=>exact absurd hx (by simp [P,T])
  ·simp only [bNames,List.mem_cons,List.not_mem_nil,or_false] at hx
   rcases hx with rfl|rfl|rfl|rfl|rfl|rfl|rfl|rfl|rfl|rfl|rfl|rfl|rfl|rfl|rfl|rfl
   ·exact PySem.W.mg_none_of X G zn0
   ·exact PySem.W.mg_none_of X G zn1
   ·exact PySem.W.mg_none_of X G zn2
   ·exact PySem.W.mg_none_of X G zn3
   ·exact PySem.W.mg_none_of X G zn4
   ·exact PySem.W.mg_none_of X G zn5
   ·exact PySem.W.mg_none_of X G zn6
   ·exact PySem.W.mg_none_of X G zn7
   ·exact PySem.W.mg_none_of X G zn8
   ·exact PySem.W.mg_none_of X G zn9
   ·exact PySem.W.mg_none_of X G zn10
   ·exact PySem.W.mg_none_of X G zn11
   ·exact PySem.W.mg_none_of X G zn12
   ·exact PySem.W.mg_none_of X G zn13
   ·exact PySem.W.mg_none_of X G zn14
   ·exact PySem.W.mg_none_of X G zn15
  ·obtain⟨e1,e2⟩:=look1 hx
   subst e1 e2
   exact⟨_,PySem.W.mg_of X G gkd,kd_gen [("ask",tk0,817),("own",tk1,818),("disown",tk2,819),("teach",tk3,820),("forget",tk4,821),("come",tk5,822),("lose",tk6,823),("cut",tk7,824),("mend",tk8,825),("leave",tk9,826),("settle",tk10,827),("tick",tk11,828)] lkdd (by decide) (by kernel_rfl)⟩
  ·obtain⟨e1,e2⟩:=look1 hx
   subst e1 e2
   exact kt_mk lktt
  ·match c,hc with
   | 0,_=>exact⟨RI0,fun d hd=>RO0 d _ (nine_get hd),kit_val es0V,fun f hf=>absurd hf (by show (none:Option Str)≠some f;simp)⟩
   | 1,_=>exact⟨RI1,fun d hd=>RO1 d _ (nine_get hd),kit_val es1V,fun f hf=>absurd hf (by show (none:Option Str)≠some f;simp)⟩
   | 2,_=>exact⟨RI2,fun d hd=>RO2 d _ (nine_get hd),kit_val es2V,fun f hf=>absurd hf (by show (none:Option Str)≠some f;simp)⟩
   | 3,_=>exact⟨RI3,fun d hd=>RO3 d _ (nine_get hd),kit_val es3V,fun f hf=>absurd hf (by show (none:Option Str)≠some f;simp)⟩
   | 4,_=>exact⟨RI4,fun d hd=>RO4 d _ (nine_get hd),kit_val es4V,fun f hf=>absurd hf (by show (none:Option Str)≠some f;simp)⟩
   | 5,_=>exact⟨RI5,fun d hd=>RO5 d _ (nine_get hd),kit_val es5V,fun f hf=>absurd hf (by show (none:Option Str)≠some f;simp)⟩
   | 6,_=>exact⟨RI6,fun d hd=>RO6 d _ (nine_get hd),kit_val es6V,fun f hf=>absurd hf (by show (none:Option Str)≠some f;simp)⟩
   | 7,_=>exact⟨RI7,fun d hd=>RO7 d _ (nine_get hd),kit_val es7V,fun f hf=>by cases (show (some "house":Option Str)=some f from hf);exact⟨eW,XG7.2⟩⟩
   | 8,_=>exact⟨RI8,fun d hd=>RO8 d _ (nine_get hd),kit_val es8V,fun f hf=>absurd hf (by show (none:Option Str)≠some f;simp)⟩
   | c+9,hc=>exact absurd hc (by simp [P,T])
 exact fn_law (g:=gOf (top 77)) GG Fu27 rfl rfl (by decide +kernel) rfl (fun _=>LM0)
theorem nd:P.T.nams.Nodup:=nodup_of (by decide +kernel)
theorem walk {l:PySem.W.OpenLaw}{q:Program}{loose:List Str}{XP:(Str->Option Value)->Heap->Prop}{YP:World->Heap->Prop}{d:DefRec}{K:Params->PySem.W.Frag}(cc0 Pt0:Addr)(hn:l.most=some 63)(hdf:d.params.defaults=[])
 (hY:∀(w:World) (h:Heap),YP w h->(K w.params).In h) (hT0:∀(w:World) (h:Heap),YP w h->h.get? Pt0=some (PySem.W.tabObj #[])) (hC0:∀w:World,PySem.W.codeHdIn (K w.params) cc0 Pt0=true) (hKP0:∀w:World,(K w.params).lookup Pt0=none)
 (F:∀(w:World) (mg:Str->Option Value) (fa:Addr) (h:Heap),(K w.params).In h->h.Ns mainGlobals mg->mg d.name=some (.ref fa) ->
   ∃fd:FuncData,(∀(s:Shared) (u:Value),BindsTo s fd ⟨[u],[]⟩ [("_law_script",u)])/\∀base:Heap,(K w.params).In base->base.Ns mainGlobals mg->BmAt mg base->FnOk l.prog w (K w.params) mg base (CXF l.prog w) (4*12+4) fa fd ["_law_script"] (spLaw (K w.params) P.T [(Pt0,lamQ0)] ((RF.calls P (12+1)).f 27))):
 PySem.W.WalkO q loose XP YP l.row.toRowW d [] (fun f vs=>PySem.call f vs):=
 L2.walk_ofR (n:=63) (k:=4*12+4) (x:="_law_script") (CX:=fun w=>CXF l.prog w) (sp:=fun w=>spLaw (K w.params) P.T [(Pt0,lamQ0)] ((RF.calls P (12+1)).f 27)) [Pt0] hn (by decide) hdf ⟨rfl,by decide,by decide⟩ hY
  (fun w h Y X P hP=>by
    simp only [List.mem_cons,List.not_mem_nil,or_false] at hP
    rcases hP with rfl
    ·exact⟨cc0,PySem.W.codeHd_of_K X (hC0 w),hT0 w h Y⟩) (fun w P hP=>by
    simp only [List.mem_cons,List.not_mem_nil,or_false] at hP
    rcases hP with rfl
    ·exact hKP0 w) F
  (fun _ _ a ns hl hP hS=>⟨rfl,fun W hW hb=>by
    obtain⟨S',e⟩:=law_true ns hl
    exact law_sp (by rw [hW];exact nd) (by rw [hb];intro p hp;simp only [List.mem_cons,List.not_mem_nil,or_false] at hp;rcases hp with rfl<;>exact hP _ (by simp)) e hS⟩) fun _ _ _ _ _ ⟨_,_,_,_,_,_,_,_,_,_,_,_,_,_,_,_,_,_,_,h⟩=>h
end Q81
section
open PySem PySem.W PyProof.Rows
local macro_rules
 | `(tactic| array_mem_dec)=>`(tactic| first | k_is | rfl | (refine' ⟨?a,_,L2.fun_mk ?l ?c ?k⟩;(case a=>k_is);(case l=>k_is);(case c=>k_is);(case k=>k_is)) | (refine' ⟨?a,?i,_,L2.fun_mk ?l ?c ?k⟩;(case a=>k_is);(case i=>k_is);(case l=>k_is);(case c=>k_is);(case k=>k_is)) | (repeat (first | exact trivial | refine⟨by k_is,?_⟩ | refine⟨⟨by k_is,rfl⟩,?_⟩)))
set_option maxRecDepth 100000 in
set_option maxHeartbeats 0 in
theorem PySem.Challenge.cw_namewants_k81_refusals_apart_holds : PySem.Challenge.rw_namewants_k81_refusals_apart.Holds := by
 w_on;o_law
 refine holds_open (N:=12000) (q:=Q81.vw) (loose:=["HOUSES_MOST","House","Net","PARTS"]) (Xt:=fun s=>PySem.W.xlAt Q81.vw [] s&&PySem.W.recOk (PySem.W.RowW.records (PySem.W.OpenRow.toRowW (PySem.W.OpenLaw.row PySem.Challenge.rw_namewants_k81_refusals_apart))) s)
  (XP:=XL Q81.vw []) (Yf:=Hook.obs (kmHook Q81.Kf Q81.ads (fun _=>by kernel_rfl) [919]))
  (Ya:=Hook.val (kmHook Q81.Kf Q81.ads (fun _=>by kernel_rfl) [919]))
  (YP:=Hook.says (kmHook Q81.Kf Q81.ads (fun _=>by kernel_rfl) [919])) ?hl (Hook.of _) (Hook.keeps _)
  (fun s e=>xl_of s (Bool.and_eq_true_iff.mp e).1)
  XL.keeps (by rfl) (by rfl) (by rfl)
  (fun s e=>recFacts_of (Bool.and_eq_true_iff.mp e).2)
  (by rfl) (by assumption) (by decide +kernel)
  ⟨rfl,rfl,rfl,rfl,rfl,by decide +kernel⟩ ?hw ?hc
 (case hl=>exact TreeRun.left_cut (by kernel_rfl) rfl (fun _=>rfl) (List.take_append_drop 55 _) (by decide) Q81.cut1 Q81.cut2 Q81.cut3 Q81.run_fit Q81.run_seen Q81.run_has)
 (case hw=>w_witness2)
 k_fill
 refine Q81.walk (l:=PySem.Challenge.rw_namewants_k81_refusals_apart) 921 919 rfl rfl (fun w h Y=>PySem.W.km_in_of Y) (fun w h Y=>PySem.W.km_tabs_of Y _ (by simp)) ?hC0 ?hKP0 ?F
 case hC0=>
  intro w
  refine' L2.codeHd_mk ?l ?e
  case l=>k_is
  case e=>rfl
 case hKP0=>
  intro w
  rfl
 case F=>
  intro w mg fa h KX G hmg
  apply Q81.all_mk KX G hmg
  all_goals try array_mem_dec
#print axioms PySem.Challenge.cw_namewants_k81_refusals_apart_holds
end
